/-
  Texts Carve1 of the proof.
-/
import Derived.Deep.DeepCutAuto
import Derived.Test.YtighdocmncbdnaaGreatDoorQOn22
import Derived.Test.YtighdocmncbdnaaGreatDoorQOn31

namespace Go.Proofs.YtighdocmncbdnaaGreatDoor
open Go.ChangeShapes Go.WideShapes Go.ChangeAt Go.RowKit
set_option linter.unusedVariables false
set_option linter.unusedSimpArgs false

set_option maxHeartbeats 800000 in
theorem cuts_c {v : Bool} {h l b k : Int} {a : Nat} (ha : IsNum h l a) (w : World) :
    Calls Tryz.prog 170 #[pv v h l b, .int .i64 k] w fun e w' => e = .returned (.bool (cutB v a b k)) ∧ Below w.heap.size w w' := by
  obtain ⟨W, hW⟩ : ∃ W, widthA v = W := ⟨_, rfl⟩
  have R := fun w' => pright_c (v := v) (b := b) ha w'
  have D := fun w' => width_lit v W hW h l w'
  have hf : cutB v a b k = (okP v a b && decide (b ≤ k) && decide (k ≤ W)) := by rw [← hW]; rfl
  obtain ⟨ok, hok⟩ : ∃ ok, okP v a b = ok := ⟨_, rfl⟩
  rw [hok] at R hf
  clear ha hok hW
  cases ok
  · have f : Hid (cutB v a b k = false) := by show _ = _; rw [hf]; rfl
    clear hf D
    go_enter Tryz.func170, Tryz.ntmps170
    go_wp2_with fail
    refine (R _).mono ?_
    rintro e w1 ⟨rfl, hb1⟩
    obtain ⟨hc1, hf1⟩ := bcell hb1
    have hz_w1_0 : w.heap.size < w1.heap.size   := (by have := hb1.size; first | omega | (simp at this; omega))
    clear R
    go_wp2
    go_ret
    exact ⟨by rw [f.out]; rfl, by repeat (first | with_reducible exact Below.refl _ _ | with_reducible refine Below.drew ?_ | with_reducible refine Below.alloc ?_ (by first | omega | (simp <;> omega)) _ | with_reducible refine Below.setCell ?_ (by first | omega | (simp <;> omega)) _ | with_reducible refine Below.trans ?_ (Below.mono hb1 (by first | omega | (simp <;> omega))))⟩
  · by_cases h0 : b ≤ k
    · by_cases h1 : k ≤ W
      · have f : Hid (cutB v a b k = true) := by show _ = _; rw [hf, decide_eq_true h0, decide_eq_true h1]; rfl
        clear hf
        go_enter Tryz.func170, Tryz.ntmps170
        go_wp2_with fail
        refine (R _).mono ?_
        rintro e w1 ⟨rfl, hb1⟩
        obtain ⟨hc1, hf1⟩ := bcell hb1
        have hz_w1_0 : w.heap.size < w1.heap.size   := (by have := hb1.size; first | omega | (simp at this; omega))
        clear R
        go_wp2_with fail
        refine (D _).mono ?_
        rintro e w2 ⟨rfl, hb2⟩
        clear D
        go_wp2
        go_ret
        exact ⟨by rw [f.out]; rfl, by repeat (first | with_reducible exact Below.refl _ _ | with_reducible refine Below.drew ?_ | with_reducible refine Below.alloc ?_ (by first | omega | (simp <;> omega)) _ | with_reducible refine Below.setCell ?_ (by first | omega | (simp <;> omega)) _ | with_reducible refine Below.trans ?_ (Below.mono hb2 (by first | omega | (simp <;> omega))) | with_reducible refine Below.trans ?_ (Below.mono hb1 (by first | omega | (simp <;> omega))))⟩
      · have f : Hid (cutB v a b k = false) := by show _ = _; rw [hf, decide_eq_false h1]; simp
        have h1' : decide (k ≤ W) = false := decide_eq_false h1
        clear hf h1
        go_enter Tryz.func170, Tryz.ntmps170
        go_wp2_with fail
        refine (R _).mono ?_
        rintro e w1 ⟨rfl, hb1⟩
        obtain ⟨hc1, hf1⟩ := bcell hb1
        have hz_w1_0 : w.heap.size < w1.heap.size   := (by have := hb1.size; first | omega | (simp at this; omega))
        clear R
        go_wp2_with fail
        refine (D _).mono ?_
        rintro e w2 ⟨rfl, hb2⟩
        clear D
        go_wp2
        go_ret
        exact ⟨by rw [f.out]; rfl, by repeat (first | with_reducible exact Below.refl _ _ | with_reducible refine Below.drew ?_ | with_reducible refine Below.alloc ?_ (by first | omega | (simp <;> omega)) _ | with_reducible refine Below.setCell ?_ (by first | omega | (simp <;> omega)) _ | with_reducible refine Below.trans ?_ (Below.mono hb2 (by first | omega | (simp <;> omega))) | with_reducible refine Below.trans ?_ (Below.mono hb1 (by first | omega | (simp <;> omega))))⟩
    · have f : Hid (cutB v a b k = false) := by show _ = _; rw [hf, decide_eq_false h0]; rfl
      have h0' : decide (b ≤ k) = false := decide_eq_false h0
      clear hf h0 D
      go_enter Tryz.func170, Tryz.ntmps170
      go_wp2_with fail
      refine (R _).mono ?_
      rintro e w1 ⟨rfl, hb1⟩
      obtain ⟨hc1, hf1⟩ := bcell hb1
      have hz_w1_0 : w.heap.size < w1.heap.size   := (by have := hb1.size; first | omega | (simp at this; omega))
      clear R
      go_wp2
      go_ret
      exact ⟨by rw [f.out]; rfl, by repeat (first | with_reducible exact Below.refl _ _ | with_reducible refine Below.drew ?_ | with_reducible refine Below.alloc ?_ (by first | omega | (simp <;> omega)) _ | with_reducible refine Below.setCell ?_ (by first | omega | (simp <;> omega)) _ | with_reducible refine Below.trans ?_ (Below.mono hb1 (by first | omega | (simp <;> omega))))⟩

/-- A prefix's block and a number's, that are read. -/
def PN (B C : Nat) (v : Bool) (h l b ih il : Int) (wx : World) : Prop :=
  (wx.cell? ⟨B, 0, none⟩ = some (.bool v) ∧ wx.cell? ⟨B, 1, none⟩ = some (.int .u64 h) ∧ wx.cell? ⟨B, 2, none⟩ = some (.int .u64 l) ∧ wx.cell? ⟨B, 3, none⟩ = some (.int .i64 b) ∧ wx.cell? ⟨C, 0, none⟩ = some (.int .u64 ih) ∧ wx.cell? ⟨C, 1, none⟩ = some (.int .u64 il)) ∧ Blk wx B #[.bool v, .int .u64 h, .int .u64 l, .int .i64 b] 28 ∧ Blk wx C #[.int .u64 ih, .int .u64 il] 24

theorem PN.of {B C : Nat} {v : Bool} {h l b ih il : Int} {wx : World} (x : Blk wx B #[.bool v, .int .u64 h, .int .u64 l, .int .i64 b] 28) (y : Blk wx C #[.int .u64 ih, .int .u64 il] 24) : PN B C v h l b ih il wx :=
  ⟨⟨x.cell 0, x.cell 1, x.cell 2, x.cell 3, y.cell 0, y.cell 1⟩, x, y⟩

theorem PN.drew {B C : Nat} {v : Bool} {h l b ih il : Int} {wx : World} (s : PN B C v h l b ih il wx) : PN B C v h l b ih il wx.drew := s

theorem PN.below {B C : Nat} {v : Bool} {h l b ih il : Int} {wx w1 : World} (s : PN B C v h l b ih il wx) (hb : Below wx.heap.size wx w1) : PN B C v h l b ih il w1 := PN.of (s.2.1.below hb) (s.2.2.below hb)

theorem PN.alloc {B C : Nat} {v : Bool} {h l b ih il : Int} {wx : World} (s : PN B C v h l b ih il wx) (o : Obj) : PN B C v h l b ih il (wx.alloc o) := PN.of (s.2.1.alloc o) (s.2.2.alloc o)

theorem PN.far {B C D : Nat} {v : Bool} {h l b ih il : Int} {wx : World} (s : PN B C v h l b ih il wx) (h1 : B ≠ D) (h2 : C ≠ D) (i j : Nat) (x y : Value) : PN B C v h l b ih il ((wx.setCell ⟨D, i, none⟩ x).setCell ⟨D, j, none⟩ y) :=
  PN.of ((s.2.1.far h1 _ _).far h1 _ _) ((s.2.2.far h2 _ _).far h2 _ _)

/-- What Block keeps. -/
def KB (w : World) (v : Bool) (h l b ih il : Int) (wr : World) : Prop :=
  PN w.heap.size (w.heap.size + 1) v h l b ih il wr ∧ Blk wr (w.heap.size + 2) #[.bool false, .int .u64 0, .int .u64 0, .int .i64 0] 28 ∧ Below w.heap.size w wr

theorem KB.start (w : World) (v : Bool) (h l b ih il : Int) : KB w v h l b ih il (((w.alloc (.cells #[.bool v, .int .u64 h, .int .u64 l, .int .i64 b] 28)).alloc (.cells #[.int .u64 ih, .int .u64 il] 24)).alloc (.cells #[.bool false, .int .u64 0, .int .u64 0, .int .i64 0] 28)) :=
  ⟨PN.of (((Blk.new _ _ _).alloc _).alloc _) (Blk.alloc (by simpa using Blk.new (w.alloc (.cells #[.bool v, .int .u64 h, .int .u64 l, .int .i64 b] 28)) #[.int .u64 ih, .int .u64 il] 24) _), by simpa using Blk.new ((w.alloc (.cells #[.bool v, .int .u64 h, .int .u64 l, .int .i64 b] 28)).alloc (.cells #[.int .u64 ih, .int .u64 il] 24)) #[.bool false, .int .u64 0, .int .u64 0, .int .i64 0] 28, by repeat (first | with_reducible exact Below.refl _ _ | with_reducible refine Below.drew ?_ | with_reducible refine Below.alloc ?_ (by first | omega | (simp <;> omega)) _ | with_reducible refine Below.setCell ?_ (by first | omega | (simp <;> omega)) _)⟩

theorem KB.below {w W w1 : World} {v : Bool} {h l b ih il : Int} (s : KB w v h l b ih il W) (hb : Below W.heap.size W w1) : KB w v h l b ih il w1 := ⟨s.1.below hb, s.2.1.below hb, s.2.2.trans (hb.mono s.2.2.size)⟩

theorem KB.via {w W W0 w1 : World} {v : Bool} {h l b ih il : Int} (s : KB w v h l b ih il W0) (hb : Below W.heap.size W w1) (e : W.heap = W0.heap) (e1 : W.os = W0.os) (e2 : W.tape = W0.tape) (e3 : W.output = W0.output) : KB w v h l b ih il w1 :=
  ⟨PN.of (s.1.2.1.via hb e) (s.1.2.2.via hb e), s.2.1.via hb e, Below.via hb s.2.2 (Nat.le_refl _) e e1 e2 e3⟩

set_option maxRecDepth 100000 in
set_option maxHeartbeats 1600000 in
theorem block_ok {v : Bool} {h l b k ih il rh rl : Int} {a i : Nat} (ha : IsNum h l a) (hi : IsNum ih il i) (hk : cutB v a b k = true) (hn : i < 2 ^ (k - b).toNat) (hr : IsNum rh rl (blkN v a k i)) (w : World) :
    Calls Tryz.prog 146 #[pv v h l b, .int .i64 k, nv ih il] w fun e w' => e = .returned (.tuple #[pv v rh rl k, .int .i64 0]) ∧ Below w.heap.size w w' := by
  have R : Hid (∀ w', Calls Tryz.prog 170 #[pv v h l b, .int .i64 k] w' fun e w1 => e = .returned (.bool true) ∧ Below w'.heap.size w' w1) := fun w' => hk ▸ cuts_c ha w'
  obtain ⟨n, hln⟩ : ∃ n : Int, n = (Go.bitLen i : Nat) := ⟨_, rfl⟩
  have L : Hid (∀ w', Calls Tryz.prog 130 #[nv ih il] w' fun e w1 => e = .returned (.int .i64 n) ∧ Below w'.heap.size w' w1) := fun w' => len_is hi hln w'
  obtain ⟨_, h0, h1, h2, _⟩ := cutB_parts hk
  have hW2 := width_le v
  have hlt : ¬ k - b < n := by
    have : Go.bitLen i ≤ (k - b).toNat := len_iff.2 hn
    omega
  obtain ⟨W, hW⟩ : ∃ W, widthA v = W := ⟨_, rfl⟩
  have C1 : Hid (∀ w', Calls Tryz.prog 49 #[av v h l] w' fun e w1 => e = .returned (.int .i64 W) ∧ Below w'.heap.size w' w1) := fun w' => width_lit v W hW h l w'
  have eb : (W - k).toNat = behindP v k := by unfold behindP; rw [hW]
  obtain ⟨sh, sl, hs⟩ := IsNum.ex (n := i * 2 ^ behindP v k % 340282366920938463463374607431768211456) (Nat.mod_lt _ (by decide))
  have C2 : Hid (∀ w', Calls Tryz.prog 131 #[nv ih il, .int .i64 (W - k)] w' fun e w1 => e = .returned (nv sh sl) ∧ Below w'.heap.size w' w1) := fun w' => shl_is hi (by omega) (by rw [eb]; exact hs) w'
  have C3 : Hid (∀ w', Calls Tryz.prog 77 #[nv h l, nv sh sl] w' fun e w1 => e = .returned (nv rh rl) ∧ Below w'.heap.size w' w1) := fun w' => or_is ha hs (hr.cast (blk_or hk hn).symm) w'
  have hw1 : IntKind.i64.wrap (k - b) = k - b := by simp [IntKind.wrap, IntKind.bits, IntKind.signed]; omega
  have hw2 : IntKind.i64.wrap (W - k) = W - k := by simp [IntKind.wrap, IntKind.bits, IntKind.signed]; omega
  have K0 := KB.start w v h l b ih il
  clear ha hi hk hn hln h0 h1 h2 hW hW2 eb hs hr
  go_enter Tryz.func146, Tryz.ntmps146
  go_wp2_with fail
  refine (R.out _).mono ?_
  rintro e w1 ⟨rfl, hb1⟩
  have K1 := K0.below hb1
  have S0 := K1.1
  clear R hb1 K0
  go_wp2_with fail
  refine wp_region_held_drew (S := (PN w.heap.size (w.heap.size + 1) v h l b ih il)) (by kernel_rfl) ?hS200 (fun hHeld => ?rest200)
  case hS200 => (first | with_reducible exact S0.drew | with_reducible exact hHeld.below hb3)
  refine wpAnyH_take (i := 0) (oi := _) (v := ?v201) (List.getElem?_toArray.trans rfl) (by kernel_rfl) (by kernel_rfl) (by kernel_rfl) (fun _ _ _ h => h) (Or.inl ⟨by rfl, ?hy201⟩) (by assumption) ?rest201
  case hy201 => (intro wq hSw; (try simp only [Two, PN] at hSw); go_simp; try with_reducible rfl)
  try simp only [Act.put, List.setIfInBounds_toArray, List.set_cons_zero, List.set_cons_succ]
  refine wpAnyH_take (i := 2) (oi := _) (v := ?v202) (List.getElem?_toArray.trans rfl) (by kernel_rfl) (by kernel_rfl) (by kernel_rfl) (fun _ _ _ h => h) (Or.inl ⟨by rfl, ?hy202⟩) (by assumption) ?rest202
  case hy202 => (intro wq hSw; (try simp only [Two, PN] at hSw); go_simp; try with_reducible rfl)
  try simp only [Act.put, List.setIfInBounds_toArray, List.set_cons_zero, List.set_cons_succ]
  refine wpAnyH_take (i := 3) (oi := _) (v := ?v203) (List.getElem?_toArray.trans rfl) (by kernel_rfl) (by kernel_rfl) (by kernel_rfl) (fun _ _ _ h => h) (Or.inl ⟨by rfl, ?hy203⟩) (by assumption) ?rest203
  case hy203 => (intro wq hSw; (try simp only [Two, PN] at hSw); go_simp; try with_reducible rfl)
  try simp only [Act.put, List.setIfInBounds_toArray, List.set_cons_zero, List.set_cons_succ]
  refine wpAnyH_take (i := 4) (oi := _) (v := ?v204) (List.getElem?_toArray.trans rfl) (by kernel_rfl) (by kernel_rfl) (by kernel_rfl) (fun _ _ _ h => h) (Or.inl ⟨by rfl, ?hy204⟩) (by assumption) ?rest204
  case hy204 => (intro wq hSw; (try simp only [Two, PN] at hSw); go_simp; try with_reducible rfl)
  try simp only [Act.put, List.setIfInBounds_toArray, List.set_cons_zero, List.set_cons_succ]
  refine wpAnyH_take (i := 5) (oi := _) (v := ?v205) (List.getElem?_toArray.trans rfl) (by kernel_rfl) (by kernel_rfl) (by kernel_rfl) (fun _ _ _ h => h) (Or.inl ⟨by rfl, ?hy205⟩) (by assumption) ?rest205
  case hy205 => (intro wq hSw; (try simp only [Two, PN] at hSw); go_simp; try with_reducible rfl)
  try simp only [Act.put, List.setIfInBounds_toArray, List.set_cons_zero, List.set_cons_succ]
  refine wpAnyH_ready (rs := [1]) (by kernel_rfl) (by simp) ?rdy206
  refine AllReadyH.cons (List.getElem?_toArray.trans rfl) (fun K hK => ?stp206) AllReadyH.nil
  go_simp
  go_wp2_with fail
  (refine (L.out _).mono ?_; rintro e w3 ⟨rfl, hb3⟩; have K3 := K1.via hb3 rfl rfl rfl rfl)
  go_wp2_with fail
  refine hK.out _ _ ?hSn206 (fun hHeld2 => ?rest206)
  case hSn206 => (first | with_reducible exact S0.drew | with_reducible exact hHeld.below hb3)
  clear hK K hHeld
  have hHeld := hHeld2
  clear hHeld2
  try simp only [Act.put, List.setIfInBounds_toArray, List.set_cons_zero, List.set_cons_succ]
  refine wpAnyH_take (i := 6) (oi := _) (v := ?v207) (List.getElem?_toArray.trans rfl) (by kernel_rfl) (by kernel_rfl) (by kernel_rfl) (fun _ _ _ h => h) (Or.inl ⟨by rfl, ?hy207⟩) (by assumption) ?rest207
  case hy207 => (intro wq hSw; (try simp only [Two, PN] at hSw); go_simp; try with_reducible rfl)
  try simp only [Act.put, List.setIfInBounds_toArray, List.set_cons_zero, List.set_cons_succ]
  refine wpAnyH_done (by kernel_rfl) ?fin200 _
  have F := K3.1.1
  have z0 := K3.1.2.1.lt
  clear S0 hHeld hb3 K1 L
  go_wp2_with fail
  have P1 : Blk (w3.alloc (.cells #[.bool v, .int .u64 h, .int .u64 l, .int .i64 k] 28)) w3.heap.size #[.bool v, .int .u64 h, .int .u64 l, .int .i64 k] 28 := Blk.new _ _ _
  have R1 := K3.2.1.alloc (.cells #[.bool v, .int .u64 h, .int .u64 l, .int .i64 k] 28)
  have B1 := K3.2.2.alloc (Nat.le_of_lt z0) (.cells #[.bool v, .int .u64 h, .int .u64 l, .int .i64 k] 28)
  have S1 := K3.1.alloc (.cells #[.bool v, .int .u64 h, .int .u64 l, .int .i64 k] 28)
  have ne1 : w.heap.size ≠ w3.heap.size := Nat.ne_of_lt K3.1.2.1.lt
  have ne2 : w.heap.size + 1 ≠ w3.heap.size := Nat.ne_of_lt K3.1.2.2.lt
  have ne3 : w.heap.size + 2 ≠ w3.heap.size := Nat.ne_of_lt K3.2.1.lt
  clear F K3
  refine wp_region_held_drew (S := (PN w.heap.size (w.heap.size + 1) v h l b ih il)) (by kernel_rfl) ?hS300 (fun hHeld => ?rest300)
  case hS300 => (first | with_reducible exact S1.drew | with_reducible exact hHeld.below hb4 | with_reducible exact hHeld.below hb5 | with_reducible exact hHeld.below hb6 | exact hHeld.far ne1 ne2 _ _ _ _)
  refine wpAnyH_take (i := 0) (oi := _) (v := ?v301) (List.getElem?_toArray.trans rfl) (by kernel_rfl) (by kernel_rfl) (by kernel_rfl) (fun _ _ _ h => h) (Or.inl ⟨by rfl, ?hy301⟩) (by assumption) ?rest301
  case hy301 => (intro wq hSw; (try simp only [Two, PN] at hSw); go_simp; try with_reducible rfl)
  try simp only [Act.put, List.setIfInBounds_toArray, List.set_cons_zero, List.set_cons_succ]
  refine wpAnyH_take (i := 1) (oi := _) (v := ?v302) (List.getElem?_toArray.trans rfl) (by kernel_rfl) (by kernel_rfl) (by kernel_rfl) (fun _ _ _ h => h) (Or.inl ⟨by rfl, ?hy302⟩) (by assumption) ?rest302
  case hy302 => (intro wq hSw; (try simp only [Two, PN] at hSw); go_simp; try with_reducible rfl)
  try simp only [Act.put, List.setIfInBounds_toArray, List.set_cons_zero, List.set_cons_succ]
  refine wpAnyH_take (i := 2) (oi := _) (v := ?v303) (List.getElem?_toArray.trans rfl) (by kernel_rfl) (by kernel_rfl) (by kernel_rfl) (fun _ _ _ h => h) (Or.inl ⟨by rfl, ?hy303⟩) (by assumption) ?rest303
  case hy303 => (intro wq hSw; (try simp only [Two, PN] at hSw); go_simp; try with_reducible rfl)
  try simp only [Act.put, List.setIfInBounds_toArray, List.set_cons_zero, List.set_cons_succ]
  refine wpAnyH_take (i := 3) (oi := _) (v := ?v304) (List.getElem?_toArray.trans rfl) (by kernel_rfl) (by kernel_rfl) (by kernel_rfl) (fun _ _ _ h => h) (Or.inl ⟨by rfl, ?hy304⟩) (by assumption) ?rest304
  case hy304 => (intro wq hSw; (try simp only [Two, PN] at hSw); go_simp; try with_reducible rfl)
  try simp only [Act.put, List.setIfInBounds_toArray, List.set_cons_zero, List.set_cons_succ]
  refine wpAnyH_take (i := 4) (oi := _) (v := ?v305) (List.getElem?_toArray.trans rfl) (by kernel_rfl) (by kernel_rfl) (by kernel_rfl) (fun _ _ _ h => h) (Or.inl ⟨by rfl, ?hy305⟩) (by assumption) ?rest305
  case hy305 => (intro wq hSw; (try simp only [Two, PN] at hSw); go_simp; try with_reducible rfl)
  try simp only [Act.put, List.setIfInBounds_toArray, List.set_cons_zero, List.set_cons_succ]
  refine wpAnyH_take (i := 5) (oi := _) (v := ?v306) (List.getElem?_toArray.trans rfl) (by kernel_rfl) (by kernel_rfl) (by kernel_rfl) (fun _ _ _ h => h) (Or.inl ⟨by rfl, ?hy306⟩) (by assumption) ?rest306
  case hy306 => (intro wq hSw; (try simp only [Two, PN] at hSw); go_simp; try with_reducible rfl)
  try simp only [Act.put, List.setIfInBounds_toArray, List.set_cons_zero, List.set_cons_succ]
  refine wpAnyH_take (i := 7) (oi := _) (v := ?v307) (List.getElem?_toArray.trans rfl) (by kernel_rfl) (by kernel_rfl) (by kernel_rfl) (fun _ _ _ h => h) (Or.inl ⟨by rfl, ?hy307⟩) (by assumption) ?rest307
  case hy307 => (intro wq hSw; (try simp only [Two, PN] at hSw); go_simp; try with_reducible rfl)
  try simp only [Act.put, List.setIfInBounds_toArray, List.set_cons_zero, List.set_cons_succ]
  refine wpAnyH_ready (rs := [6]) (by kernel_rfl) (by simp) ?rdy308
  refine AllReadyH.cons (List.getElem?_toArray.trans rfl) (fun K hK => ?stp308) AllReadyH.nil
  go_simp
  go_wp2_with fail
  (refine (C1.out _).mono ?_; rintro e w4 ⟨rfl, hb4⟩; have B4 : Below w.heap.size w w4 := Below.via hb4 B1 (Nat.le_refl _) rfl rfl rfl rfl)
  go_wp2_with fail
  refine hK.out _ _ ?hSn308 (fun hHeld2 => ?rest308)
  case hSn308 => (first | with_reducible exact S1.drew | with_reducible exact hHeld.below hb4 | with_reducible exact hHeld.below hb5 | with_reducible exact hHeld.below hb6 | exact hHeld.far ne1 ne2 _ _ _ _)
  clear hK K hHeld
  have hHeld := hHeld2
  clear hHeld2
  try simp only [Act.put, List.setIfInBounds_toArray, List.set_cons_zero, List.set_cons_succ]
  refine wpAnyH_take (i := 8) (oi := _) (v := ?v309) (List.getElem?_toArray.trans rfl) (by kernel_rfl) (by kernel_rfl) (by kernel_rfl) (fun _ _ _ h => h) (Or.inl ⟨by rfl, ?hy309⟩) (by assumption) ?rest309
  case hy309 => (intro wq hSw; (try simp only [Two, PN] at hSw); go_simp; try with_reducible rfl)
  try simp only [Act.put, List.setIfInBounds_toArray, List.set_cons_zero, List.set_cons_succ]
  refine wpAnyH_ready (rs := [9]) (by kernel_rfl) (by simp) ?rdy310
  refine AllReadyH.cons (List.getElem?_toArray.trans rfl) (fun K hK => ?stp310) AllReadyH.nil
  go_simp
  go_wp2_with fail
  (refine (C2.out _).mono ?_; rintro e w5 ⟨rfl, hb5⟩; have B5 : Below w.heap.size w w5 := Below.via hb5 B4 (Nat.le_refl _) rfl rfl rfl rfl)
  go_wp2_with fail
  refine hK.out _ _ ?hSn310 (fun hHeld2 => ?rest310)
  case hSn310 => (first | with_reducible exact S1.drew | with_reducible exact hHeld.below hb4 | with_reducible exact hHeld.below hb5 | with_reducible exact hHeld.below hb6 | exact hHeld.far ne1 ne2 _ _ _ _)
  clear hK K hHeld
  have hHeld := hHeld2
  clear hHeld2
  try simp only [Act.put, List.setIfInBounds_toArray, List.set_cons_zero, List.set_cons_succ]
  refine wpAnyH_ready (rs := [10]) (by kernel_rfl) (by simp) ?rdy311
  refine AllReadyH.cons (List.getElem?_toArray.trans rfl) (fun K hK => ?stp311) AllReadyH.nil
  go_simp
  go_wp2_with fail
  (refine (C3.out _).mono ?_; rintro e w6 ⟨rfl, hb6⟩; have B6 : Below w.heap.size w w6 := Below.via hb6 B5 (Nat.le_refl _) rfl rfl rfl rfl; obtain ⟨p0, p1, p2, p3, p4, p5, p6, p7, p8⟩ := (((P1.via hb4 rfl).below hb5).below hb6).four)
  go_wp2_with fail
  refine hK.out _ _ ?hSn311 (fun hHeld2 => ?rest311)
  case hSn311 => (first | with_reducible exact S1.drew | with_reducible exact hHeld.below hb4 | with_reducible exact hHeld.below hb5 | with_reducible exact hHeld.below hb6 | exact hHeld.far ne1 ne2 _ _ _ _)
  clear hK K hHeld
  have hHeld := hHeld2
  clear hHeld2
  try simp only [Act.put, List.setIfInBounds_toArray, List.set_cons_zero, List.set_cons_succ]
  refine wpAnyH_take (i := 11) (oi := _) (v := ?v312) (List.getElem?_toArray.trans rfl) (by kernel_rfl) (by kernel_rfl) (by kernel_rfl) (fun _ _ _ h => h) (Or.inl ⟨by rfl, ?hy312⟩) (by assumption) ?rest312
  case hy312 => (intro wq hSw; (try simp only [Two, PN] at hSw); go_simp; try with_reducible rfl)
  try simp only [Act.put, List.setIfInBounds_toArray, List.set_cons_zero, List.set_cons_succ]
  refine wpAnyH_take (i := 12) (oi := _) (v := ?v313) (List.getElem?_toArray.trans rfl) (by kernel_rfl) (by kernel_rfl) (by kernel_rfl) (fun _ _ _ h => h) (Or.inl ⟨by rfl, ?hy313⟩) (by assumption) ?rest313
  case hy313 => (intro wq hSw; (try simp only [Two, PN] at hSw); go_simp; try with_reducible rfl)
  try simp only [Act.put, List.setIfInBounds_toArray, List.set_cons_zero, List.set_cons_succ]
  refine wpAnyH_ready (rs := [13]) (by kernel_rfl) (by simp) ?rdy314
  refine AllReadyH.cons (List.getElem?_toArray.trans rfl) (fun K hK => ?stp314) AllReadyH.nil
  go_simp
  go_wp2_with fail
  skip
  go_wp2_with fail
  refine hK.out _ _ ?hSn314 (fun hHeld2 => ?rest314)
  case hSn314 => (first | with_reducible exact S1.drew | with_reducible exact hHeld.below hb4 | with_reducible exact hHeld.below hb5 | with_reducible exact hHeld.below hb6 | exact hHeld.far ne1 ne2 _ _ _ _)
  clear hK K hHeld
  have hHeld := hHeld2
  clear hHeld2
  try simp only [Act.put, List.setIfInBounds_toArray, List.set_cons_zero, List.set_cons_succ]
  refine wpAnyH_done (by kernel_rfl) ?fin300 _
  obtain ⟨r0, r1, r2, r3, r4, r5, r6, r7, r8⟩ := (((R1.via hb4 rfl).below hb5).below hb6).four
  clear hHeld hb4 hb5 hb6 S1 P1 R1 B1 B4 B5 C1 C2 C3
  go_wp2
  refine bodyPost_ret (v := .tuple #[pv v rh rl k, .int .i64 0]) (by simp [results, Tryz.results146, go_sem, World.cell?_setCell_same', World.cell?_setCell_other, *]) rfl ⟨rfl, by repeat (first | with_reducible exact Below.refl _ _ | with_reducible refine Below.drew ?_ | with_reducible refine Below.alloc ?_ (by first | omega | (simp <;> omega)) _ | with_reducible refine Below.setCell ?_ (by first | omega | (simp <;> omega)) _ | with_reducible refine Below.trans ?_ (Below.mono B6 (by first | omega | (simp <;> omega))))⟩

theorem AN.far2 {A N D : Nat} {v : Bool} {h l nh nl : Int} {wx : World} (s : AN A N v h l nh nl wx) (h1 : A ≠ D) (h2 : N ≠ D) (x y : Value) : AN A N v h l nh nl ((wx.setCell ⟨D, 0, none⟩ x).setCell ⟨D, 1, none⟩ y) := AN.of (s.2.1.far2 h1 _ _) (s.2.2.far2 h2 _ _)

end Go.Proofs.YtighdocmncbdnaaGreatDoor

namespace Go.Proofs.YtighdocmncbdnaaGreatDoor
open Go.ChangeShapes Go.WideShapes Go.ChangeAt Go.RowKit
set_option linter.unusedVariables false
set_option linter.unusedSimpArgs false

/-- What Number keeps: a prefix, an address, its answer. -/
def KM (w : World) (v : Bool) (h l b : Int) (u : Bool) (ah al : Int) (W : World) : Prop :=
  (W.cell? ⟨w.heap.size, 0, none⟩ = some (.bool v) ∧ W.cell? ⟨w.heap.size, 1, none⟩ = some (.int .u64 h) ∧ W.cell? ⟨w.heap.size, 2, none⟩ = some (.int .u64 l) ∧ W.cell? ⟨w.heap.size, 3, none⟩ = some (.int .i64 b) ∧ W.cell? ⟨w.heap.size + 1, 0, none⟩ = some (.bool u) ∧ W.cell? ⟨w.heap.size + 1, 1, none⟩ = some (.int .u64 ah) ∧ W.cell? ⟨w.heap.size + 1, 2, none⟩ = some (.int .u64 al)) ∧ Blk W w.heap.size #[.bool v, .int .u64 h, .int .u64 l, .int .i64 b] 28 ∧ Blk W (w.heap.size + 1) #[.bool u, .int .u64 ah, .int .u64 al] 26 ∧ Below w.heap.size w W

theorem KM.of {w W : World} {v : Bool} {h l b : Int} {u : Bool} {ah al : Int} (x : Blk W w.heap.size #[.bool v, .int .u64 h, .int .u64 l, .int .i64 b] 28) (y : Blk W (w.heap.size + 1) #[.bool u, .int .u64 ah, .int .u64 al] 26) (z : Below w.heap.size w W) : KM w v h l b u ah al W :=
  ⟨⟨x.cell 0, x.cell 1, x.cell 2, x.cell 3, y.cell 0, y.cell 1, y.cell 2⟩, x, y, z⟩

theorem KM.drew {w W : World} {v : Bool} {h l b : Int} {u : Bool} {ah al : Int} (s : KM w v h l b u ah al W) : KM w v h l b u ah al W.drew := KM.of s.2.1 s.2.2.1 s.2.2.2.drew

theorem KM.below {w W w1 : World} {v : Bool} {h l b : Int} {u : Bool} {ah al : Int} (s : KM w v h l b u ah al W) (hb : Below W.heap.size W w1) : KM w v h l b u ah al w1 := KM.of (s.2.1.below hb) (s.2.2.1.below hb) (s.2.2.2.trans (hb.mono s.2.2.2.size))

theorem KM.far2 {w W : World} {v : Bool} {h l b : Int} {u : Bool} {ah al : Int} {D : Nat} (s : KM w v h l b u ah al W) (hd : w.heap.size + 1 < D) (x y : Value) : KM w v h l b u ah al ((W.setCell ⟨D, 0, none⟩ x).setCell ⟨D, 1, none⟩ y) :=
  KM.of (s.2.1.far2 (by omega) _ _) (s.2.2.1.far2 (by omega) _ _) ((s.2.2.2.setCell (by show w.heap.size ≤ D; omega) _).setCell (by show w.heap.size ≤ D; omega) _)

theorem KM.start (w : World) (v : Bool) (h l b : Int) (u : Bool) (ah al : Int) : KM w v h l b u ah al (((w.alloc (.cells #[.bool v, .int .u64 h, .int .u64 l, .int .i64 b] 28)).alloc (.cells #[.bool u, .int .u64 ah, .int .u64 al] 26)).alloc (.cells #[.int .u64 0, .int .u64 0] 24)) ∧ Blk (((w.alloc (.cells #[.bool v, .int .u64 h, .int .u64 l, .int .i64 b] 28)).alloc (.cells #[.bool u, .int .u64 ah, .int .u64 al] 26)).alloc (.cells #[.int .u64 0, .int .u64 0] 24)) (w.heap.size + 1 + 1) #[.int .u64 0, .int .u64 0] 24 :=
  ⟨KM.of (((Blk.new _ _ _).alloc _).alloc _) (Blk.alloc (by simpa using Blk.new (w.alloc (.cells #[.bool v, .int .u64 h, .int .u64 l, .int .i64 b] 28)) #[.bool u, .int .u64 ah, .int .u64 al] 26) _) (by repeat (first | with_reducible exact Below.refl _ _ | with_reducible refine Below.drew ?_ | with_reducible refine Below.alloc ?_ (by first | omega | (simp <;> omega)) _ | with_reducible refine Below.setCell ?_ (by first | omega | (simp <;> omega)) _)), by simpa using Blk.new ((w.alloc (.cells #[.bool v, .int .u64 h, .int .u64 l, .int .i64 b] 28)).alloc (.cells #[.bool u, .int .u64 ah, .int .u64 al] 26)) #[.int .u64 0, .int .u64 0] 24⟩

end Go.Proofs.YtighdocmncbdnaaGreatDoor
