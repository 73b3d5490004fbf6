/-
  A list of blocks that are known, with what each of them holds: what becomes of it behind calls, new blocks and stores elsewhere. No program in sight.
  The walk of CarveParts.
-/
import Derived.Test.YtmhnfgfdggjdhaaGreatDoorBlk
import Derived.Test.YtmhnfgfdggjdhaaGreatDoorCarve1
import Derived.Test.YtmhnfgfdggjdhaaGreatDoorRef3d
namespace Go.Proofs.YtmhnfgfdggjdhaaGreatDoor
open Go.ChangeShapes Go.WideShapes Go.ChangeAt Go.RowKit
set_option linter.unusedVariables false
set_option linter.unusedSimpArgs false

/-- The cells of block b from i on. -/
def CellsAt (W : World) (b : Nat) : Nat → List Value → Prop
  | _, [] => True
  | i, v :: r => W.cell? ⟨b, i, none⟩ = some v ∧ CellsAt W b (i + 1) r

def Facts (W : World) : List (Nat × List Value × TypeId) → Prop
  | [] => True
  | e :: r => CellsAt W e.1 0 e.2.1 ∧ Facts W r

def Blks (W : World) : List (Nat × List Value × TypeId) → Prop
  | [] => True
  | e :: r => Blk W e.1 e.2.1.toArray e.2.2 ∧ Blks W r

/-- None of them is block D. -/
def Off (D : Nat) : List (Nat × List Value × TypeId) → Prop
  | [] => True
  | e :: r => e.1 ≠ D ∧ Off D r

/-- The blocks of L are known in W; what lay there before is as it was. -/
def Kn (w : World) (L : List (Nat × List Value × TypeId)) (W : World) : Prop := Facts W L ∧ Blks W L ∧ Below w.heap.size w W

theorem cellsAt_of {W : World} {b : Nat} {t : TypeId} {cs : List Value} (h : Blk W b cs.toArray t) : ∀ (i : Nat) (r : List Value), cs.drop i = r → CellsAt W b i r
  | i, [], _ => trivial
  | i, v :: r, e => by
    have hd : cs[i]? = some v := by
      have := congrArg List.head? e
      rw [List.head?_drop] at this
      exact this
    refine ⟨?_, cellsAt_of h (i + 1) r ?_⟩
    · rw [h.cell i]; simpa using hd
    · rw [← List.drop_drop, e]; rfl

theorem facts_of {W : World} : ∀ {L : List (Nat × List Value × TypeId)}, Blks W L → Facts W L
  | [], _ => trivial
  | e :: r, h => ⟨cellsAt_of h.1 0 _ rfl, facts_of h.2⟩

theorem Kn.of {w W : World} {L : List (Nat × List Value × TypeId)} (h : Blks W L) (b : Below w.heap.size w W) : Kn w L W := ⟨facts_of h, h, b⟩

theorem Kn.nil (w : World) : Kn w [] w := Kn.of trivial (Below.refl _ _)

theorem Blks.map {W W' : World} (f : ∀ b cs t, Blk W b cs t → Blk W' b cs t) : ∀ {L : List (Nat × List Value × TypeId)}, Blks W L → Blks W' L
  | [], _ => trivial
  | e :: r, h => ⟨f _ _ _ h.1, Blks.map f h.2⟩

theorem Kn.below {w W w1 : World} {L : List (Nat × List Value × TypeId)} (k : Kn w L W) (hb : Below W.heap.size W w1) : Kn w L w1 :=
  Kn.of (Blks.map (fun _ _ _ h => h.below hb) k.2.1) (k.2.2.trans (hb.mono k.2.2.size))

theorem Kn.alloc {w W : World} {L : List (Nat × List Value × TypeId)} (k : Kn w L W) (o : Obj) : Kn w L (W.alloc o) :=
  Kn.of (Blks.map (fun _ _ _ h => h.alloc o) k.2.1) (k.2.2.alloc k.2.2.size o)

theorem Kn.drew {w W : World} {L : List (Nat × List Value × TypeId)} (k : Kn w L W) : Kn w L W.drew :=
  Kn.of (Blks.map (W := W) (W' := W.drew) (fun _ _ _ h => Blk.drew h) k.2.1) k.2.2.drew

/-- A new block, known too. -/
theorem Kn.push {w W : World} {L : List (Nat × List Value × TypeId)} (k : Kn w L W) {b : Nat} {cs : List Value} {t : TypeId} (e : b = W.heap.size) : Kn w ((b, cs, t) :: L) (W.alloc (.cells cs.toArray t)) :=
  Kn.of ⟨e ▸ Blk.new W _ _, Blks.map (fun _ _ _ h => h.alloc _) k.2.1⟩ (k.2.2.alloc k.2.2.size _)

/-- One that is known otherwise. -/
theorem Kn.cons {w W : World} {L : List (Nat × List Value × TypeId)} (k : Kn w L W) {b : Nat} {cs : List Value} {t : TypeId} (h : Blk W b cs.toArray t) : Kn w ((b, cs, t) :: L) W := Kn.of ⟨h, k.2.1⟩ k.2.2

theorem Kn.tail {w W : World} {L : List (Nat × List Value × TypeId)} {e : Nat × List Value × TypeId} (k : Kn w (e :: L) W) : Kn w L W := Kn.of k.2.1.2 k.2.2

theorem Blks.set {W : World} {D i : Nat} (u : Value) : ∀ {L : List (Nat × List Value × TypeId)}, Off D L → Blks W L → Blks (W.setCell ⟨D, i, none⟩ u) L
  | [], _, _ => trivial
  | e :: r, o, h => ⟨h.1.far o.1 _ _, Blks.set u o.2 h.2⟩

/-- A store elsewhere. -/
theorem Kn.set {w W : World} {L : List (Nat × List Value × TypeId)} (k : Kn w L W) {D : Nat} (o : Off D L) (hd : w.heap.size ≤ D) (i : Nat) (u : Value) : Kn w L (W.setCell ⟨D, i, none⟩ u) :=
  Kn.of (Blks.set u o k.2.1) (k.2.2.setCell hd u)

theorem Kn.far2 {w W : World} {L : List (Nat × List Value × TypeId)} (k : Kn w L W) {D : Nat} (o : Off D L) (hd : w.heap.size ≤ D) (x y : Value) : Kn w L ((W.setCell ⟨D, 0, none⟩ x).setCell ⟨D, 1, none⟩ y) := (k.set o hd 0 x).set o hd 1 y

theorem Kn.far3 {w W : World} {L : List (Nat × List Value × TypeId)} (k : Kn w L W) {D : Nat} (o : Off D L) (hd : w.heap.size ≤ D) (x y z : Value) : Kn w L (((W.setCell ⟨D, 0, none⟩ x).setCell ⟨D, 1, none⟩ y).setCell ⟨D, 2, none⟩ z) := (k.far2 o hd x y).set o hd 2 z

theorem Kn.far4 {w W : World} {L : List (Nat × List Value × TypeId)} (k : Kn w L W) {D : Nat} (o : Off D L) (hd : w.heap.size ≤ D) (x y z u : Value) : Kn w L ((((W.setCell ⟨D, 0, none⟩ x).setCell ⟨D, 1, none⟩ y).setCell ⟨D, 2, none⟩ z).setCell ⟨D, 3, none⟩ u) := (k.far3 o hd x y z).set o hd 3 u

/-- Each of them lies below. -/
def Lts (n : Nat) : List (Nat × List Value × TypeId) → Prop
  | [] => True
  | e :: r => e.1 < n ∧ Lts n r

theorem Blks.lts {W : World} : ∀ {L : List (Nat × List Value × TypeId)}, Blks W L → Lts W.heap.size L
  | [], _ => trivial
  | e :: r, h => ⟨h.1.lt, Blks.lts h.2⟩

theorem Kn.lts {w W : World} {L : List (Nat × List Value × TypeId)} (k : Kn w L W) : Lts W.heap.size L := k.2.1.lts

theorem Kn.bel {w W : World} {L : List (Nat × List Value × TypeId)} (k : Kn w L W) : Below w.heap.size w W := k.2.2

end Go.Proofs.YtmhnfgfdggjdhaaGreatDoor

namespace Go.Proofs.YtmhnfgfdggjdhaaGreatDoor
open Go.ChangeShapes Go.WideShapes Go.ChangeAt Go.RowKit
set_option linter.unusedVariables false
set_option linter.unusedSimpArgs false

set_option maxHeartbeats 800000 in
theorem rcuts_c {v : Bool} {h l b k : Int} {a : Nat} (ha : IsNum h l a) (w : World) :
    Calls Tryz.prog 41 #[pv v h l b, .int .i64 k] w fun e w' => e = .returned (.bool (cutB v a b k)) ∧ Below w.heap.size w w' := by
  obtain ⟨W, hW⟩ : ∃ W, widthA v = W := ⟨_, rfl⟩
  have R := fun w' => rpright_c (v := v) (b := b) ha w'
  have D := fun w' => rwidth_c v W hW h l w'
  have hf : cutB v a b k = (okP v a b && decide (b ≤ k) && decide (k ≤ W)) := by rw [← hW]; rfl
  obtain ⟨ok, hok⟩ : ∃ ok, okP v a b = ok := ⟨_, rfl⟩
  rw [hok] at R hf
  clear ha hok hW
  cases ok
  · have f : Hid (cutB v a b k = false) := by show _ = _; rw [hf]; rfl
    clear hf D
    go_enter Tryz.func41, Tryz.ntmps41
    go_wp2_with fail
    refine (R _).mono ?_
    rintro e w1 ⟨rfl, hb1⟩
    obtain ⟨hc1, hf1⟩ := bcell hb1
    have hz_w1_0 : w.heap.size < w1.heap.size   := (by have := hb1.size; first | omega | (simp at this; omega))
    clear R
    go_wp2
    go_ret
    exact ⟨by rw [f.out]; rfl, by repeat (first | with_reducible exact Below.refl _ _ | with_reducible refine Below.drew ?_ | with_reducible refine Below.alloc ?_ (by first | omega | (simp <;> omega)) _ | with_reducible refine Below.setCell ?_ (by first | omega | (simp <;> omega)) _ | with_reducible refine Below.trans ?_ (Below.mono hb1 (by first | omega | (simp <;> omega))))⟩
  · by_cases h0 : b ≤ k
    · by_cases h1 : k ≤ W
      · have f : Hid (cutB v a b k = true) := by show _ = _; rw [hf, decide_eq_true h0, decide_eq_true h1]; rfl
        clear hf
        go_enter Tryz.func41, Tryz.ntmps41
        go_wp2_with fail
        refine (R _).mono ?_
        rintro e w1 ⟨rfl, hb1⟩
        obtain ⟨hc1, hf1⟩ := bcell hb1
        have hz_w1_0 : w.heap.size < w1.heap.size   := (by have := hb1.size; first | omega | (simp at this; omega))
        clear R
        go_wp2_with fail
        refine (D _).mono ?_
        rintro e w2 ⟨rfl, hb2⟩
        clear D
        go_wp2
        go_ret
        exact ⟨by rw [f.out]; rfl, by repeat (first | with_reducible exact Below.refl _ _ | with_reducible refine Below.drew ?_ | with_reducible refine Below.alloc ?_ (by first | omega | (simp <;> omega)) _ | with_reducible refine Below.setCell ?_ (by first | omega | (simp <;> omega)) _ | with_reducible refine Below.trans ?_ (Below.mono hb2 (by first | omega | (simp <;> omega))) | with_reducible refine Below.trans ?_ (Below.mono hb1 (by first | omega | (simp <;> omega))))⟩
      · have f : Hid (cutB v a b k = false) := by show _ = _; rw [hf, decide_eq_false h1]; simp
        have h1' : decide (k ≤ W) = false := decide_eq_false h1
        clear hf h1
        go_enter Tryz.func41, Tryz.ntmps41
        go_wp2_with fail
        refine (R _).mono ?_
        rintro e w1 ⟨rfl, hb1⟩
        obtain ⟨hc1, hf1⟩ := bcell hb1
        have hz_w1_0 : w.heap.size < w1.heap.size   := (by have := hb1.size; first | omega | (simp at this; omega))
        clear R
        go_wp2_with fail
        refine (D _).mono ?_
        rintro e w2 ⟨rfl, hb2⟩
        clear D
        go_wp2
        go_ret
        exact ⟨by rw [f.out]; rfl, by repeat (first | with_reducible exact Below.refl _ _ | with_reducible refine Below.drew ?_ | with_reducible refine Below.alloc ?_ (by first | omega | (simp <;> omega)) _ | with_reducible refine Below.setCell ?_ (by first | omega | (simp <;> omega)) _ | with_reducible refine Below.trans ?_ (Below.mono hb2 (by first | omega | (simp <;> omega))) | with_reducible refine Below.trans ?_ (Below.mono hb1 (by first | omega | (simp <;> omega))))⟩
    · have f : Hid (cutB v a b k = false) := by show _ = _; rw [hf, decide_eq_false h0]; rfl
      have h0' : decide (b ≤ k) = false := decide_eq_false h0
      clear hf h0 D
      go_enter Tryz.func41, Tryz.ntmps41
      go_wp2_with fail
      refine (R _).mono ?_
      rintro e w1 ⟨rfl, hb1⟩
      obtain ⟨hc1, hf1⟩ := bcell hb1
      have hz_w1_0 : w.heap.size < w1.heap.size   := (by have := hb1.size; first | omega | (simp at this; omega))
      clear R
      go_wp2
      go_ret
      exact ⟨by rw [f.out]; rfl, by repeat (first | with_reducible exact Below.refl _ _ | with_reducible refine Below.drew ?_ | with_reducible refine Below.alloc ?_ (by first | omega | (simp <;> omega)) _ | with_reducible refine Below.setCell ?_ (by first | omega | (simp <;> omega)) _ | with_reducible refine Below.trans ?_ (Below.mono hb1 (by first | omega | (simp <;> omega))))⟩

theorem num_cmp {ah al bh bl m : Int} {a b : Nat} (ha : IsNum ah al a) (hb : IsNum bh bl b) (hm : m = cmpI (a : Int) (b : Int)) (w : World) :
    Calls Tryz.prog 40 #[nv ah al, nv bh bl] w fun e w' => e = .returned (.int .i64 m) ∧ Below w.heap.size w w' := by
  refine (cmp_c ha hb w).mono ?_
  rintro e w1 ⟨q, rfl, hq, hb'⟩
  exact ⟨by rw [hq, hm], hb'⟩

set_option maxRecDepth 100000 in
set_option maxHeartbeats 1600000 in
theorem pcmp_same {v : Bool} {ph pl b qh ql r : Int} {n m : Nat} (hp : IsNum ph pl n) (hq : IsNum qh ql m) (kp : okP v n b = true) (kq : okP v m b = true) (hr : r = cmpI (n : Int) (m : Int)) (w : World) :
    Calls Tryz.prog 21 #[pv v ph pl b, pv v qh ql b] w fun e w' => e = .returned (.int .i64 r) ∧ Below w.heap.size w w' := by
  have C1 : Hid (∀ w', Calls Tryz.prog 16 #[pv v ph pl b] w' fun e w1 => e = .returned (av v ph pl) ∧ Below w'.heap.size w' w1) := fun w' => first_c hp (Or.inl ⟨kp, rfl, rfl, rfl⟩) w'
  have C2 : Hid (∀ w', Calls Tryz.prog 16 #[pv v qh ql b] w' fun e w1 => e = .returned (av v qh ql) ∧ Below w'.heap.size w' w1) := fun w' => first_c hq (Or.inl ⟨kq, rfl, rfl, rfl⟩) w'
  have C3 : Hid (∀ w', Calls Tryz.prog 15 #[av v ph pl, av v qh ql] w' fun e w1 => e = .returned (.int .i64 r) ∧ Below w'.heap.size w' w1) := fun w' => by
    refine (acmp_c hp hq w').mono ?_
    rintro e w1 ⟨k', rfl, hk', hb'⟩
    exact ⟨by rw [hk', hr]; unfold cmpA; rw [if_pos rfl], hb'⟩
  have S0 : PP w.heap.size (w.heap.size + 1) v ph pl b v qh ql b ((w.alloc (.cells #[.bool v, .int .u64 ph, .int .u64 pl, .int .i64 b] 28)).alloc (.cells #[.bool v, .int .u64 qh, .int .u64 ql, .int .i64 b] 28)) := PP.of ((Blk.new _ _ _).alloc _) (by simpa using Blk.new (w.alloc (.cells #[.bool v, .int .u64 ph, .int .u64 pl, .int .i64 b] 28)) #[.bool v, .int .u64 qh, .int .u64 ql, .int .i64 b] 28)
  have B0 : Below w.heap.size w ((w.alloc (.cells #[.bool v, .int .u64 ph, .int .u64 pl, .int .i64 b] 28)).alloc (.cells #[.bool v, .int .u64 qh, .int .u64 ql, .int .i64 b] 28)) := by repeat (first | with_reducible exact Below.refl _ _ | with_reducible refine Below.drew ?_ | with_reducible refine Below.alloc ?_ (by first | omega | (simp <;> omega)) _ | with_reducible refine Below.setCell ?_ (by first | omega | (simp <;> omega)) _)
  have h0 : r = 0 ∨ ¬ r = 0 := by omega
  clear hp hq kp kq hr
  go_enter Tryz.func21, Tryz.ntmps21
  go_wp2_with fail
  refine wp_region_held_drew (S := (PP w.heap.size (w.heap.size + 1) v ph pl b v qh ql b)) (by kernel_rfl) ?hS100 (fun hHeld => ?rest100)
  case hS100 => (first | with_reducible exact S0.drew | with_reducible exact hHeld.below hb3 | with_reducible exact hHeld.below hb4 | with_reducible exact hHeld.below hb5)
  refine wpAnyH_take (i := 0) (oi := _) (v := ?v101) (List.getElem?_toArray.trans rfl) (by kernel_rfl) (by kernel_rfl) (by kernel_rfl) (fun _ _ _ h => h) (Or.inl ⟨by rfl, ?hy101⟩) (by assumption) ?rest101
  case hy101 => (intro wq hSw; (try simp only [Two, PP] at hSw); go_simp; try with_reducible rfl)
  try simp only [Act.put, List.setIfInBounds_toArray, List.set_cons_zero, List.set_cons_succ]
  refine wpAnyH_take (i := 2) (oi := _) (v := ?v102) (List.getElem?_toArray.trans rfl) (by kernel_rfl) (by kernel_rfl) (by kernel_rfl) (fun _ _ _ h => h) (Or.inl ⟨by rfl, ?hy102⟩) (by assumption) ?rest102
  case hy102 => (intro wq hSw; (try simp only [Two, PP] at hSw); go_simp; try with_reducible rfl)
  try simp only [Act.put, List.setIfInBounds_toArray, List.set_cons_zero, List.set_cons_succ]
  refine wpAnyH_ready (rs := [1]) (by kernel_rfl) (by simp) ?rdy103
  refine AllReadyH.cons (List.getElem?_toArray.trans rfl) (fun K hK => ?stp103) AllReadyH.nil
  go_simp
  go_wp2_with fail
  (refine (C1.out _).mono ?_; rintro e w3 ⟨rfl, hb3⟩; have B3 : Below w.heap.size w w3 := Below.via hb3 B0 (Nat.le_refl _) rfl rfl rfl rfl)
  go_wp2_with fail
  refine hK.out _ _ ?hSn103 (fun hHeld2 => ?rest103)
  case hSn103 => (first | with_reducible exact S0.drew | with_reducible exact hHeld.below hb3 | with_reducible exact hHeld.below hb4 | with_reducible exact hHeld.below hb5)
  clear hK K hHeld
  have hHeld := hHeld2
  clear hHeld2
  try simp only [Act.put, List.setIfInBounds_toArray, List.set_cons_zero, List.set_cons_succ]
  refine wpAnyH_ready (rs := [3]) (by kernel_rfl) (by simp) ?rdy104
  refine AllReadyH.cons (List.getElem?_toArray.trans rfl) (fun K hK => ?stp104) AllReadyH.nil
  go_simp
  go_wp2_with fail
  (refine (C2.out _).mono ?_; rintro e w4 ⟨rfl, hb4⟩; have B4 : Below w.heap.size w w4 := Below.via hb4 B3 (Nat.le_refl _) rfl rfl rfl rfl)
  go_wp2_with fail
  refine hK.out _ _ ?hSn104 (fun hHeld2 => ?rest104)
  case hSn104 => (first | with_reducible exact S0.drew | with_reducible exact hHeld.below hb3 | with_reducible exact hHeld.below hb4 | with_reducible exact hHeld.below hb5)
  clear hK K hHeld
  have hHeld := hHeld2
  clear hHeld2
  try simp only [Act.put, List.setIfInBounds_toArray, List.set_cons_zero, List.set_cons_succ]
  refine wpAnyH_ready (rs := [4]) (by kernel_rfl) (by simp) ?rdy105
  refine AllReadyH.cons (List.getElem?_toArray.trans rfl) (fun K hK => ?stp105) AllReadyH.nil
  go_simp
  go_wp2_with fail
  (refine (C3.out _).mono ?_; rintro e w5 ⟨rfl, hb5⟩; have B5 : Below w.heap.size w w5 := Below.via hb5 B4 (Nat.le_refl _) rfl rfl rfl rfl)
  go_wp2_with fail
  refine hK.out _ _ ?hSn105 (fun hHeld2 => ?rest105)
  case hSn105 => (first | with_reducible exact S0.drew | with_reducible exact hHeld.below hb3 | with_reducible exact hHeld.below hb4 | with_reducible exact hHeld.below hb5)
  clear hK K hHeld
  have hHeld := hHeld2
  clear hHeld2
  try simp only [Act.put, List.setIfInBounds_toArray, List.set_cons_zero, List.set_cons_succ]
  refine wpAnyH_take (i := 5) (oi := _) (v := ?v106) (List.getElem?_toArray.trans rfl) (by kernel_rfl) (by kernel_rfl) (by kernel_rfl) (fun _ _ _ h => h) (Or.inl ⟨by rfl, ?hy106⟩) (by assumption) ?rest106
  case hy106 => (intro wq hSw; (try simp only [Two, PP] at hSw); go_simp; try with_reducible rfl)
  try simp only [Act.put, List.setIfInBounds_toArray, List.set_cons_zero, List.set_cons_succ]
  refine wpAnyH_done (by kernel_rfl) ?fin100 _
  have F := hHeld.1
  clear S0 hHeld hb3 hb4 hb5 C1 C2 C3 B0 B3 B4
  rcases h0 with rfl | h0
  · have CI := fun w' => compare_i b b w'
    rw [cmpI_eq rfl] at CI
    go_wp2_with fail
    refine (CI _).mono ?_
    rintro e w6 ⟨rfl, hb6⟩
    clear CI
    have B6 := B5.trans (hb6.mono B5.size)
    go_wp2
    go_ret
    exact ⟨rfl, B6⟩
  · go_wp2
    go_ret
    exact ⟨rfl, B5⟩

/-- What the law has been handed. -/
theorem parts_start (w : World) (v : Bool) (h l b ih il jh jl : Int) (s : Bool) (ah al : Int) : Kn w [(w.heap.size + 1 + 1 + 1, [.bool s, .int .u64 ah, .int .u64 al], 26), (w.heap.size + 1 + 1, [.int .u64 jh, .int .u64 jl], 24), (w.heap.size + 1, [.int .u64 ih, .int .u64 il], 24), (w.heap.size, [.bool v, .int .u64 h, .int .u64 l, .int .i64 b], 28)] ((((w.alloc (.cells #[.bool v, .int .u64 h, .int .u64 l, .int .i64 b] 28)).alloc (.cells #[.int .u64 ih, .int .u64 il] 24)).alloc (.cells #[.int .u64 jh, .int .u64 jl] 24)).alloc (.cells #[.bool s, .int .u64 ah, .int .u64 al] 26)) :=
  ((((Kn.nil w).push rfl).push (by simp)).push (by simp)).push (by simp)

set_option maxRecDepth 100000 in
set_option maxHeartbeats 1600000 in
theorem parts_nocut {v s : Bool} {h l b k ih il jh jl ah al : Int} {n a : Nat} (hp : IsNum h l n) (ha : IsNum ah al a) (hc : cutB v n b k = false) (w : World) (hL : LW w)
    (aw : ∀ w, LW w → Calls Tryz.prog 29 #[] w fun e w' => e = .returned (.bool true) ∧ Below w.heap.size w w') :
    Calls Tryz.prog 8 #[pv v h l b, .int .i64 k, nv ih il, nv jh jl, av s ah al] w fun e w' => e = .returned (.bool true) ∧ Below w.heap.size w w' := by
  have hz := hL.sz
  have K := parts_start w v h l b ih il jh jl s ah al
  have AW : Hid (Calls Tryz.prog 29 #[] _ _) := aw _ (hL.of K.bel hz)
  have X1 : Hid (∀ w', Calls Tryz.prog 32 #[pv v h l b, .int .i64 k, nv ih il] w' fun e w1 => e = .returned (.tuple #[pv false 0 0 0, .int .i64 1]) ∧ Below w'.heap.size w' w1) := fun w' => block_arg hp hc w'
  have Y1 : Hid (∀ w', Calls Tryz.prog 32 #[pv v h l b, .int .i64 k, nv jh jl] w' fun e w1 => e = .returned (.tuple #[pv false 0 0 0, .int .i64 1]) ∧ Below w'.heap.size w' w1) := fun w' => block_arg hp hc w'
  have CU : Hid (∀ w', Calls Tryz.prog 41 #[pv v h l b, .int .i64 k] w' fun e w1 => e = .returned (.bool false) ∧ Below w'.heap.size w' w1) := fun w' => hc ▸ rcuts_c hp w'
  obtain ⟨rh, rl, g, hg, N1⟩ : ∃ rh rl g : Int, (g = 0 ∨ ¬ g = 0) ∧ Hid (∀ w', Calls Tryz.prog 38 #[pv v h l b, av s ah al] w' fun e w1 => e = .returned (.tuple #[nv rh rl, .int .i64 g]) ∧ Below w'.heap.size w' w1) := by
    cases kp : okP v n b
    · exact ⟨0, 0, 1, Or.inr (by decide), fun w' => number_arg hp kp w'⟩
    · cases kh : hasB v n b s a
      · exact ⟨0, 0, 12, Or.inr (by decide), fun w' => number_range hp ha kp kh w'⟩
      · obtain rfl := (has_parts kh).1
        obtain ⟨rh, rl, hr⟩ := IsNum.ex (n := a - n) (Nat.lt_of_le_of_lt (Nat.sub_le _ _) ha.lt)
        exact ⟨rh, rl, 0, Or.inl rfl, fun w' => number_ok hp ha kh hr w'⟩
  clear hp ha hc hL aw
  go_enter Tryz.func8, Tryz.ntmps8
  go_wp2_with fail
  refine AW.out.mono ?_
  rintro e wn ⟨rfl, hb⟩
  replace K := K.below hb
  have F := K.1
  simp only [Facts, CellsAt] at F
  clear hb AW
  go_wp2_with fail
  refine (X1.out _).mono ?_
  rintro e wn ⟨rfl, hb⟩
  replace K := (K.below hb).alloc (.cells #[.bool false, .int .u64 0, .int .u64 0, .int .i64 0] 28)
  replace F := K.1
  simp only [Facts, CellsAt] at F
  clear hb X1
  go_wp2_with fail
  refine (Y1.out _).mono ?_
  rintro e wn ⟨rfl, hb⟩
  replace K := (K.below hb).alloc (.cells #[.bool false, .int .u64 0, .int .u64 0, .int .i64 0] 28)
  replace F := K.1
  simp only [Facts, CellsAt] at F
  clear hb Y1
  go_wp2_with fail
  refine (N1.out _).mono ?_
  rintro e wn ⟨rfl, hb⟩
  replace K := (K.below hb).alloc (.cells #[.int .u64 rh, .int .u64 rl] 24)
  replace F := K.1
  simp only [Facts, CellsAt] at F
  clear hb N1
  have B := K.bel
  rcases hg with rfl | hg
  · go_wp2_with fail
    refine (CU.out _).mono ?_
    rintro e wn ⟨rfl, hb⟩
    have B2 := B.trans (hb.mono B.size)
    clear hb CU K F
    go_wp2
    go_ret
    exact ⟨rfl, B2⟩
  · clear CU
    go_wp2
    go_ret
    exact ⟨rfl, B⟩
end Go.Proofs.YtmhnfgfdggjdhaaGreatDoor
