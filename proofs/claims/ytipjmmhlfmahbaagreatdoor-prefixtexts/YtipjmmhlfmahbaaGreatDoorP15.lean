/-
  Texts Read of the proof.
-/
import Derived.Deep.RegionHeld
import Derived.Test.YtipjmmhlfmahbaaGreatDoorP9
import Derived.Test.YtipjmmhlfmahbaaGreatDoorP8
import Derived.Test.YtipjmmhlfmahbaaGreatDoorP14

namespace Go.Proofs.YtipjmmhlfmahbaaGreatDoor
open Go.ChangeShapes Go.WideShapes Go.ChangeAt Go.RowKit
set_option linter.unusedVariables false
set_option linter.unusedSimpArgs false

/-- A group: one to four digits of base 16. -/
def hexG (l : List UInt8) : Option Nat := if l.length = 0 ∨ 4 < l.length then none else hexL 0 l

set_option maxRecDepth 100000 in
set_option maxHeartbeats 800000 in
theorem pu16_empty (w : World) :
    Calls Tryz.prog 98 #[.string ⟨#[]⟩, .int .i64 16, .int .i64 16] w fun e w' => e = .returned (.tuple #[.int .u64 0, .iface 129 (.int .i64 2)]) ∧ w' = w := by
  go_enter Tryz.func98, Tryz.ntmps98
  go_wp2
  go_ret2
  exact ⟨rfl, rfl⟩

theorem pu16_c (t : ByteArray) (hmax : t.size ≤ 4) (w : World) :
    Calls Tryz.prog 98 #[.string t, .int .i64 16, .int .i64 16] w fun e w' =>
      ((∃ v : Nat, hexG t.data.toList = some v ∧ v < 65536 ∧ e = .returned (.tuple #[.int .u64 (v : Int), .nilIface])) ∨ (hexG t.data.toList = none ∧ e = .returned (.tuple #[.int .u64 0, .iface 129 (.int .i64 2)]))) ∧ Below w.heap.size w w' := by
  by_cases h0 : t.size = 0
  · have ht : t = ⟨#[]⟩ := by
      obtain ⟨⟨l⟩⟩ := t
      cases l with
      | nil => rfl
      | cons _ _ => simp [ByteArray.size] at h0
    subst ht
    refine (pu16_empty w).mono ?_
    rintro e w' ⟨rfl, rfl⟩
    exact ⟨Or.inr ⟨rfl, rfl⟩, Below.refl _ _⟩
  · have hl : t.data.toList.length = t.size := by simp
    have e : hexG t.data.toList = hexL 0 t.data.toList := by unfold hexG; rw [if_neg (by omega)]
    rw [e]
    exact pu16_w t h0 hmax w

set_option maxRecDepth 100000 in
set_option maxHeartbeats 800000 in
theorem toErr_c (fn s : ByteArray) (base bits : Int) (ev : Value) (w : World) (hlim : s.size ≤ 281474976710656) (hv : w.cell? ⟨4, 0, none⟩ = some ev) (hev : ev = .nilIface ∨ ∃ te pe, ev = .iface te pe) :
    Calls Tryz.prog 99 #[.string fn, .string s, .int .i64 base, .int .i64 bits, .iface 129 (.int .i64 2)] w fun e w' => ∃ N, e = .returned (.iface 131 (.pointer (some ⟨N, 0, none⟩))) ∧ w.heap.size ≤ N ∧ w'.heap[N]? = some (.cells #[.string fn, .string s, ev] 138 (0, 0)) ∧ Below w.heap.size w w' := by
  have heq : ∀ W, (binOp .eql 106 (.iface 129 (.int .i64 2)) (.iface 129 (.int .i64 2))).run Tryz.prog W = .ok (.bool true) W := fun W => by kernel_rfl
  go_enter Tryz.func99, Tryz.ntmps99
  go_wp2_with fail
  refine (Tryz.strconv_syntaxError fn s ev _ hlim hv hev).mono ?_
  rintro e w2 ⟨N, rfl, h1, h2, h3⟩
  go_wp2
  go_ret
  exact ⟨N, rfl, h1, h2, h3⟩

set_option maxHeartbeats 800000 in
theorem spu16_c (t : ByteArray) (hmax : t.size ≤ 4) (w : World) (hL : LW w) :
    Calls Tryz.prog 89 #[.string t, .int .i64 16, .int .i64 16] w fun e w' =>
      ((∃ (v : Nat) (x : Int), hexG t.data.toList = some v ∧ Hid (x = (v : Int)) ∧ 0 ≤ x ∧ x < 65536 ∧ e = .returned (.tuple #[.int .u64 x, .nilIface])) ∨ (∃ p, hexG t.data.toList = none ∧ e = .returned (.tuple #[.int .u64 0, .iface 131 p]))) ∧ Below w.heap.size w w' := by
  obtain ⟨G, hG⟩ : ∃ G, hexG t.data.toList = G := ⟨_, rfl⟩
  have pc := pu16_c t hmax w
  rw [hG] at pc ⊢
  clear hG
  have hz := hL.sz
  go_enter Tryz.func89, Tryz.ntmps89
  go_wp2_with fail
  refine pc.mono ?_
  rintro e w1 ⟨h | h, hb1⟩
  · obtain ⟨v, hv, hv2, rfl⟩ := h
    obtain ⟨x, hx⟩ : ∃ x : Int, x = (v : Int) := ⟨_, rfl⟩
    rw [← hx]
    have x0 : 0 ≤ x := by omega
    have x1 : x < 65536 := by omega
    have HX : Hid (x = (v : Int)) := hx
    have hv' : Hid (G = some v) := hv
    clear hx hv pc
    go_wp2
    go_ret2
    exact ⟨Or.inl ⟨v, x, hv'.out, HX, x0, x1, rfl⟩, hb1⟩
  · obtain ⟨hn, rfl⟩ := h
    have L1 := hL.of hb1 hz
    obtain ⟨ev, hev, hev2⟩ := L1.es
    have hn' : Hid (G = none) := hn
    clear hn pc
    go_wp2_with fail
    refine (toErr_c _ t 16 16 ev _ (by omega) hev hev2).mono ?_
    rintro e w2 ⟨N, rfl, _, _, hb2⟩
    have hs1 := hb1.size
    go_wp2
    go_ret2
    exact ⟨Or.inr ⟨_, hn'.out, rfl⟩, by repeat (first | with_reducible exact Below.refl _ _ | with_reducible refine Below.drew ?_ | with_reducible refine Below.alloc ?_ (by first | omega | (simp <;> omega)) _ | with_reducible refine Below.setCell ?_ (by first | omega | (simp <;> omega)) _ | with_reducible refine Below.trans ?_ (Below.mono hb2 (by first | omega | (simp <;> omega))) | with_reducible refine Below.trans ?_ (Below.mono hb1 (by first | omega | (simp <;> omega))))⟩

/-- What readGroup answers: h, l, and whether it is one. -/
def GroupIs (l : List UInt8) (x : Int) (ok : Bool) : Prop := (∃ v, hexG l = some v ∧ x = (v : Int) ∧ v < 65536 ∧ ok = true) ∨ (hexG l = none ∧ x = 0 ∧ ok = false)

set_option maxHeartbeats 800000 in
theorem readGroup_c (t : ByteArray) (w : World) (hL : LW w) :
    Calls Tryz.prog 73 #[.string t] w fun e w' => ∃ (x : Int) (ok : Bool), e = .returned (.tuple #[nv 0 x, .bool ok]) ∧ Hid (GroupIs t.data.toList x ok) ∧ Below w.heap.size w w' := by
  have hl : t.data.toList.length = t.size := by simp
  have hz := hL.sz
  by_cases h4 : 4 < t.size
  · have hn : Hid (GroupIs t.data.toList 0 false) := Or.inr ⟨by unfold hexG; rw [if_pos (by omega)], rfl, rfl⟩
    have h4' : (4 : Int) < (t.size : Int) := by omega
    clear hl
    go_enter Tryz.func73, Tryz.ntmps73
    go_wp2
    refine bodyPost_ret (v := .tuple #[nv 0 0, .bool false]) (by simp [results, Tryz.results73, go_sem]) rfl ⟨0, false, rfl, hn, by repeat (first | with_reducible exact Below.refl _ _ | with_reducible refine Below.drew ?_ | with_reducible refine Below.alloc ?_ (by first | omega | (simp <;> omega)) _ | with_reducible refine Below.setCell ?_ (by first | omega | (simp <;> omega)) _)⟩
  · have h4' : ¬ (4 : Int) < (t.size : Int) := by omega
    obtain ⟨G, hG⟩ : ∃ G, GroupIs t.data.toList = G := ⟨_, rfl⟩
    have pc := fun w' (hb : Below w.heap.size w w') => spu16_c t (by omega) w' (hL.of hb hz)
    have g1 : ∀ v : Nat, hexG t.data.toList = some v → v < 65536 → G (v : Int) true := by
      rw [← hG]
      exact fun v h1 h2 => Or.inl ⟨v, h1, rfl, h2, rfl⟩
    have g2 : hexG t.data.toList = none → G 0 false := by
      rw [← hG]
      exact fun h1 => Or.inr ⟨h1, rfl, rfl⟩
    rw [hG]
    clear hG hl hL
    go_enter Tryz.func73, Tryz.ntmps73
    go_wp2_with fail
    refine (pc _ (by repeat (first | with_reducible exact Below.refl _ _ | with_reducible refine Below.drew ?_ | with_reducible refine Below.alloc ?_ (by first | omega | (simp <;> omega)) _ | with_reducible refine Below.setCell ?_ (by first | omega | (simp <;> omega)) _))).mono ?_
    rintro e w1 ⟨h | h, hb1⟩
    · obtain ⟨v, x, hv, hx, x0, x1, rfl⟩ := h
      have gx : Hid (G x true) := by
        have := g1 v hv (by have := hx.out; omega)
        rw [← hx.out] at this
        exact this
      obtain ⟨hc1, hf1⟩ := bcell hb1
      have hz_w1_0 : w.heap.size < w1.heap.size   := (by have := hb1.size; first | omega | (simp at this; omega))
      clear g1 g2 hv hx pc
      go_wp2_with fail
      refine (of_w x _).mono ?_
      rintro e w2 ⟨rfl, hb2⟩
      obtain ⟨hc2, hf2⟩ := bcell hb2
      have hz_w2_0 : w.heap.size < w2.heap.size   := (by have := hb2.size; first | omega | (simp at this; omega))
      go_wp2
      refine bodyPost_ret (v := .tuple #[nv 0 x, .bool true]) (by simp [results, Tryz.results73, go_sem, *]) rfl ⟨x, true, rfl, gx, by repeat (first | with_reducible exact Below.refl _ _ | with_reducible refine Below.drew ?_ | with_reducible refine Below.alloc ?_ (by first | omega | (simp <;> omega)) _ | with_reducible refine Below.setCell ?_ (by first | omega | (simp <;> omega)) _ | with_reducible refine Below.trans ?_ (Below.mono hb2 (by first | omega | (simp <;> omega))) | with_reducible refine Below.trans ?_ (Below.mono hb1 (by first | omega | (simp <;> omega))))⟩
    · obtain ⟨p, hn, rfl⟩ := h
      have gx : Hid (G 0 false) := g2 hn
      obtain ⟨hc1, hf1⟩ := bcell hb1
      have hz_w1_0 : w.heap.size < w1.heap.size   := (by have := hb1.size; first | omega | (simp at this; omega))
      clear g1 g2 hn pc
      go_wp2
      refine bodyPost_ret (v := .tuple #[nv 0 0, .bool false]) (by simp [results, Tryz.results73, go_sem, *]) rfl ⟨0, false, rfl, gx, by repeat (first | with_reducible exact Below.refl _ _ | with_reducible refine Below.drew ?_ | with_reducible refine Below.alloc ?_ (by first | omega | (simp <;> omega)) _ | with_reducible refine Below.setCell ?_ (by first | omega | (simp <;> omega)) _ | with_reducible refine Below.trans ?_ (Below.mono hb1 (by first | omega | (simp <;> omega))))⟩

end Go.Proofs.YtipjmmhlfmahbaaGreatDoor

namespace Go.Proofs.YtipjmmhlfmahbaaGreatDoor
open Go.ChangeShapes Go.WideShapes Go.ChangeAt Go.RowKit
set_option linter.unusedVariables false
set_option linter.unusedSimpArgs false

/-- Two words and a count, as a value. -/
abbrev gv (hi lo c : Int) : Value := .agg #[.int .u64 hi, .int .u64 lo, .int .i64 c]

/-- What a call of with keeps of its arguments. -/
def WS (w : World) (gh gl c nh nl : Int) (wx : World) : Prop :=
  (wx.cell? ⟨w.heap.size, 0, none⟩ = some (.int .u64 gh) ∧ wx.cell? ⟨w.heap.size, 1, none⟩ = some (.int .u64 gl) ∧ wx.cell? ⟨w.heap.size, 2, none⟩ = some (.int .i64 c)) ∧ (wx.cell? ⟨w.heap.size + 1, 0, none⟩ = some (.int .u64 nh) ∧ wx.cell? ⟨w.heap.size + 1, 1, none⟩ = some (.int .u64 nl)) ∧
  Blk wx w.heap.size #[.int .u64 gh, .int .u64 gl, .int .i64 c] 75 ∧ Blk wx (w.heap.size + 1) #[.int .u64 nh, .int .u64 nl] 24

theorem WS.of {w : World} {gh gl c nh nl : Int} {wx : World} (a : Blk wx w.heap.size #[.int .u64 gh, .int .u64 gl, .int .i64 c] 75) (b : Blk wx (w.heap.size + 1) #[.int .u64 nh, .int .u64 nl] 24) : WS w gh gl c nh nl wx :=
  ⟨⟨a.cell 0, a.cell 1, a.cell 2⟩, ⟨b.cell 0, b.cell 1⟩, a, b⟩

theorem WS.drew {w : World} {gh gl c nh nl : Int} {wx : World} (s : WS w gh gl c nh nl wx) : WS w gh gl c nh nl wx.drew := s

theorem WS.below {w : World} {gh gl c nh nl : Int} {wx w1 : World} (s : WS w gh gl c nh nl wx) (hb : Below wx.heap.size wx w1) : WS w gh gl c nh nl w1 := WS.of (s.2.2.1.below hb) (s.2.2.2.below hb)

theorem WS.far {w : World} {gh gl c nh nl : Int} {wx : World} (s : WS w gh gl c nh nl wx) (x y z : Value) : WS w gh gl c nh nl (((wx.setCell ⟨w.heap.size + 2, 0, none⟩ x).setCell ⟨w.heap.size + 2, 1, none⟩ y).setCell ⟨w.heap.size + 2, 2, none⟩ z) :=
  WS.of (s.2.2.1.far3 (by omega) _ _ _) (s.2.2.2.far3 (by omega) _ _ _)

set_option maxRecDepth 100000 in
set_option maxHeartbeats 400000 in
theorem with_c {gh gl nh nl c d h l : Int} {g n : Nat} (hg : IsNum gh gl g) (hn : IsNum nh nl n) (c0 : 0 ≤ c) (c1 : c ≤ 100) (d0 : 0 ≤ d) (d1 : d ≤ 8) (hr : IsNum h l ((g * 2 ^ (16 * d).toNat % 340282366920938463463374607431768211456) ||| n)) (w : World) :
    Calls Tryz.prog 56 #[gv gh gl c, nv nh nl, .int .i64 d] w fun e w' => e = .returned (gv h l (c + d)) ∧ Below w.heap.size w w' := by
  obtain ⟨sh, sl, hs⟩ := IsNum.ex (n := g * 2 ^ (16 * d).toNat % 340282366920938463463374607431768211456) (Nat.mod_lt _ (by decide))
  have C1 : Hid (∀ w, Calls Tryz.prog 58 #[nv gh gl, .int .i64 (16 * d)] w fun e w' => e = .returned (nv sh sl) ∧ Below w.heap.size w w') := fun w => shl_is hg (by omega) hs w
  have C2 : Hid (∀ w, Calls Tryz.prog 52 #[nv sh sl, nv nh nl] w fun e w' => e = .returned (nv h l) ∧ Below w.heap.size w w') := fun w => or_is hs hn hr w
  have hw1 : IntKind.i64.wrap (16 * d) = 16 * d := by simp [IntKind.wrap, IntKind.bits, IntKind.signed]; omega
  have hw2 : IntKind.i64.wrap (c + d) = c + d := by simp [IntKind.wrap, IntKind.bits, IntKind.signed]; omega
  clear hg hn hr hs
  go_enter Tryz.func56, Tryz.ntmps56
  go_wp2_with fail
  have S0 : WS w gh gl c nh nl (((w.alloc (.cells #[.int .u64 gh, .int .u64 gl, .int .i64 c] 75)).alloc (.cells #[.int .u64 nh, .int .u64 nl] 24)).alloc (.cells #[.int .u64 0, .int .u64 0, .int .i64 0] 75)) :=
    WS.of (((Blk.new _ _ _).alloc _).alloc _) (Blk.alloc (by simpa using Blk.new (w.alloc (.cells #[.int .u64 gh, .int .u64 gl, .int .i64 c] 75)) #[.int .u64 nh, .int .u64 nl] 24) _)
  have R0 : Blk (((w.alloc (.cells #[.int .u64 gh, .int .u64 gl, .int .i64 c] 75)).alloc (.cells #[.int .u64 nh, .int .u64 nl] 24)).alloc (.cells #[.int .u64 0, .int .u64 0, .int .i64 0] 75)) (w.heap.size + 1 + 1) #[.int .u64 0, .int .u64 0, .int .i64 0] 75 := by
    simpa using Blk.new ((w.alloc (.cells #[.int .u64 gh, .int .u64 gl, .int .i64 c] 75)).alloc (.cells #[.int .u64 nh, .int .u64 nl] 24)) #[.int .u64 0, .int .u64 0, .int .i64 0] 75
  refine wp_region_held_drew (S := (WS w gh gl c nh nl)) (by kernel_rfl) ?hS100 (fun hHeld => ?rest100)
  case hS100 => (first | with_reducible exact S0.drew | exact hHeld.below hb3 | exact hHeld.below hb4 | exact hHeld.far _ _ _)
  refine wpAnyH_take (i := 0) (oi := _) (v := ?v101) (List.getElem?_toArray.trans rfl) (by kernel_rfl) (by kernel_rfl) (by kernel_rfl) (fun _ _ _ h => h) (Or.inl ⟨by rfl, ?hy101⟩) (by assumption) ?rest101
  case hy101 => (intro wq hSw; (try simp only [Two, WS] at hSw); go_simp; try with_reducible rfl)
  try simp only [Act.put, List.setIfInBounds_toArray, List.set_cons_zero, List.set_cons_succ]
  refine wpAnyH_take (i := 1) (oi := _) (v := ?v102) (List.getElem?_toArray.trans rfl) (by kernel_rfl) (by kernel_rfl) (by kernel_rfl) (fun _ _ _ h => h) (Or.inl ⟨by rfl, ?hy102⟩) (by assumption) ?rest102
  case hy102 => (intro wq hSw; (try simp only [Two, WS] at hSw); go_simp; try with_reducible rfl)
  try simp only [Act.put, List.setIfInBounds_toArray, List.set_cons_zero, List.set_cons_succ]
  refine wpAnyH_take (i := 2) (oi := _) (v := ?v103) (List.getElem?_toArray.trans rfl) (by kernel_rfl) (by kernel_rfl) (by kernel_rfl) (fun _ _ _ h => h) (Or.inl ⟨by rfl, ?hy103⟩) (by assumption) ?rest103
  case hy103 => (intro wq hSw; (try simp only [Two, WS] at hSw); go_simp; try with_reducible rfl)
  try simp only [Act.put, List.setIfInBounds_toArray, List.set_cons_zero, List.set_cons_succ]
  refine wpAnyH_take (i := 3) (oi := _) (v := ?v104) (List.getElem?_toArray.trans rfl) (by kernel_rfl) (by kernel_rfl) (by kernel_rfl) (fun _ _ _ h => h) (Or.inl ⟨by rfl, ?hy104⟩) (by assumption) ?rest104
  case hy104 => (intro wq hSw; (try simp only [Two, WS] at hSw); go_simp; try with_reducible rfl)
  try simp only [Act.put, List.setIfInBounds_toArray, List.set_cons_zero, List.set_cons_succ]
  refine wpAnyH_take (i := 5) (oi := _) (v := ?v105) (List.getElem?_toArray.trans rfl) (by kernel_rfl) (by kernel_rfl) (by kernel_rfl) (fun _ _ _ h => h) (Or.inl ⟨by rfl, ?hy105⟩) (by assumption) ?rest105
  case hy105 => (intro wq hSw; (try simp only [Two, WS] at hSw); go_simp; try with_reducible rfl)
  try simp only [Act.put, List.setIfInBounds_toArray, List.set_cons_zero, List.set_cons_succ]
  refine wpAnyH_take (i := 7) (oi := _) (v := ?v106) (List.getElem?_toArray.trans rfl) (by kernel_rfl) (by kernel_rfl) (by kernel_rfl) (fun _ _ _ h => h) (Or.inl ⟨by rfl, ?hy106⟩) (by assumption) ?rest106
  case hy106 => (intro wq hSw; (try simp only [Two, WS] at hSw); go_simp; try with_reducible rfl)
  try simp only [Act.put, List.setIfInBounds_toArray, List.set_cons_zero, List.set_cons_succ]
  refine wpAnyH_take (i := 8) (oi := _) (v := ?v107) (List.getElem?_toArray.trans rfl) (by kernel_rfl) (by kernel_rfl) (by kernel_rfl) (fun _ _ _ h => h) (Or.inl ⟨by rfl, ?hy107⟩) (by assumption) ?rest107
  case hy107 => (intro wq hSw; (try simp only [Two, WS] at hSw); go_simp; try with_reducible rfl)
  try simp only [Act.put, List.setIfInBounds_toArray, List.set_cons_zero, List.set_cons_succ]
  refine wpAnyH_take (i := 9) (oi := _) (v := ?v108) (List.getElem?_toArray.trans rfl) (by kernel_rfl) (by kernel_rfl) (by kernel_rfl) (fun _ _ _ h => h) (Or.inl ⟨by rfl, ?hy108⟩) (by assumption) ?rest108
  case hy108 => (intro wq hSw; (try simp only [Two, WS] at hSw); go_simp; try with_reducible rfl)
  try simp only [Act.put, List.setIfInBounds_toArray, List.set_cons_zero, List.set_cons_succ]
  refine wpAnyH_take (i := 10) (oi := _) (v := ?v109) (List.getElem?_toArray.trans rfl) (by kernel_rfl) (by kernel_rfl) (by kernel_rfl) (fun _ _ _ h => h) (Or.inl ⟨by rfl, ?hy109⟩) (by assumption) ?rest109
  case hy109 => (intro wq hSw; (try simp only [Two, WS] at hSw); go_simp; try with_reducible rfl)
  try simp only [Act.put, List.setIfInBounds_toArray, List.set_cons_zero, List.set_cons_succ]
  refine wpAnyH_ready (rs := [4]) (by kernel_rfl) (by simp) ?rdy110
  refine AllReadyH.cons (List.getElem?_toArray.trans rfl) (fun K hK => ?stp110) AllReadyH.nil
  go_simp
  go_wp2_with fail
  (refine (C1.out _).mono ?_; rintro e w3 ⟨rfl, hb3⟩; obtain ⟨hc3, hf3⟩ := bcell hb3; have hz_w3_0 : w.heap.size < w3.heap.size   := (by have := hb3.size; first | omega | (simp at this; omega)); have hz_w3_1 : w.heap.size + 1 < w3.heap.size   := (by have := hb3.size; first | omega | (simp at this; omega)); have hz_w3_2 : w.heap.size + 2 < w3.heap.size   := (by have := hb3.size; first | omega | (simp at this; omega)))
  go_wp2_with fail
  refine hK.out _ _ ?hSn110 (fun hHeld2 => ?rest110)
  case hSn110 => (first | with_reducible exact S0.drew | exact hHeld.below hb3 | exact hHeld.below hb4 | exact hHeld.far _ _ _)
  clear hK K hHeld
  have hHeld := hHeld2
  clear hHeld2
  try simp only [Act.put, List.setIfInBounds_toArray, List.set_cons_zero, List.set_cons_succ]
  refine wpAnyH_ready (rs := [6]) (by kernel_rfl) (by simp) ?rdy111
  refine AllReadyH.cons (List.getElem?_toArray.trans rfl) (fun K hK => ?stp111) AllReadyH.nil
  go_simp
  go_wp2_with fail
  (refine (C2.out _).mono ?_; rintro e w4 ⟨rfl, hb4⟩; obtain ⟨hc4, hf4⟩ := bcell hb4; have hz_w4_0 : w.heap.size < w4.heap.size   := (by have := hb4.size; first | omega | (simp at this; omega)); have hz_w4_1 : w.heap.size + 1 < w4.heap.size   := (by have := hb4.size; first | omega | (simp at this; omega)); have hz_w4_2 : w.heap.size + 2 < w4.heap.size   := (by have := hb4.size; first | omega | (simp at this; omega)))
  go_wp2_with fail
  refine hK.out _ _ ?hSn111 (fun hHeld2 => ?rest111)
  case hSn111 => (first | with_reducible exact S0.drew | exact hHeld.below hb3 | exact hHeld.below hb4 | exact hHeld.far _ _ _)
  clear hK K hHeld
  have hHeld := hHeld2
  clear hHeld2
  try simp only [Act.put, List.setIfInBounds_toArray, List.set_cons_zero, List.set_cons_succ]
  refine wpAnyH_take (i := 11) (oi := _) (v := ?v112) (List.getElem?_toArray.trans rfl) (by kernel_rfl) (by kernel_rfl) (by kernel_rfl) (fun _ _ _ h => h) (Or.inl ⟨by rfl, ?hy112⟩) (by assumption) ?rest112
  case hy112 => (intro wq hSw; (try simp only [Two, WS] at hSw); go_simp; try with_reducible rfl)
  try simp only [Act.put, List.setIfInBounds_toArray, List.set_cons_zero, List.set_cons_succ]
  refine wpAnyH_ready (rs := [12]) (by kernel_rfl) (by simp) ?rdy113
  refine AllReadyH.cons (List.getElem?_toArray.trans rfl) (fun K hK => ?stp113) AllReadyH.nil
  go_simp
  go_wp2_with fail
  skip
  go_wp2_with fail
  refine hK.out _ _ ?hSn113 (fun hHeld2 => ?rest113)
  case hSn113 => (first | with_reducible exact S0.drew | exact hHeld.below hb3 | exact hHeld.below hb4 | exact hHeld.far _ _ _)
  clear hK K hHeld
  have hHeld := hHeld2
  clear hHeld2
  try simp only [Act.put, List.setIfInBounds_toArray, List.set_cons_zero, List.set_cons_succ]
  refine wpAnyH_done (by kernel_rfl) ?fin100 _
  obtain ⟨k1, k2, k3, _⟩ := ((R0.via hb3 rfl).below hb4).three
  go_wp2
  refine bodyPost_ret (v := gv h l (c + d)) (by simp [results, Tryz.results56, go_sem, World.cell?_setCell_same', World.cell?_setCell_other, k1, k2, k3]) rfl ⟨rfl, by repeat (first | with_reducible exact Below.refl _ _ | with_reducible refine Below.drew ?_ | with_reducible refine Below.alloc ?_ (by first | omega | (simp <;> omega)) _ | with_reducible refine Below.setCell ?_ (by first | omega | (simp <;> omega)) _ | with_reducible refine Below.trans ?_ (Below.mono hb4 (by first | omega | (simp <;> omega))) | with_reducible refine Below.trans ?_ (Below.mono hb3 (by first | omega | (simp <;> omega))))⟩
end Go.Proofs.YtipjmmhlfmahbaaGreatDoor
