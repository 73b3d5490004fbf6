/-
  Texts Po2 of the proof.
-/
import Derived.Test.YtighdocmncbdnaaGreatDoorQGr42

namespace Go.Proofs.YtighdocmncbdnaaGreatDoor
open Go.ChangeShapes Go.WideShapes Go.ChangeAt Go.RowKit
set_option linter.unusedVariables false
set_option linter.unusedSimpArgs false

theorem Blk.five {W : World} {b : Nat} {x y z u s : Value} {t : TypeId} (h : Blk W b #[x, y, z, u, s] t) : W.cell? ⟨b, 0, none⟩ = some x ∧ W.cell? ⟨b, 1, none⟩ = some y ∧ W.cell? ⟨b, 2, none⟩ = some z ∧ W.cell? ⟨b, 3, none⟩ = some u ∧ W.cell? ⟨b, 4, none⟩ = some s ∧ b < W.heap.size :=
  ⟨h.cell 0, h.cell 1, h.cell 2, h.cell 3, h.cell 4, h.lt⟩

/-- A pool. -/
structure PoAt (W : World) (v : Bool) (h l b : Int) (x a g N : Nat) (f : Nat → Bool) : Prop where
  hd : Blk W x #[.bool v, .int .u64 h, .int .u64 l, .int .i64 b, .pointer (some ⟨a, 0, none⟩)] 90
  m : MapB W a g N f

theorem PoAt.below {W W' : World} {v : Bool} {h l b : Int} {x a g N : Nat} {f : Nat → Bool} (P : PoAt W v h l b x a g N f) (k : Below W.heap.size W W') : PoAt W' v h l b x a g N f := ⟨P.hd.below k, P.m.below k⟩

theorem PoAt.ne {W : World} {v : Bool} {h l b : Int} {x a g N : Nat} {f : Nat → Bool} (P : PoAt W v h l b x a g N f) : a ≠ x ∧ g ≠ x := P.m.neOf P.hd (by decide) (by decide)

theorem PoAt.turn {W W' : World} {v : Bool} {h l b : Int} {x a g N : Nat} {f f' : Nat → Bool} (P : PoAt W v h l b x a g N f) (m' : MapB W' a g N f') (k : But [g] W.heap.size W W') : PoAt W' v h l b x a g N f' :=
  ⟨k.blk P.hd P.hd.lt (by simpa using P.ne.2.symm), m'⟩

theorem PoAt.head {W : World} {v : Bool} {h l b : Int} {x a g N : Nat} {f : Nat → Bool} (P : PoAt W v h l b x a g N f) : W.cell? ⟨a, 0, none⟩ = some (.int .i64 N) := by
  obtain ⟨⟨ws, hm, _⟩, _⟩ := P.m
  exact hm.head.cell 0

set_option maxHeartbeats 800000 in
theorem psize_c {v : Bool} {h l b : Int} {x a g N : Nat} {f : Nat → Bool} (w : World) (P : PoAt w v h l b x a g N f) :
    Calls Tryz.prog 19 #[.pointer (some ⟨x, 0, none⟩)] w fun e w' => e = .returned (.int .i64 N) ∧ w' = w := by
  obtain ⟨x0, x1, x2, x3, x4, xl⟩ := P.hd.five
  have SZ := hide (size_c a N w P.head)
  clear P
  go_enter Tryz.func19, Tryz.ntmps19
  go_wp2_with fail
  refine SZ.out.mono ?_
  rintro e w1 ⟨rfl, rfl⟩
  clear SZ
  go_wp2
  go_ret
  exact ⟨rfl, rfl⟩

theorem host_i {v : Bool} {h l b rh rl i : Int} {a x n k : Nat} (hp : IsNum h l n) (ok : okP v n b = true) (hik : i = (k : Int)) (hi : k < szP v n b) (hr : IsNum rh rl (n + k)) (w : World)
    (hx : Blk w x #[.bool v, .int .u64 h, .int .u64 l, .int .i64 b, .pointer (some ⟨a, 0, none⟩)] 90) :
    Calls Tryz.prog 72 #[.pointer (some ⟨x, 0, none⟩), .int .i64 i] w fun e w' => e = .returned (av v rh rl) ∧ Below w.heap.size w w' := by
  subst hik
  exact host_c hp ok hi hr w hx

set_option maxRecDepth 100000 in
set_option maxHeartbeats 1600000 in
theorem kept_v6 {h l b : Int} {x a g N : Nat} {f : Nat → Bool} (hN : 0 < N) (w : World) (P : PoAt w true h l b x a g N f) :
    Calls Tryz.prog 107 #[.pointer (some ⟨x, 0, none⟩)] w fun e w' => ∃ k, e = .returned (.slice (some ⟨k, 0, none⟩) 1 1) ∧ Blk w' k #[.int .i64 0] 3 ∧ w.heap.size ≤ k ∧ Below w.heap.size w w' := by
  obtain ⟨x0, x1, x2, x3, x4, xl⟩ := P.hd.five
  have SZ := hide (psize_c w P)
  have hN6 := P.m.lt.2.2.2
  have K0 : Kn w [(x, [.bool true, .int .u64 h, .int .u64 l, .int .i64 b, .pointer (some ⟨a, 0, none⟩)], 90)] w := (Kn.nil w).cons P.hd
  clear P
  go_enter Tryz.func107, Tryz.ntmps107
  go_wp2_with fail
  refine SZ.out.mono ?_
  rintro e w ⟨rfl, rfl⟩
  clear SZ
  go_wp2_with fail
  refine wp_region_held_drew (S := (Kn w [(x, [.bool true, .int .u64 h, .int .u64 l, .int .i64 b, .pointer (some ⟨a, 0, none⟩)], 90)])) (by kernel_rfl) ?hS100 (fun hHeld => ?rest100)
  case hS100 => (first | with_reducible exact K0.drew)
  refine wpAnyH_take (i := 0) (oi := _) (v := ?v101) (List.getElem?_toArray.trans rfl) (by kernel_rfl) (by kernel_rfl) (by kernel_rfl) (fun _ _ _ h => h) (Or.inl ⟨by rfl, ?hy101⟩) (by assumption) ?rest101
  case hy101 => (intro wq hSw; (try simp only [Two, Kn, Facts, CellsAt] at hSw); go_simp; try with_reducible rfl)
  try simp only [Act.put, List.setIfInBounds_toArray, List.set_cons_zero, List.set_cons_succ]
  refine wpAnyH_take (i := 1) (oi := _) (v := ?v102) (List.getElem?_toArray.trans rfl) (by kernel_rfl) (by kernel_rfl) (by kernel_rfl) (fun _ _ _ h => h) (Or.inl ⟨by rfl, ?hy102⟩) (by assumption) ?rest102
  case hy102 => (intro wq hSw; (try simp only [Two, Kn, Facts, CellsAt] at hSw); go_simp; try with_reducible rfl)
  try simp only [Act.put, List.setIfInBounds_toArray, List.set_cons_zero, List.set_cons_succ]
  refine wpAnyH_take (i := 2) (oi := _) (v := ?v103) (List.getElem?_toArray.trans rfl) (by kernel_rfl) (by kernel_rfl) (by kernel_rfl) (fun _ _ _ h => h) (Or.inl ⟨by rfl, ?hy103⟩) (by assumption) ?rest103
  case hy103 => (intro wq hSw; (try simp only [Two, Kn, Facts, CellsAt] at hSw); go_simp; try with_reducible rfl)
  try simp only [Act.put, List.setIfInBounds_toArray, List.set_cons_zero, List.set_cons_succ]
  refine wpAnyH_take (i := 3) (oi := _) (v := ?v104) (List.getElem?_toArray.trans rfl) (by kernel_rfl) (by kernel_rfl) (by kernel_rfl) (fun _ _ _ h => h) (Or.inl ⟨by rfl, ?hy104⟩) (by assumption) ?rest104
  case hy104 => (intro wq hSw; (try simp only [Two, Kn, Facts, CellsAt] at hSw); go_simp; try with_reducible rfl)
  try simp only [Act.put, List.setIfInBounds_toArray, List.set_cons_zero, List.set_cons_succ]
  refine wpAnyH_take (i := 4) (oi := _) (v := ?v105) (List.getElem?_toArray.trans rfl) (by kernel_rfl) (by kernel_rfl) (by kernel_rfl) (fun _ _ _ h => h) (Or.inl ⟨by rfl, ?hy105⟩) (by assumption) ?rest105
  case hy105 => (intro wq hSw; (try simp only [Two, Kn, Facts, CellsAt] at hSw); go_simp; try with_reducible rfl)
  try simp only [Act.put, List.setIfInBounds_toArray, List.set_cons_zero, List.set_cons_succ]
  refine wpAnyH_take (i := 5) (oi := _) (v := ?v106) (List.getElem?_toArray.trans rfl) (by kernel_rfl) (by kernel_rfl) (by kernel_rfl) (fun _ _ _ h => h) (Or.inl ⟨by rfl, ?hy106⟩) (by assumption) ?rest106
  case hy106 => (intro wq hSw; (try simp only [Two, Kn, Facts, CellsAt] at hSw); go_simp; try with_reducible rfl)
  try simp only [Act.put, List.setIfInBounds_toArray, List.set_cons_zero, List.set_cons_succ]
  refine wpAnyH_take (i := 6) (oi := _) (v := ?v107) (List.getElem?_toArray.trans rfl) (by kernel_rfl) (by kernel_rfl) (by kernel_rfl) (fun _ _ _ h => h) (Or.inl ⟨by rfl, ?hy107⟩) (by assumption) ?rest107
  case hy107 => (intro wq hSw; (try simp only [Two, Kn, Facts, CellsAt] at hSw); go_simp; try with_reducible rfl)
  try simp only [Act.put, List.setIfInBounds_toArray, List.set_cons_zero, List.set_cons_succ]
  refine wpAnyH_take (i := 7) (oi := _) (v := ?v108) (List.getElem?_toArray.trans rfl) (by kernel_rfl) (by kernel_rfl) (by kernel_rfl) (fun _ _ _ h => h) (Or.inl ⟨by rfl, ?hy108⟩) (by assumption) ?rest108
  case hy108 => (intro wq hSw; (try simp only [Two, Kn, Facts, CellsAt] at hSw); go_simp; try with_reducible rfl)
  try simp only [Act.put, List.setIfInBounds_toArray, List.set_cons_zero, List.set_cons_succ]
  refine wpAnyH_take (i := 8) (oi := _) (v := undef) (List.getElem?_toArray.trans rfl) (by kernel_rfl) (by kernel_rfl) (by kernel_rfl) (fun _ _ _ h => h) (Or.inr ⟨by rfl, rfl⟩) (by assumption) ?rest109
  try simp only [Act.put, List.setIfInBounds_toArray, List.set_cons_zero, List.set_cons_succ]
  refine wpAnyH_take (i := 9) (oi := _) (v := undef) (List.getElem?_toArray.trans rfl) (by kernel_rfl) (by kernel_rfl) (by kernel_rfl) (fun _ _ _ h => h) (Or.inr ⟨by rfl, rfl⟩) (by assumption) ?rest110
  try simp only [Act.put, List.setIfInBounds_toArray, List.set_cons_zero, List.set_cons_succ]
  refine wpAnyH_take (i := 10) (oi := _) (v := undef) (List.getElem?_toArray.trans rfl) (by kernel_rfl) (by kernel_rfl) (by kernel_rfl) (fun _ _ _ h => h) (Or.inr ⟨by rfl, rfl⟩) (by assumption) ?rest111
  try simp only [Act.put, List.setIfInBounds_toArray, List.set_cons_zero, List.set_cons_succ]
  refine wpAnyH_take (i := 11) (oi := _) (v := undef) (List.getElem?_toArray.trans rfl) (by kernel_rfl) (by kernel_rfl) (by kernel_rfl) (fun _ _ _ h => h) (Or.inr ⟨by rfl, rfl⟩) (by assumption) ?rest112
  try simp only [Act.put, List.setIfInBounds_toArray, List.set_cons_zero, List.set_cons_succ]
  refine wpAnyH_take (i := 12) (oi := _) (v := undef) (List.getElem?_toArray.trans rfl) (by kernel_rfl) (by kernel_rfl) (by kernel_rfl) (fun _ _ _ h => h) (Or.inr ⟨by rfl, rfl⟩) (by assumption) ?rest113
  try simp only [Act.put, List.setIfInBounds_toArray, List.set_cons_zero, List.set_cons_succ]
  refine wpAnyH_take (i := 13) (oi := _) (v := undef) (List.getElem?_toArray.trans rfl) (by kernel_rfl) (by kernel_rfl) (by kernel_rfl) (fun _ _ _ h => h) (Or.inr ⟨by rfl, rfl⟩) (by assumption) ?rest114
  try simp only [Act.put, List.setIfInBounds_toArray, List.set_cons_zero, List.set_cons_succ]
  refine wpAnyH_take (i := 14) (oi := _) (v := undef) (List.getElem?_toArray.trans rfl) (by kernel_rfl) (by kernel_rfl) (by kernel_rfl) (fun _ _ _ h => h) (Or.inr ⟨by rfl, rfl⟩) (by assumption) ?rest115
  try simp only [Act.put, List.setIfInBounds_toArray, List.set_cons_zero, List.set_cons_succ]
  refine wpAnyH_take (i := 15) (oi := _) (v := undef) (List.getElem?_toArray.trans rfl) (by kernel_rfl) (by kernel_rfl) (by kernel_rfl) (fun _ _ _ h => h) (Or.inr ⟨by rfl, rfl⟩) (by assumption) ?rest116
  try simp only [Act.put, List.setIfInBounds_toArray, List.set_cons_zero, List.set_cons_succ]
  refine wpAnyH_take (i := 16) (oi := _) (v := undef) (List.getElem?_toArray.trans rfl) (by kernel_rfl) (by kernel_rfl) (by kernel_rfl) (fun _ _ _ h => h) (Or.inr ⟨by rfl, rfl⟩) (by assumption) ?rest117
  try simp only [Act.put, List.setIfInBounds_toArray, List.set_cons_zero, List.set_cons_succ]
  refine wpAnyH_take (i := 17) (oi := _) (v := ?v118) (List.getElem?_toArray.trans rfl) (by kernel_rfl) (by kernel_rfl) (by kernel_rfl) (fun _ _ _ h => h) (Or.inl ⟨by rfl, ?hy118⟩) (by assumption) ?rest118
  case hy118 => (intro wq hSw; (try simp only [Two, Kn, Facts, CellsAt] at hSw); go_simp; try with_reducible rfl)
  try simp only [Act.put, List.setIfInBounds_toArray, List.set_cons_zero, List.set_cons_succ]
  refine wpAnyH_done (by kernel_rfl) ?fin100 _
  have B := hHeld.bel
  clear hHeld K0
  go_wp2
  go_ret
  refine ⟨_, rfl, Blk.new _ _ _, B.size, by repeat (first | with_reducible exact Below.refl _ _ | with_reducible refine Below.drew ?_ | with_reducible refine Below.alloc ?_ (by first | omega | (simp <;> omega)) _ | with_reducible refine Below.setCell ?_ (by first | omega | (simp <;> omega)) _ | with_reducible refine Below.trans ?_ (Below.mono B (by first | omega | (simp <;> omega))))⟩

set_option maxRecDepth 100000 in
set_option maxHeartbeats 1600000 in
theorem kept_no {h l b rh rl lh ll : Int} {x a g N : Nat} {f : Nat → Bool} (hN : 0 < N) (hne : ¬ (rh = lh ∧ rl = ll)) (w : World) (P : PoAt w false h l b x a g N f)
    (HO : Hid (∀ w', Blk w' x #[.bool false, .int .u64 h, .int .u64 l, .int .i64 b, .pointer (some ⟨a, 0, none⟩)] 90 → Calls Tryz.prog 72 #[.pointer (some ⟨x, 0, none⟩), .int .i64 ((N : Int) - 1)] w' fun e w1 => e = .returned (av false rh rl) ∧ Below w'.heap.size w' w1))
    (LA : Hid (∀ w', Calls Tryz.prog 35 #[pv false h l b] w' fun e w1 => e = .returned (av false lh ll) ∧ Below w'.heap.size w' w1)) :
    Calls Tryz.prog 107 #[.pointer (some ⟨x, 0, none⟩)] w fun e w' => ∃ k, e = .returned (.slice (some ⟨k, 0, none⟩) 1 1) ∧ Blk w' k #[.int .i64 0] 3 ∧ w.heap.size ≤ k ∧ Below w.heap.size w w' := by
  obtain ⟨x0, x1, x2, x3, x4, xl⟩ := P.hd.five
  have SZ := hide (psize_c w P)
  have hN6 := P.m.lt.2.2.2
  have K0 : Kn w [(x, [.bool false, .int .u64 h, .int .u64 l, .int .i64 b, .pointer (some ⟨a, 0, none⟩)], 90)] w := (Kn.nil w).cons P.hd
  clear P
  go_enter Tryz.func107, Tryz.ntmps107
  go_wp2_with fail
  refine SZ.out.mono ?_
  rintro e w ⟨rfl, rfl⟩
  clear SZ
  go_wp2_with fail
  refine wp_region_held_drew (S := (Kn w [(x, [.bool false, .int .u64 h, .int .u64 l, .int .i64 b, .pointer (some ⟨a, 0, none⟩)], 90)])) (by kernel_rfl) ?hS200 (fun hHeld => ?rest200)
  case hS200 => (first | with_reducible exact K0.drew | with_reducible exact hHeld.below hb4 | with_reducible exact hHeld.below hb5)
  refine wpAnyH_take (i := 0) (oi := _) (v := ?v201) (List.getElem?_toArray.trans rfl) (by kernel_rfl) (by kernel_rfl) (by kernel_rfl) (fun _ _ _ h => h) (Or.inl ⟨by rfl, ?hy201⟩) (by assumption) ?rest201
  case hy201 => (intro wq hSw; (try simp only [Two, Kn, Facts, CellsAt] at hSw); go_simp; try with_reducible rfl)
  try simp only [Act.put, List.setIfInBounds_toArray, List.set_cons_zero, List.set_cons_succ]
  refine wpAnyH_take (i := 1) (oi := _) (v := ?v202) (List.getElem?_toArray.trans rfl) (by kernel_rfl) (by kernel_rfl) (by kernel_rfl) (fun _ _ _ h => h) (Or.inl ⟨by rfl, ?hy202⟩) (by assumption) ?rest202
  case hy202 => (intro wq hSw; (try simp only [Two, Kn, Facts, CellsAt] at hSw); go_simp; try with_reducible rfl)
  try simp only [Act.put, List.setIfInBounds_toArray, List.set_cons_zero, List.set_cons_succ]
  refine wpAnyH_take (i := 2) (oi := _) (v := ?v203) (List.getElem?_toArray.trans rfl) (by kernel_rfl) (by kernel_rfl) (by kernel_rfl) (fun _ _ _ h => h) (Or.inl ⟨by rfl, ?hy203⟩) (by assumption) ?rest203
  case hy203 => (intro wq hSw; (try simp only [Two, Kn, Facts, CellsAt] at hSw); go_simp; try with_reducible rfl)
  try simp only [Act.put, List.setIfInBounds_toArray, List.set_cons_zero, List.set_cons_succ]
  refine wpAnyH_take (i := 3) (oi := _) (v := ?v204) (List.getElem?_toArray.trans rfl) (by kernel_rfl) (by kernel_rfl) (by kernel_rfl) (fun _ _ _ h => h) (Or.inl ⟨by rfl, ?hy204⟩) (by assumption) ?rest204
  case hy204 => (intro wq hSw; (try simp only [Two, Kn, Facts, CellsAt] at hSw); go_simp; try with_reducible rfl)
  try simp only [Act.put, List.setIfInBounds_toArray, List.set_cons_zero, List.set_cons_succ]
  refine wpAnyH_take (i := 4) (oi := _) (v := ?v205) (List.getElem?_toArray.trans rfl) (by kernel_rfl) (by kernel_rfl) (by kernel_rfl) (fun _ _ _ h => h) (Or.inl ⟨by rfl, ?hy205⟩) (by assumption) ?rest205
  case hy205 => (intro wq hSw; (try simp only [Two, Kn, Facts, CellsAt] at hSw); go_simp; try with_reducible rfl)
  try simp only [Act.put, List.setIfInBounds_toArray, List.set_cons_zero, List.set_cons_succ]
  refine wpAnyH_take (i := 5) (oi := _) (v := ?v206) (List.getElem?_toArray.trans rfl) (by kernel_rfl) (by kernel_rfl) (by kernel_rfl) (fun _ _ _ h => h) (Or.inl ⟨by rfl, ?hy206⟩) (by assumption) ?rest206
  case hy206 => (intro wq hSw; (try simp only [Two, Kn, Facts, CellsAt] at hSw); go_simp; try with_reducible rfl)
  try simp only [Act.put, List.setIfInBounds_toArray, List.set_cons_zero, List.set_cons_succ]
  refine wpAnyH_take (i := 6) (oi := _) (v := ?v207) (List.getElem?_toArray.trans rfl) (by kernel_rfl) (by kernel_rfl) (by kernel_rfl) (fun _ _ _ h => h) (Or.inl ⟨by rfl, ?hy207⟩) (by assumption) ?rest207
  case hy207 => (intro wq hSw; (try simp only [Two, Kn, Facts, CellsAt] at hSw); go_simp; try with_reducible rfl)
  try simp only [Act.put, List.setIfInBounds_toArray, List.set_cons_zero, List.set_cons_succ]
  refine wpAnyH_take (i := 7) (oi := _) (v := ?v208) (List.getElem?_toArray.trans rfl) (by kernel_rfl) (by kernel_rfl) (by kernel_rfl) (fun _ _ _ h => h) (Or.inl ⟨by rfl, ?hy208⟩) (by assumption) ?rest208
  case hy208 => (intro wq hSw; (try simp only [Two, Kn, Facts, CellsAt] at hSw); go_simp; try with_reducible rfl)
  try simp only [Act.put, List.setIfInBounds_toArray, List.set_cons_zero, List.set_cons_succ]
  refine wpAnyH_take (i := 8) (oi := _) (v := ?v209) (List.getElem?_toArray.trans rfl) (by kernel_rfl) (by kernel_rfl) (by kernel_rfl) (fun _ _ _ h => h) (Or.inl ⟨by rfl, ?hy209⟩) (by assumption) ?rest209
  case hy209 => (intro wq hSw; (try simp only [Two, Kn, Facts, CellsAt] at hSw); go_simp; try with_reducible rfl)
  try simp only [Act.put, List.setIfInBounds_toArray, List.set_cons_zero, List.set_cons_succ]
  refine wpAnyH_take (i := 9) (oi := _) (v := ?v210) (List.getElem?_toArray.trans rfl) (by kernel_rfl) (by kernel_rfl) (by kernel_rfl) (fun _ _ _ h => h) (Or.inl ⟨by rfl, ?hy210⟩) (by assumption) ?rest210
  case hy210 => (intro wq hSw; (try simp only [Two, Kn, Facts, CellsAt] at hSw); go_simp; try with_reducible rfl)
  try simp only [Act.put, List.setIfInBounds_toArray, List.set_cons_zero, List.set_cons_succ]
  refine wpAnyH_take (i := 11) (oi := _) (v := ?v211) (List.getElem?_toArray.trans rfl) (by kernel_rfl) (by kernel_rfl) (by kernel_rfl) (fun _ _ _ h => h) (Or.inl ⟨by rfl, ?hy211⟩) (by assumption) ?rest211
  case hy211 => (intro wq hSw; (try simp only [Two, Kn, Facts, CellsAt] at hSw); go_simp; try with_reducible rfl)
  try simp only [Act.put, List.setIfInBounds_toArray, List.set_cons_zero, List.set_cons_succ]
  refine wpAnyH_take (i := 12) (oi := _) (v := ?v212) (List.getElem?_toArray.trans rfl) (by kernel_rfl) (by kernel_rfl) (by kernel_rfl) (fun _ _ _ h => h) (Or.inl ⟨by rfl, ?hy212⟩) (by assumption) ?rest212
  case hy212 => (intro wq hSw; (try simp only [Two, Kn, Facts, CellsAt] at hSw); go_simp; try with_reducible rfl)
  try simp only [Act.put, List.setIfInBounds_toArray, List.set_cons_zero, List.set_cons_succ]
  refine wpAnyH_take (i := 13) (oi := _) (v := ?v213) (List.getElem?_toArray.trans rfl) (by kernel_rfl) (by kernel_rfl) (by kernel_rfl) (fun _ _ _ h => h) (Or.inl ⟨by rfl, ?hy213⟩) (by assumption) ?rest213
  case hy213 => (intro wq hSw; (try simp only [Two, Kn, Facts, CellsAt] at hSw); go_simp; try with_reducible rfl)
  try simp only [Act.put, List.setIfInBounds_toArray, List.set_cons_zero, List.set_cons_succ]
  refine wpAnyH_take (i := 14) (oi := _) (v := ?v214) (List.getElem?_toArray.trans rfl) (by kernel_rfl) (by kernel_rfl) (by kernel_rfl) (fun _ _ _ h => h) (Or.inl ⟨by rfl, ?hy214⟩) (by assumption) ?rest214
  case hy214 => (intro wq hSw; (try simp only [Two, Kn, Facts, CellsAt] at hSw); go_simp; try with_reducible rfl)
  try simp only [Act.put, List.setIfInBounds_toArray, List.set_cons_zero, List.set_cons_succ]
  refine wpAnyH_ready (rs := [10]) (by kernel_rfl) (by simp) ?rdy215
  refine AllReadyH.cons (List.getElem?_toArray.trans rfl) (fun K hK => ?stp215) AllReadyH.nil
  go_simp
  go_wp2_with fail
  (refine (HO.out _ hHeld.2.1.1).mono ?_; rintro e w4 ⟨rfl, hb4⟩)
  go_wp2_with fail
  refine hK.out _ _ ?hSn215 (fun hHeld2 => ?rest215)
  case hSn215 => (first | with_reducible exact K0.drew | with_reducible exact hHeld.below hb4 | with_reducible exact hHeld.below hb5)
  clear hK K hHeld
  have hHeld := hHeld2
  clear hHeld2
  try simp only [Act.put, List.setIfInBounds_toArray, List.set_cons_zero, List.set_cons_succ]
  refine wpAnyH_ready (rs := [15]) (by kernel_rfl) (by simp) ?rdy216
  refine AllReadyH.cons (List.getElem?_toArray.trans rfl) (fun K hK => ?stp216) AllReadyH.nil
  go_simp
  go_wp2_with fail
  (refine (LA.out _).mono ?_; rintro e w5 ⟨rfl, hb5⟩)
  go_wp2_with fail
  refine hK.out _ _ ?hSn216 (fun hHeld2 => ?rest216)
  case hSn216 => (first | with_reducible exact K0.drew | with_reducible exact hHeld.below hb4 | with_reducible exact hHeld.below hb5)
  clear hK K hHeld
  have hHeld := hHeld2
  clear hHeld2
  try simp only [Act.put, List.setIfInBounds_toArray, List.set_cons_zero, List.set_cons_succ]
  refine wpAnyH_take (i := 16) (oi := _) (v := (.bool false)) (List.getElem?_toArray.trans rfl) (by kernel_rfl) (by kernel_rfl) (by kernel_rfl) (fun _ _ _ h => h) (Or.inl ⟨by rfl, ?hy217⟩) (by assumption) ?rest217
  case hy217 => (intro wq hSw; (try simp only [Two, Kn, Facts, CellsAt] at hSw); go_simp; (exact fun c d => hne ⟨c, d⟩))
  try simp only [Act.put, List.setIfInBounds_toArray, List.set_cons_zero, List.set_cons_succ]
  refine wpAnyH_take (i := 17) (oi := _) (v := ?v218) (List.getElem?_toArray.trans rfl) (by kernel_rfl) (by kernel_rfl) (by kernel_rfl) (fun _ _ _ h => h) (Or.inl ⟨by rfl, ?hy218⟩) (by assumption) ?rest218
  case hy218 => (intro wq hSw; (try simp only [Two, Kn, Facts, CellsAt] at hSw); go_simp; try with_reducible rfl)
  try simp only [Act.put, List.setIfInBounds_toArray, List.set_cons_zero, List.set_cons_succ]
  refine wpAnyH_done (by kernel_rfl) ?fin200 _
  have B := hHeld.bel
  have hs := B.size
  clear hHeld K0 hb4 hb5 HO LA
  go_wp2
  go_ret
  refine ⟨_, rfl, Blk.new _ _ _, ?_, by repeat (first | with_reducible exact Below.refl _ _ | with_reducible refine Below.drew ?_ | with_reducible refine Below.alloc ?_ (by first | omega | (simp <;> omega)) _ | with_reducible refine Below.setCell ?_ (by first | omega | (simp <;> omega)) _ | with_reducible refine Below.trans ?_ (Below.mono B (by first | omega | (simp <;> omega))))⟩
  simpa using hs

set_option maxRecDepth 100000 in
set_option maxHeartbeats 1600000 in
theorem kept_two {h l b rh rl lh ll : Int} {x a g N : Nat} {f : Nat → Bool} (hN : 0 < N)  (w : World) (P : PoAt w false h l b x a g N f)
    (HO : Hid (∀ w', Blk w' x #[.bool false, .int .u64 h, .int .u64 l, .int .i64 b, .pointer (some ⟨a, 0, none⟩)] 90 → Calls Tryz.prog 72 #[.pointer (some ⟨x, 0, none⟩), .int .i64 ((N : Int) - 1)] w' fun e w1 => e = .returned (av false rh rl) ∧ Below w'.heap.size w' w1))
    (LA : Hid (∀ w', Calls Tryz.prog 35 #[pv false h l b] w' fun e w1 => e = .returned (av false rh rl) ∧ Below w'.heap.size w' w1)) :
    Calls Tryz.prog 107 #[.pointer (some ⟨x, 0, none⟩)] w fun e w' => ∃ k, e = .returned (.slice (some ⟨k, 0, none⟩) 2 2) ∧ Blk w' k #[.int .i64 0, .int .i64 ((N : Int) - 1)] 3 ∧ w.heap.size ≤ k ∧ Below w.heap.size w w' := by
  obtain ⟨x0, x1, x2, x3, x4, xl⟩ := P.hd.five
  have SZ := hide (psize_c w P)
  have hN6 := P.m.lt.2.2.2
  have K0 : Kn w [(x, [.bool false, .int .u64 h, .int .u64 l, .int .i64 b, .pointer (some ⟨a, 0, none⟩)], 90)] w := (Kn.nil w).cons P.hd
  clear P
  go_enter Tryz.func107, Tryz.ntmps107
  go_wp2_with fail
  refine SZ.out.mono ?_
  rintro e w ⟨rfl, rfl⟩
  clear SZ
  go_wp2_with fail
  refine wp_region_held_drew (S := (Kn w [(x, [.bool false, .int .u64 h, .int .u64 l, .int .i64 b, .pointer (some ⟨a, 0, none⟩)], 90)])) (by kernel_rfl) ?hS300 (fun hHeld => ?rest300)
  case hS300 => (first | with_reducible exact K0.drew | with_reducible exact hHeld.below hb4 | with_reducible exact hHeld.below hb5)
  refine wpAnyH_take (i := 0) (oi := _) (v := ?v301) (List.getElem?_toArray.trans rfl) (by kernel_rfl) (by kernel_rfl) (by kernel_rfl) (fun _ _ _ h => h) (Or.inl ⟨by rfl, ?hy301⟩) (by assumption) ?rest301
  case hy301 => (intro wq hSw; (try simp only [Two, Kn, Facts, CellsAt] at hSw); go_simp; try with_reducible rfl)
  try simp only [Act.put, List.setIfInBounds_toArray, List.set_cons_zero, List.set_cons_succ]
  refine wpAnyH_take (i := 1) (oi := _) (v := ?v302) (List.getElem?_toArray.trans rfl) (by kernel_rfl) (by kernel_rfl) (by kernel_rfl) (fun _ _ _ h => h) (Or.inl ⟨by rfl, ?hy302⟩) (by assumption) ?rest302
  case hy302 => (intro wq hSw; (try simp only [Two, Kn, Facts, CellsAt] at hSw); go_simp; try with_reducible rfl)
  try simp only [Act.put, List.setIfInBounds_toArray, List.set_cons_zero, List.set_cons_succ]
  refine wpAnyH_take (i := 2) (oi := _) (v := ?v303) (List.getElem?_toArray.trans rfl) (by kernel_rfl) (by kernel_rfl) (by kernel_rfl) (fun _ _ _ h => h) (Or.inl ⟨by rfl, ?hy303⟩) (by assumption) ?rest303
  case hy303 => (intro wq hSw; (try simp only [Two, Kn, Facts, CellsAt] at hSw); go_simp; try with_reducible rfl)
  try simp only [Act.put, List.setIfInBounds_toArray, List.set_cons_zero, List.set_cons_succ]
  refine wpAnyH_take (i := 3) (oi := _) (v := ?v304) (List.getElem?_toArray.trans rfl) (by kernel_rfl) (by kernel_rfl) (by kernel_rfl) (fun _ _ _ h => h) (Or.inl ⟨by rfl, ?hy304⟩) (by assumption) ?rest304
  case hy304 => (intro wq hSw; (try simp only [Two, Kn, Facts, CellsAt] at hSw); go_simp; try with_reducible rfl)
  try simp only [Act.put, List.setIfInBounds_toArray, List.set_cons_zero, List.set_cons_succ]
  refine wpAnyH_take (i := 4) (oi := _) (v := ?v305) (List.getElem?_toArray.trans rfl) (by kernel_rfl) (by kernel_rfl) (by kernel_rfl) (fun _ _ _ h => h) (Or.inl ⟨by rfl, ?hy305⟩) (by assumption) ?rest305
  case hy305 => (intro wq hSw; (try simp only [Two, Kn, Facts, CellsAt] at hSw); go_simp; try with_reducible rfl)
  try simp only [Act.put, List.setIfInBounds_toArray, List.set_cons_zero, List.set_cons_succ]
  refine wpAnyH_take (i := 5) (oi := _) (v := ?v306) (List.getElem?_toArray.trans rfl) (by kernel_rfl) (by kernel_rfl) (by kernel_rfl) (fun _ _ _ h => h) (Or.inl ⟨by rfl, ?hy306⟩) (by assumption) ?rest306
  case hy306 => (intro wq hSw; (try simp only [Two, Kn, Facts, CellsAt] at hSw); go_simp; try with_reducible rfl)
  try simp only [Act.put, List.setIfInBounds_toArray, List.set_cons_zero, List.set_cons_succ]
  refine wpAnyH_take (i := 6) (oi := _) (v := ?v307) (List.getElem?_toArray.trans rfl) (by kernel_rfl) (by kernel_rfl) (by kernel_rfl) (fun _ _ _ h => h) (Or.inl ⟨by rfl, ?hy307⟩) (by assumption) ?rest307
  case hy307 => (intro wq hSw; (try simp only [Two, Kn, Facts, CellsAt] at hSw); go_simp; try with_reducible rfl)
  try simp only [Act.put, List.setIfInBounds_toArray, List.set_cons_zero, List.set_cons_succ]
  refine wpAnyH_take (i := 7) (oi := _) (v := ?v308) (List.getElem?_toArray.trans rfl) (by kernel_rfl) (by kernel_rfl) (by kernel_rfl) (fun _ _ _ h => h) (Or.inl ⟨by rfl, ?hy308⟩) (by assumption) ?rest308
  case hy308 => (intro wq hSw; (try simp only [Two, Kn, Facts, CellsAt] at hSw); go_simp; try with_reducible rfl)
  try simp only [Act.put, List.setIfInBounds_toArray, List.set_cons_zero, List.set_cons_succ]
  refine wpAnyH_take (i := 8) (oi := _) (v := ?v309) (List.getElem?_toArray.trans rfl) (by kernel_rfl) (by kernel_rfl) (by kernel_rfl) (fun _ _ _ h => h) (Or.inl ⟨by rfl, ?hy309⟩) (by assumption) ?rest309
  case hy309 => (intro wq hSw; (try simp only [Two, Kn, Facts, CellsAt] at hSw); go_simp; try with_reducible rfl)
  try simp only [Act.put, List.setIfInBounds_toArray, List.set_cons_zero, List.set_cons_succ]
  refine wpAnyH_take (i := 9) (oi := _) (v := ?v310) (List.getElem?_toArray.trans rfl) (by kernel_rfl) (by kernel_rfl) (by kernel_rfl) (fun _ _ _ h => h) (Or.inl ⟨by rfl, ?hy310⟩) (by assumption) ?rest310
  case hy310 => (intro wq hSw; (try simp only [Two, Kn, Facts, CellsAt] at hSw); go_simp; try with_reducible rfl)
  try simp only [Act.put, List.setIfInBounds_toArray, List.set_cons_zero, List.set_cons_succ]
  refine wpAnyH_take (i := 11) (oi := _) (v := ?v311) (List.getElem?_toArray.trans rfl) (by kernel_rfl) (by kernel_rfl) (by kernel_rfl) (fun _ _ _ h => h) (Or.inl ⟨by rfl, ?hy311⟩) (by assumption) ?rest311
  case hy311 => (intro wq hSw; (try simp only [Two, Kn, Facts, CellsAt] at hSw); go_simp; try with_reducible rfl)
  try simp only [Act.put, List.setIfInBounds_toArray, List.set_cons_zero, List.set_cons_succ]
  refine wpAnyH_take (i := 12) (oi := _) (v := ?v312) (List.getElem?_toArray.trans rfl) (by kernel_rfl) (by kernel_rfl) (by kernel_rfl) (fun _ _ _ h => h) (Or.inl ⟨by rfl, ?hy312⟩) (by assumption) ?rest312
  case hy312 => (intro wq hSw; (try simp only [Two, Kn, Facts, CellsAt] at hSw); go_simp; try with_reducible rfl)
  try simp only [Act.put, List.setIfInBounds_toArray, List.set_cons_zero, List.set_cons_succ]
  refine wpAnyH_take (i := 13) (oi := _) (v := ?v313) (List.getElem?_toArray.trans rfl) (by kernel_rfl) (by kernel_rfl) (by kernel_rfl) (fun _ _ _ h => h) (Or.inl ⟨by rfl, ?hy313⟩) (by assumption) ?rest313
  case hy313 => (intro wq hSw; (try simp only [Two, Kn, Facts, CellsAt] at hSw); go_simp; try with_reducible rfl)
  try simp only [Act.put, List.setIfInBounds_toArray, List.set_cons_zero, List.set_cons_succ]
  refine wpAnyH_take (i := 14) (oi := _) (v := ?v314) (List.getElem?_toArray.trans rfl) (by kernel_rfl) (by kernel_rfl) (by kernel_rfl) (fun _ _ _ h => h) (Or.inl ⟨by rfl, ?hy314⟩) (by assumption) ?rest314
  case hy314 => (intro wq hSw; (try simp only [Two, Kn, Facts, CellsAt] at hSw); go_simp; try with_reducible rfl)
  try simp only [Act.put, List.setIfInBounds_toArray, List.set_cons_zero, List.set_cons_succ]
  refine wpAnyH_ready (rs := [10]) (by kernel_rfl) (by simp) ?rdy315
  refine AllReadyH.cons (List.getElem?_toArray.trans rfl) (fun K hK => ?stp315) AllReadyH.nil
  go_simp
  go_wp2_with fail
  (refine (HO.out _ hHeld.2.1.1).mono ?_; rintro e w4 ⟨rfl, hb4⟩)
  go_wp2_with fail
  refine hK.out _ _ ?hSn315 (fun hHeld2 => ?rest315)
  case hSn315 => (first | with_reducible exact K0.drew | with_reducible exact hHeld.below hb4 | with_reducible exact hHeld.below hb5)
  clear hK K hHeld
  have hHeld := hHeld2
  clear hHeld2
  try simp only [Act.put, List.setIfInBounds_toArray, List.set_cons_zero, List.set_cons_succ]
  refine wpAnyH_ready (rs := [15]) (by kernel_rfl) (by simp) ?rdy316
  refine AllReadyH.cons (List.getElem?_toArray.trans rfl) (fun K hK => ?stp316) AllReadyH.nil
  go_simp
  go_wp2_with fail
  (refine (LA.out _).mono ?_; rintro e w5 ⟨rfl, hb5⟩)
  go_wp2_with fail
  refine hK.out _ _ ?hSn316 (fun hHeld2 => ?rest316)
  case hSn316 => (first | with_reducible exact K0.drew | with_reducible exact hHeld.below hb4 | with_reducible exact hHeld.below hb5)
  clear hK K hHeld
  have hHeld := hHeld2
  clear hHeld2
  try simp only [Act.put, List.setIfInBounds_toArray, List.set_cons_zero, List.set_cons_succ]
  refine wpAnyH_take (i := 16) (oi := _) (v := ?v317) (List.getElem?_toArray.trans rfl) (by kernel_rfl) (by kernel_rfl) (by kernel_rfl) (fun _ _ _ h => h) (Or.inl ⟨by rfl, ?hy317⟩) (by assumption) ?rest317
  case hy317 => (intro wq hSw; (try simp only [Two, Kn, Facts, CellsAt] at hSw); go_simp; try with_reducible rfl)
  try simp only [Act.put, List.setIfInBounds_toArray, List.set_cons_zero, List.set_cons_succ]
  refine wpAnyH_take (i := 17) (oi := _) (v := ?v318) (List.getElem?_toArray.trans rfl) (by kernel_rfl) (by kernel_rfl) (by kernel_rfl) (fun _ _ _ h => h) (Or.inl ⟨by rfl, ?hy318⟩) (by assumption) ?rest318
  case hy318 => (intro wq hSw; (try simp only [Two, Kn, Facts, CellsAt] at hSw); go_simp; try with_reducible rfl)
  try simp only [Act.put, List.setIfInBounds_toArray, List.set_cons_zero, List.set_cons_succ]
  refine wpAnyH_done (by kernel_rfl) ?fin300 _
  have B := hHeld.bel
  have hs := B.size
  clear hHeld K0 hb4 hb5 HO LA
  go_wp2
  go_ret
  refine ⟨_, rfl, Blk.new _ _ _, ?_, by repeat (first | with_reducible exact Below.refl _ _ | with_reducible refine Below.drew ?_ | with_reducible refine Below.alloc ?_ (by first | omega | (simp <;> omega)) _ | with_reducible refine Below.setCell ?_ (by first | omega | (simp <;> omega)) _ | with_reducible refine Below.trans ?_ (Below.mono B (by first | omega | (simp <;> omega))))⟩
  simpa using hs

/-- What kept tells, as numbers. -/
def kpL (lk : Bool) (N : Nat) : List Nat := if lk then [0, N - 1] else [0]

theorem kept_c {v : Bool} {h l b : Int} {x a g n : Nat} {f : Nat → Bool} (hp : IsNum h l n) (h0 : 0 < szP v n b) (w : World) (P : PoAt w v h l b x a g (szP v n b) f) :
    Calls Tryz.prog 107 #[.pointer (some ⟨x, 0, none⟩)] w fun e w' => ∃ k, e = .returned (.slice (some ⟨k, 0, none⟩) (kpL (lkP v b) (szP v n b)).length (kpL (lkP v b) (szP v n b)).length) ∧ Blk w' k (((kpL (lkP v b) (szP v n b)).map fun i : Nat => Value.int .i64 (i : Int))).toArray 3 ∧ w.heap.size ≤ k ∧ Below w.heap.size w w' := by
  have ok := szP_ok h0
  cases v
  · have lt := host_lt hp.lt ok (show szP false n b - 1 < szP false n b by omega)
    obtain ⟨rh, rl, hr⟩ := IsNum.ex (n := n + (szP false n b - 1)) lt.1
    obtain ⟨lh, ll, hl⟩ := IsNum.ex (n := lastN false n b) (lastN_small ok hp.lt).1
    have HO : Hid (∀ w', Blk w' x #[.bool false, .int .u64 h, .int .u64 l, .int .i64 b, .pointer (some ⟨a, 0, none⟩)] 90 → Calls Tryz.prog 72 #[.pointer (some ⟨x, 0, none⟩), .int .i64 ((szP false n b : Int) - 1)] w' fun e w1 => e = .returned (av false rh rl) ∧ Below w'.heap.size w' w1) := fun w' hx => host_i hp ok (by omega) (show szP false n b - 1 < szP false n b by omega) hr w' hx
    cases hk : lkP false b
    · refine kept_no h0 (fun c => ?_) w P HO (fun w' => last_ok hp ok hl w')
      have := (hr.inj hl).2 c
      rw [(last_host ok h0).1 this] at hk
      cases hk
    · have e := (last_host ok h0).2 hk
      have := kept_two (rh := rh) (rl := rl) (lh := lh) (ll := ll) h0 w P HO (fun w' => last_ok hp ok (hr.cast e) w')
      refine this.mono ?_
      rintro e w' ⟨k, rfl, h1, h2⟩
      refine ⟨k, rfl, ?_, h2⟩
      have ee : ((szP false n b - 1 : Nat) : Int) = (szP false n b : Int) - 1 := by omega
      simp only [kpL, if_true, List.map_cons, List.map_nil, ee]
      exact h1
  · have e : lkP true b = false := rfl
    rw [e]
    exact kept_v6 h0 w P

set_option maxHeartbeats 800000 in
theorem index_c (xs : List Nat) (hlen : xs.length ≤ 2) (k i : Nat) (hi : i ≤ 65536) (w : World) (hk : Blk w k (xs.map fun j : Nat => Value.int .i64 (j : Int)).toArray 3) :
    Calls Tryz.prog 145 #[.slice (some ⟨k, 0, none⟩) xs.length xs.length, .int .i64 i] w fun e w' => ∃ r : Int, e = .returned (.int .i64 r) ∧ (0 ≤ r ↔ i ∈ xs) ∧ w' = w := by
  obtain ⟨L, hL⟩ : ∃ L, xs.length = L := ⟨_, rfl⟩
  have XH := hide hL
  have KH := hide hk
  rw [hL]
  rw [hL] at hlen
  clear hk hL
  go_enter Tryz.func145, Tryz.ntmps145
  go_wp2_with fail
  go_loopw [8] (fun t wr => ∃ j : Nat, j ≤ L ∧ t = .int .i64 j ∧ Hid (∀ q, q < j → xs[q]? ≠ some i) ∧ wr = w) (fun t _ => L - (intOf t).toNat)
  case atStart => exact ⟨0, by omega, rfl, fun q hq => absurd hq (by omega), rfl⟩
  case round =>
    obtain ⟨j, hj, rfl, hq, rfl⟩ := hrel
    by_cases hlt : j < L
    · have hlt' : (j : Int) < L := by omega
      obtain ⟨y, hy⟩ : ∃ y, xs[j]? = some y := ⟨_, List.getElem?_eq_getElem (by rw [XH.out]; exact hlt)⟩
      have c := KH.out.cell j
      simp only [List.getElem?_toArray, List.getElem?_map, hy, Option.map_some] at c
      by_cases e : y = i
      · subst e
        have hin : y ∈ xs := List.mem_of_getElem? hy
        clear hq hy
        go_wp2
        go_ret
        exact ⟨_, rfl, ⟨fun _ => hin, fun _ => by omega⟩, rfl⟩
      · have e' : ¬ (i : Int) = (y : Int) := by omega
        have hq' : Hid (∀ q, q < j + 1 → xs[q]? ≠ some i) := fun q hq1 => by
          by_cases e2 : q = j
          · subst e2; rw [hy]; simpa using e
          · exact hq.out q (by omega)
        clear hq hy e
        go_wp2
        go_roundw
        case rel => exact ⟨j + 1, by omega, by go_num, hq', by first | rfl | trivial⟩
        case measure => simp [intOf]; omega
    · have hlt' : ¬ (j : Int) < L := by omega
      have nin : ¬ i ∈ xs := fun hm => by
        obtain ⟨q, hq1⟩ := List.mem_iff_getElem?.1 hm
        have : q < xs.length := by
          apply Classical.byContradiction
          intro c
          rw [List.getElem?_eq_none (by omega)] at hq1
          cases hq1
        rw [XH.out] at this
        exact hq.out q (by omega) hq1
      have NIN := hide nin
      clear hq nin
      go_wp2
      go_ret
      exact ⟨-1, rfl, Iff.intro (fun h => absurd h (by decide)) (fun h => absurd h NIN.out), rfl⟩

set_option maxHeartbeats 800000 in
theorem contains_c (xs : List Nat) (hlen : xs.length ≤ 2) (k i : Nat) (hi : i ≤ 65536) {t : Bool} (ht : decide (i ∈ xs) = t) (w : World) (hk : Blk w k (xs.map fun j : Nat => Value.int .i64 (j : Int)).toArray 3) :
    Calls Tryz.prog 114 #[.slice (some ⟨k, 0, none⟩) xs.length xs.length, .int .i64 i] w fun e w' => e = .returned (.bool t) ∧ w' = w := by
  have IX := hide (index_c xs hlen k i hi w hk)
  clear hk hi hlen
  go_enter Tryz.func114, Tryz.ntmps114
  go_wp2_with fail
  refine IX.out.mono ?_
  rintro e w1 ⟨r, rfl, hr, rfl⟩
  clear IX
  cases t
  · have hr0 : ¬ 0 ≤ r := fun h => absurd (hr.1 h) (of_decide_eq_false ht)
    clear hr ht
    go_wp2
    go_ret
    exact ⟨by first | rfl | (simp; done) | (simp; omega) | simpa using hr0, rfl⟩
  · have hr0 : 0 ≤ r := hr.2 (of_decide_eq_true ht)
    clear hr ht
    go_wp2
    go_ret
    exact ⟨by first | rfl | (simp; done) | (simp; omega) | simpa using hr0, rfl⟩
end Go.Proofs.YtighdocmncbdnaaGreatDoor
