/-
  Texts Po2, Po3, Po5 of the proof.
-/
import Derived.Test.YtighdocmncbdnaaGreatDoorQOn43

namespace Go.Proofs.YtighdocmncbdnaaGreatDoor
open Go.ChangeShapes Go.WideShapes Go.ChangeAt Go.RowKit
set_option linter.unusedVariables false
set_option linter.unusedSimpArgs false

theorem Blk.five {W : World} {b : Nat} {x y z u s : Value} {t : TypeId} (h : Blk W b #[x, y, z, u, s] t) : W.cell? ⟨b, 0, none⟩ = some x ∧ W.cell? ⟨b, 1, none⟩ = some y ∧ W.cell? ⟨b, 2, none⟩ = some z ∧ W.cell? ⟨b, 3, none⟩ = some u ∧ W.cell? ⟨b, 4, none⟩ = some s ∧ b < W.heap.size :=
  ⟨h.cell 0, h.cell 1, h.cell 2, h.cell 3, h.cell 4, h.lt⟩

/-- A pool. -/
structure PoAt (W : World) (v : Bool) (h l b : Int) (x a g N : Nat) (f : Nat → Bool) : Prop where
  hd : Blk W x #[.bool v, .int .u64 h, .int .u64 l, .int .i64 b, .pointer (some ⟨a, 0, none⟩)] 90
  m : MapB W a g N f

theorem PoAt.below {W W' : World} {v : Bool} {h l b : Int} {x a g N : Nat} {f : Nat → Bool} (P : PoAt W v h l b x a g N f) (k : Below W.heap.size W W') : PoAt W' v h l b x a g N f := ⟨P.hd.below k, P.m.below k⟩

theorem PoAt.ne {W : World} {v : Bool} {h l b : Int} {x a g N : Nat} {f : Nat → Bool} (P : PoAt W v h l b x a g N f) : a ≠ x ∧ g ≠ x := P.m.neOf P.hd (by decide) (by decide)

theorem PoAt.turn {W W' : World} {v : Bool} {h l b : Int} {x a g N : Nat} {f f' : Nat → Bool} (P : PoAt W v h l b x a g N f) (m' : MapB W' a g N f') (k : But [g] W.heap.size W W') : PoAt W' v h l b x a g N f' :=
  ⟨k.blk P.hd P.hd.lt (by simpa using P.ne.2.symm), m'⟩

theorem PoAt.head {W : World} {v : Bool} {h l b : Int} {x a g N : Nat} {f : Nat → Bool} (P : PoAt W v h l b x a g N f) : W.cell? ⟨a, 0, none⟩ = some (.int .i64 N) := by
  obtain ⟨⟨ws, hm, _⟩, _⟩ := P.m
  exact hm.head.cell 0

set_option maxHeartbeats 800000 in
theorem psize_c {v : Bool} {h l b : Int} {x a g N : Nat} {f : Nat → Bool} (w : World) (P : PoAt w v h l b x a g N f) :
    Calls Tryz.prog 19 #[.pointer (some ⟨x, 0, none⟩)] w fun e w' => e = .returned (.int .i64 N) ∧ w' = w := by
  obtain ⟨x0, x1, x2, x3, x4, xl⟩ := P.hd.five
  have SZ := hide (size_c a N w P.head)
  clear P
  go_enter Tryz.func19, Tryz.ntmps19
  go_wp2_with fail
  refine SZ.out.mono ?_
  rintro e w1 ⟨rfl, rfl⟩
  clear SZ
  go_wp2
  go_ret
  exact ⟨rfl, rfl⟩

theorem host_i {v : Bool} {h l b rh rl i : Int} {a x n k : Nat} (hp : IsNum h l n) (ok : okP v n b = true) (hik : i = (k : Int)) (hi : k < szP v n b) (hr : IsNum rh rl (n + k)) (w : World)
    (hx : Blk w x #[.bool v, .int .u64 h, .int .u64 l, .int .i64 b, .pointer (some ⟨a, 0, none⟩)] 90) :
    Calls Tryz.prog 72 #[.pointer (some ⟨x, 0, none⟩), .int .i64 i] w fun e w' => e = .returned (av v rh rl) ∧ Below w.heap.size w w' := by
  subst hik
  exact host_c hp ok hi hr w hx

set_option maxRecDepth 100000 in
set_option maxHeartbeats 1600000 in
theorem kept_v6 {h l b : Int} {x a g N : Nat} {f : Nat → Bool} (hN : 0 < N) (w : World) (P : PoAt w true h l b x a g N f) :
    Calls Tryz.prog 107 #[.pointer (some ⟨x, 0, none⟩)] w fun e w' => ∃ k, e = .returned (.slice (some ⟨k, 0, none⟩) 1 1) ∧ Blk w' k #[.int .i64 0] 3 ∧ w.heap.size ≤ k ∧ Below w.heap.size w w' := by
  obtain ⟨x0, x1, x2, x3, x4, xl⟩ := P.hd.five
  have SZ := hide (psize_c w P)
  have hN6 := P.m.lt.2.2.2
  have K0 : Kn w [(x, [.bool true, .int .u64 h, .int .u64 l, .int .i64 b, .pointer (some ⟨a, 0, none⟩)], 90)] w := (Kn.nil w).cons P.hd
  clear P
  go_enter Tryz.func107, Tryz.ntmps107
  go_wp2_with fail
  refine SZ.out.mono ?_
  rintro e w ⟨rfl, rfl⟩
  clear SZ
  go_wp2_with fail
  refine wp_region_held_drew (S := (Kn w [(x, [.bool true, .int .u64 h, .int .u64 l, .int .i64 b, .pointer (some ⟨a, 0, none⟩)], 90)])) (by kernel_rfl) ?hS100 (fun hHeld => ?rest100)
  case hS100 => (first | with_reducible exact K0.drew)
  refine wpAnyH_take (i := 0) (oi := _) (v := ?v101) (List.getElem?_toArray.trans rfl) (by kernel_rfl) (by kernel_rfl) (by kernel_rfl) (fun _ _ _ h => h) (Or.inl ⟨by rfl, ?hy101⟩) (by assumption) ?rest101
  case hy101 => (intro wq hSw; (try simp only [Two, Kn, Facts, CellsAt] at hSw); go_simp; try with_reducible rfl)
  try simp only [Act.put, List.setIfInBounds_toArray, List.set_cons_zero, List.set_cons_succ]
  refine wpAnyH_take (i := 1) (oi := _) (v := ?v102) (List.getElem?_toArray.trans rfl) (by kernel_rfl) (by kernel_rfl) (by kernel_rfl) (fun _ _ _ h => h) (Or.inl ⟨by rfl, ?hy102⟩) (by assumption) ?rest102
  case hy102 => (intro wq hSw; (try simp only [Two, Kn, Facts, CellsAt] at hSw); go_simp; try with_reducible rfl)
  try simp only [Act.put, List.setIfInBounds_toArray, List.set_cons_zero, List.set_cons_succ]
  refine wpAnyH_take (i := 2) (oi := _) (v := ?v103) (List.getElem?_toArray.trans rfl) (by kernel_rfl) (by kernel_rfl) (by kernel_rfl) (fun _ _ _ h => h) (Or.inl ⟨by rfl, ?hy103⟩) (by assumption) ?rest103
  case hy103 => (intro wq hSw; (try simp only [Two, Kn, Facts, CellsAt] at hSw); go_simp; try with_reducible rfl)
  try simp only [Act.put, List.setIfInBounds_toArray, List.set_cons_zero, List.set_cons_succ]
  refine wpAnyH_take (i := 3) (oi := _) (v := ?v104) (List.getElem?_toArray.trans rfl) (by kernel_rfl) (by kernel_rfl) (by kernel_rfl) (fun _ _ _ h => h) (Or.inl ⟨by rfl, ?hy104⟩) (by assumption) ?rest104
  case hy104 => (intro wq hSw; (try simp only [Two, Kn, Facts, CellsAt] at hSw); go_simp; try with_reducible rfl)
  try simp only [Act.put, List.setIfInBounds_toArray, List.set_cons_zero, List.set_cons_succ]
  refine wpAnyH_take (i := 4) (oi := _) (v := ?v105) (List.getElem?_toArray.trans rfl) (by kernel_rfl) (by kernel_rfl) (by kernel_rfl) (fun _ _ _ h => h) (Or.inl ⟨by rfl, ?hy105⟩) (by assumption) ?rest105
  case hy105 => (intro wq hSw; (try simp only [Two, Kn, Facts, CellsAt] at hSw); go_simp; try with_reducible rfl)
  try simp only [Act.put, List.setIfInBounds_toArray, List.set_cons_zero, List.set_cons_succ]
  refine wpAnyH_take (i := 5) (oi := _) (v := ?v106) (List.getElem?_toArray.trans rfl) (by kernel_rfl) (by kernel_rfl) (by kernel_rfl) (fun _ _ _ h => h) (Or.inl ⟨by rfl, ?hy106⟩) (by assumption) ?rest106
  case hy106 => (intro wq hSw; (try simp only [Two, Kn, Facts, CellsAt] at hSw); go_simp; try with_reducible rfl)
  try simp only [Act.put, List.setIfInBounds_toArray, List.set_cons_zero, List.set_cons_succ]
  refine wpAnyH_take (i := 6) (oi := _) (v := ?v107) (List.getElem?_toArray.trans rfl) (by kernel_rfl) (by kernel_rfl) (by kernel_rfl) (fun _ _ _ h => h) (Or.inl ⟨by rfl, ?hy107⟩) (by assumption) ?rest107
  case hy107 => (intro wq hSw; (try simp only [Two, Kn, Facts, CellsAt] at hSw); go_simp; try with_reducible rfl)
  try simp only [Act.put, List.setIfInBounds_toArray, List.set_cons_zero, List.set_cons_succ]
  refine wpAnyH_take (i := 7) (oi := _) (v := ?v108) (List.getElem?_toArray.trans rfl) (by kernel_rfl) (by kernel_rfl) (by kernel_rfl) (fun _ _ _ h => h) (Or.inl ⟨by rfl, ?hy108⟩) (by assumption) ?rest108
  case hy108 => (intro wq hSw; (try simp only [Two, Kn, Facts, CellsAt] at hSw); go_simp; try with_reducible rfl)
  try simp only [Act.put, List.setIfInBounds_toArray, List.set_cons_zero, List.set_cons_succ]
  refine wpAnyH_take (i := 8) (oi := _) (v := undef) (List.getElem?_toArray.trans rfl) (by kernel_rfl) (by kernel_rfl) (by kernel_rfl) (fun _ _ _ h => h) (Or.inr ⟨by rfl, rfl⟩) (by assumption) ?rest109
  try simp only [Act.put, List.setIfInBounds_toArray, List.set_cons_zero, List.set_cons_succ]
  refine wpAnyH_take (i := 9) (oi := _) (v := undef) (List.getElem?_toArray.trans rfl) (by kernel_rfl) (by kernel_rfl) (by kernel_rfl) (fun _ _ _ h => h) (Or.inr ⟨by rfl, rfl⟩) (by assumption) ?rest110
  try simp only [Act.put, List.setIfInBounds_toArray, List.set_cons_zero, List.set_cons_succ]
  refine wpAnyH_take (i := 10) (oi := _) (v := undef) (List.getElem?_toArray.trans rfl) (by kernel_rfl) (by kernel_rfl) (by kernel_rfl) (fun _ _ _ h => h) (Or.inr ⟨by rfl, rfl⟩) (by assumption) ?rest111
  try simp only [Act.put, List.setIfInBounds_toArray, List.set_cons_zero, List.set_cons_succ]
  refine wpAnyH_take (i := 11) (oi := _) (v := undef) (List.getElem?_toArray.trans rfl) (by kernel_rfl) (by kernel_rfl) (by kernel_rfl) (fun _ _ _ h => h) (Or.inr ⟨by rfl, rfl⟩) (by assumption) ?rest112
  try simp only [Act.put, List.setIfInBounds_toArray, List.set_cons_zero, List.set_cons_succ]
  refine wpAnyH_take (i := 12) (oi := _) (v := undef) (List.getElem?_toArray.trans rfl) (by kernel_rfl) (by kernel_rfl) (by kernel_rfl) (fun _ _ _ h => h) (Or.inr ⟨by rfl, rfl⟩) (by assumption) ?rest113
  try simp only [Act.put, List.setIfInBounds_toArray, List.set_cons_zero, List.set_cons_succ]
  refine wpAnyH_take (i := 13) (oi := _) (v := undef) (List.getElem?_toArray.trans rfl) (by kernel_rfl) (by kernel_rfl) (by kernel_rfl) (fun _ _ _ h => h) (Or.inr ⟨by rfl, rfl⟩) (by assumption) ?rest114
  try simp only [Act.put, List.setIfInBounds_toArray, List.set_cons_zero, List.set_cons_succ]
  refine wpAnyH_take (i := 14) (oi := _) (v := undef) (List.getElem?_toArray.trans rfl) (by kernel_rfl) (by kernel_rfl) (by kernel_rfl) (fun _ _ _ h => h) (Or.inr ⟨by rfl, rfl⟩) (by assumption) ?rest115
  try simp only [Act.put, List.setIfInBounds_toArray, List.set_cons_zero, List.set_cons_succ]
  refine wpAnyH_take (i := 15) (oi := _) (v := undef) (List.getElem?_toArray.trans rfl) (by kernel_rfl) (by kernel_rfl) (by kernel_rfl) (fun _ _ _ h => h) (Or.inr ⟨by rfl, rfl⟩) (by assumption) ?rest116
  try simp only [Act.put, List.setIfInBounds_toArray, List.set_cons_zero, List.set_cons_succ]
  refine wpAnyH_take (i := 16) (oi := _) (v := undef) (List.getElem?_toArray.trans rfl) (by kernel_rfl) (by kernel_rfl) (by kernel_rfl) (fun _ _ _ h => h) (Or.inr ⟨by rfl, rfl⟩) (by assumption) ?rest117
  try simp only [Act.put, List.setIfInBounds_toArray, List.set_cons_zero, List.set_cons_succ]
  refine wpAnyH_take (i := 17) (oi := _) (v := ?v118) (List.getElem?_toArray.trans rfl) (by kernel_rfl) (by kernel_rfl) (by kernel_rfl) (fun _ _ _ h => h) (Or.inl ⟨by rfl, ?hy118⟩) (by assumption) ?rest118
  case hy118 => (intro wq hSw; (try simp only [Two, Kn, Facts, CellsAt] at hSw); go_simp; try with_reducible rfl)
  try simp only [Act.put, List.setIfInBounds_toArray, List.set_cons_zero, List.set_cons_succ]
  refine wpAnyH_done (by kernel_rfl) ?fin100 _
  have B := hHeld.bel
  clear hHeld K0
  go_wp2
  go_ret
  refine ⟨_, rfl, Blk.new _ _ _, B.size, by repeat (first | with_reducible exact Below.refl _ _ | with_reducible refine Below.drew ?_ | with_reducible refine Below.alloc ?_ (by first | omega | (simp <;> omega)) _ | with_reducible refine Below.setCell ?_ (by first | omega | (simp <;> omega)) _ | with_reducible refine Below.trans ?_ (Below.mono B (by first | omega | (simp <;> omega))))⟩

set_option maxRecDepth 100000 in
set_option maxHeartbeats 1600000 in
theorem kept_no {h l b rh rl lh ll : Int} {x a g N : Nat} {f : Nat → Bool} (hN : 0 < N) (hne : ¬ (rh = lh ∧ rl = ll)) (w : World) (P : PoAt w false h l b x a g N f)
    (HO : Hid (∀ w', Blk w' x #[.bool false, .int .u64 h, .int .u64 l, .int .i64 b, .pointer (some ⟨a, 0, none⟩)] 90 → Calls Tryz.prog 72 #[.pointer (some ⟨x, 0, none⟩), .int .i64 ((N : Int) - 1)] w' fun e w1 => e = .returned (av false rh rl) ∧ Below w'.heap.size w' w1))
    (LA : Hid (∀ w', Calls Tryz.prog 35 #[pv false h l b] w' fun e w1 => e = .returned (av false lh ll) ∧ Below w'.heap.size w' w1)) :
    Calls Tryz.prog 107 #[.pointer (some ⟨x, 0, none⟩)] w fun e w' => ∃ k, e = .returned (.slice (some ⟨k, 0, none⟩) 1 1) ∧ Blk w' k #[.int .i64 0] 3 ∧ w.heap.size ≤ k ∧ Below w.heap.size w w' := by
  obtain ⟨x0, x1, x2, x3, x4, xl⟩ := P.hd.five
  have SZ := hide (psize_c w P)
  have hN6 := P.m.lt.2.2.2
  have K0 : Kn w [(x, [.bool false, .int .u64 h, .int .u64 l, .int .i64 b, .pointer (some ⟨a, 0, none⟩)], 90)] w := (Kn.nil w).cons P.hd
  clear P
  go_enter Tryz.func107, Tryz.ntmps107
  go_wp2_with fail
  refine SZ.out.mono ?_
  rintro e w ⟨rfl, rfl⟩
  clear SZ
  go_wp2_with fail
  refine wp_region_held_drew (S := (Kn w [(x, [.bool false, .int .u64 h, .int .u64 l, .int .i64 b, .pointer (some ⟨a, 0, none⟩)], 90)])) (by kernel_rfl) ?hS200 (fun hHeld => ?rest200)
  case hS200 => (first | with_reducible exact K0.drew | with_reducible exact hHeld.below hb4 | with_reducible exact hHeld.below hb5)
  refine wpAnyH_take (i := 0) (oi := _) (v := ?v201) (List.getElem?_toArray.trans rfl) (by kernel_rfl) (by kernel_rfl) (by kernel_rfl) (fun _ _ _ h => h) (Or.inl ⟨by rfl, ?hy201⟩) (by assumption) ?rest201
  case hy201 => (intro wq hSw; (try simp only [Two, Kn, Facts, CellsAt] at hSw); go_simp; try with_reducible rfl)
  try simp only [Act.put, List.setIfInBounds_toArray, List.set_cons_zero, List.set_cons_succ]
  refine wpAnyH_take (i := 1) (oi := _) (v := ?v202) (List.getElem?_toArray.trans rfl) (by kernel_rfl) (by kernel_rfl) (by kernel_rfl) (fun _ _ _ h => h) (Or.inl ⟨by rfl, ?hy202⟩) (by assumption) ?rest202
  case hy202 => (intro wq hSw; (try simp only [Two, Kn, Facts, CellsAt] at hSw); go_simp; try with_reducible rfl)
  try simp only [Act.put, List.setIfInBounds_toArray, List.set_cons_zero, List.set_cons_succ]
  refine wpAnyH_take (i := 2) (oi := _) (v := ?v203) (List.getElem?_toArray.trans rfl) (by kernel_rfl) (by kernel_rfl) (by kernel_rfl) (fun _ _ _ h => h) (Or.inl ⟨by rfl, ?hy203⟩) (by assumption) ?rest203
  case hy203 => (intro wq hSw; (try simp only [Two, Kn, Facts, CellsAt] at hSw); go_simp; try with_reducible rfl)
  try simp only [Act.put, List.setIfInBounds_toArray, List.set_cons_zero, List.set_cons_succ]
  refine wpAnyH_take (i := 3) (oi := _) (v := ?v204) (List.getElem?_toArray.trans rfl) (by kernel_rfl) (by kernel_rfl) (by kernel_rfl) (fun _ _ _ h => h) (Or.inl ⟨by rfl, ?hy204⟩) (by assumption) ?rest204
  case hy204 => (intro wq hSw; (try simp only [Two, Kn, Facts, CellsAt] at hSw); go_simp; try with_reducible rfl)
  try simp only [Act.put, List.setIfInBounds_toArray, List.set_cons_zero, List.set_cons_succ]
  refine wpAnyH_take (i := 4) (oi := _) (v := ?v205) (List.getElem?_toArray.trans rfl) (by kernel_rfl) (by kernel_rfl) (by kernel_rfl) (fun _ _ _ h => h) (Or.inl ⟨by rfl, ?hy205⟩) (by assumption) ?rest205
  case hy205 => (intro wq hSw; (try simp only [Two, Kn, Facts, CellsAt] at hSw); go_simp; try with_reducible rfl)
  try simp only [Act.put, List.setIfInBounds_toArray, List.set_cons_zero, List.set_cons_succ]
  refine wpAnyH_take (i := 5) (oi := _) (v := ?v206) (List.getElem?_toArray.trans rfl) (by kernel_rfl) (by kernel_rfl) (by kernel_rfl) (fun _ _ _ h => h) (Or.inl ⟨by rfl, ?hy206⟩) (by assumption) ?rest206
  case hy206 => (intro wq hSw; (try simp only [Two, Kn, Facts, CellsAt] at hSw); go_simp; try with_reducible rfl)
  try simp only [Act.put, List.setIfInBounds_toArray, List.set_cons_zero, List.set_cons_succ]
  refine wpAnyH_take (i := 6) (oi := _) (v := ?v207) (List.getElem?_toArray.trans rfl) (by kernel_rfl) (by kernel_rfl) (by kernel_rfl) (fun _ _ _ h => h) (Or.inl ⟨by rfl, ?hy207⟩) (by assumption) ?rest207
  case hy207 => (intro wq hSw; (try simp only [Two, Kn, Facts, CellsAt] at hSw); go_simp; try with_reducible rfl)
  try simp only [Act.put, List.setIfInBounds_toArray, List.set_cons_zero, List.set_cons_succ]
  refine wpAnyH_take (i := 7) (oi := _) (v := ?v208) (List.getElem?_toArray.trans rfl) (by kernel_rfl) (by kernel_rfl) (by kernel_rfl) (fun _ _ _ h => h) (Or.inl ⟨by rfl, ?hy208⟩) (by assumption) ?rest208
  case hy208 => (intro wq hSw; (try simp only [Two, Kn, Facts, CellsAt] at hSw); go_simp; try with_reducible rfl)
  try simp only [Act.put, List.setIfInBounds_toArray, List.set_cons_zero, List.set_cons_succ]
  refine wpAnyH_take (i := 8) (oi := _) (v := ?v209) (List.getElem?_toArray.trans rfl) (by kernel_rfl) (by kernel_rfl) (by kernel_rfl) (fun _ _ _ h => h) (Or.inl ⟨by rfl, ?hy209⟩) (by assumption) ?rest209
  case hy209 => (intro wq hSw; (try simp only [Two, Kn, Facts, CellsAt] at hSw); go_simp; try with_reducible rfl)
  try simp only [Act.put, List.setIfInBounds_toArray, List.set_cons_zero, List.set_cons_succ]
  refine wpAnyH_take (i := 9) (oi := _) (v := ?v210) (List.getElem?_toArray.trans rfl) (by kernel_rfl) (by kernel_rfl) (by kernel_rfl) (fun _ _ _ h => h) (Or.inl ⟨by rfl, ?hy210⟩) (by assumption) ?rest210
  case hy210 => (intro wq hSw; (try simp only [Two, Kn, Facts, CellsAt] at hSw); go_simp; try with_reducible rfl)
  try simp only [Act.put, List.setIfInBounds_toArray, List.set_cons_zero, List.set_cons_succ]
  refine wpAnyH_take (i := 11) (oi := _) (v := ?v211) (List.getElem?_toArray.trans rfl) (by kernel_rfl) (by kernel_rfl) (by kernel_rfl) (fun _ _ _ h => h) (Or.inl ⟨by rfl, ?hy211⟩) (by assumption) ?rest211
  case hy211 => (intro wq hSw; (try simp only [Two, Kn, Facts, CellsAt] at hSw); go_simp; try with_reducible rfl)
  try simp only [Act.put, List.setIfInBounds_toArray, List.set_cons_zero, List.set_cons_succ]
  refine wpAnyH_take (i := 12) (oi := _) (v := ?v212) (List.getElem?_toArray.trans rfl) (by kernel_rfl) (by kernel_rfl) (by kernel_rfl) (fun _ _ _ h => h) (Or.inl ⟨by rfl, ?hy212⟩) (by assumption) ?rest212
  case hy212 => (intro wq hSw; (try simp only [Two, Kn, Facts, CellsAt] at hSw); go_simp; try with_reducible rfl)
  try simp only [Act.put, List.setIfInBounds_toArray, List.set_cons_zero, List.set_cons_succ]
  refine wpAnyH_take (i := 13) (oi := _) (v := ?v213) (List.getElem?_toArray.trans rfl) (by kernel_rfl) (by kernel_rfl) (by kernel_rfl) (fun _ _ _ h => h) (Or.inl ⟨by rfl, ?hy213⟩) (by assumption) ?rest213
  case hy213 => (intro wq hSw; (try simp only [Two, Kn, Facts, CellsAt] at hSw); go_simp; try with_reducible rfl)
  try simp only [Act.put, List.setIfInBounds_toArray, List.set_cons_zero, List.set_cons_succ]
  refine wpAnyH_take (i := 14) (oi := _) (v := ?v214) (List.getElem?_toArray.trans rfl) (by kernel_rfl) (by kernel_rfl) (by kernel_rfl) (fun _ _ _ h => h) (Or.inl ⟨by rfl, ?hy214⟩) (by assumption) ?rest214
  case hy214 => (intro wq hSw; (try simp only [Two, Kn, Facts, CellsAt] at hSw); go_simp; try with_reducible rfl)
  try simp only [Act.put, List.setIfInBounds_toArray, List.set_cons_zero, List.set_cons_succ]
  refine wpAnyH_ready (rs := [10]) (by kernel_rfl) (by simp) ?rdy215
  refine AllReadyH.cons (List.getElem?_toArray.trans rfl) (fun K hK => ?stp215) AllReadyH.nil
  go_simp
  go_wp2_with fail
  (refine (HO.out _ hHeld.2.1.1).mono ?_; rintro e w4 ⟨rfl, hb4⟩)
  go_wp2_with fail
  refine hK.out _ _ ?hSn215 (fun hHeld2 => ?rest215)
  case hSn215 => (first | with_reducible exact K0.drew | with_reducible exact hHeld.below hb4 | with_reducible exact hHeld.below hb5)
  clear hK K hHeld
  have hHeld := hHeld2
  clear hHeld2
  try simp only [Act.put, List.setIfInBounds_toArray, List.set_cons_zero, List.set_cons_succ]
  refine wpAnyH_ready (rs := [15]) (by kernel_rfl) (by simp) ?rdy216
  refine AllReadyH.cons (List.getElem?_toArray.trans rfl) (fun K hK => ?stp216) AllReadyH.nil
  go_simp
  go_wp2_with fail
  (refine (LA.out _).mono ?_; rintro e w5 ⟨rfl, hb5⟩)
  go_wp2_with fail
  refine hK.out _ _ ?hSn216 (fun hHeld2 => ?rest216)
  case hSn216 => (first | with_reducible exact K0.drew | with_reducible exact hHeld.below hb4 | with_reducible exact hHeld.below hb5)
  clear hK K hHeld
  have hHeld := hHeld2
  clear hHeld2
  try simp only [Act.put, List.setIfInBounds_toArray, List.set_cons_zero, List.set_cons_succ]
  refine wpAnyH_take (i := 16) (oi := _) (v := (.bool false)) (List.getElem?_toArray.trans rfl) (by kernel_rfl) (by kernel_rfl) (by kernel_rfl) (fun _ _ _ h => h) (Or.inl ⟨by rfl, ?hy217⟩) (by assumption) ?rest217
  case hy217 => (intro wq hSw; (try simp only [Two, Kn, Facts, CellsAt] at hSw); go_simp; (exact fun c d => hne ⟨c, d⟩))
  try simp only [Act.put, List.setIfInBounds_toArray, List.set_cons_zero, List.set_cons_succ]
  refine wpAnyH_take (i := 17) (oi := _) (v := ?v218) (List.getElem?_toArray.trans rfl) (by kernel_rfl) (by kernel_rfl) (by kernel_rfl) (fun _ _ _ h => h) (Or.inl ⟨by rfl, ?hy218⟩) (by assumption) ?rest218
  case hy218 => (intro wq hSw; (try simp only [Two, Kn, Facts, CellsAt] at hSw); go_simp; try with_reducible rfl)
  try simp only [Act.put, List.setIfInBounds_toArray, List.set_cons_zero, List.set_cons_succ]
  refine wpAnyH_done (by kernel_rfl) ?fin200 _
  have B := hHeld.bel
  have hs := B.size
  clear hHeld K0 hb4 hb5 HO LA
  go_wp2
  go_ret
  refine ⟨_, rfl, Blk.new _ _ _, ?_, by repeat (first | with_reducible exact Below.refl _ _ | with_reducible refine Below.drew ?_ | with_reducible refine Below.alloc ?_ (by first | omega | (simp <;> omega)) _ | with_reducible refine Below.setCell ?_ (by first | omega | (simp <;> omega)) _ | with_reducible refine Below.trans ?_ (Below.mono B (by first | omega | (simp <;> omega))))⟩
  simpa using hs

set_option maxRecDepth 100000 in
set_option maxHeartbeats 1600000 in
theorem kept_two {h l b rh rl lh ll : Int} {x a g N : Nat} {f : Nat → Bool} (hN : 0 < N)  (w : World) (P : PoAt w false h l b x a g N f)
    (HO : Hid (∀ w', Blk w' x #[.bool false, .int .u64 h, .int .u64 l, .int .i64 b, .pointer (some ⟨a, 0, none⟩)] 90 → Calls Tryz.prog 72 #[.pointer (some ⟨x, 0, none⟩), .int .i64 ((N : Int) - 1)] w' fun e w1 => e = .returned (av false rh rl) ∧ Below w'.heap.size w' w1))
    (LA : Hid (∀ w', Calls Tryz.prog 35 #[pv false h l b] w' fun e w1 => e = .returned (av false rh rl) ∧ Below w'.heap.size w' w1)) :
    Calls Tryz.prog 107 #[.pointer (some ⟨x, 0, none⟩)] w fun e w' => ∃ k, e = .returned (.slice (some ⟨k, 0, none⟩) 2 2) ∧ Blk w' k #[.int .i64 0, .int .i64 ((N : Int) - 1)] 3 ∧ w.heap.size ≤ k ∧ Below w.heap.size w w' := by
  obtain ⟨x0, x1, x2, x3, x4, xl⟩ := P.hd.five
  have SZ := hide (psize_c w P)
  have hN6 := P.m.lt.2.2.2
  have K0 : Kn w [(x, [.bool false, .int .u64 h, .int .u64 l, .int .i64 b, .pointer (some ⟨a, 0, none⟩)], 90)] w := (Kn.nil w).cons P.hd
  clear P
  go_enter Tryz.func107, Tryz.ntmps107
  go_wp2_with fail
  refine SZ.out.mono ?_
  rintro e w ⟨rfl, rfl⟩
  clear SZ
  go_wp2_with fail
  refine wp_region_held_drew (S := (Kn w [(x, [.bool false, .int .u64 h, .int .u64 l, .int .i64 b, .pointer (some ⟨a, 0, none⟩)], 90)])) (by kernel_rfl) ?hS300 (fun hHeld => ?rest300)
  case hS300 => (first | with_reducible exact K0.drew | with_reducible exact hHeld.below hb4 | with_reducible exact hHeld.below hb5)
  refine wpAnyH_take (i := 0) (oi := _) (v := ?v301) (List.getElem?_toArray.trans rfl) (by kernel_rfl) (by kernel_rfl) (by kernel_rfl) (fun _ _ _ h => h) (Or.inl ⟨by rfl, ?hy301⟩) (by assumption) ?rest301
  case hy301 => (intro wq hSw; (try simp only [Two, Kn, Facts, CellsAt] at hSw); go_simp; try with_reducible rfl)
  try simp only [Act.put, List.setIfInBounds_toArray, List.set_cons_zero, List.set_cons_succ]
  refine wpAnyH_take (i := 1) (oi := _) (v := ?v302) (List.getElem?_toArray.trans rfl) (by kernel_rfl) (by kernel_rfl) (by kernel_rfl) (fun _ _ _ h => h) (Or.inl ⟨by rfl, ?hy302⟩) (by assumption) ?rest302
  case hy302 => (intro wq hSw; (try simp only [Two, Kn, Facts, CellsAt] at hSw); go_simp; try with_reducible rfl)
  try simp only [Act.put, List.setIfInBounds_toArray, List.set_cons_zero, List.set_cons_succ]
  refine wpAnyH_take (i := 2) (oi := _) (v := ?v303) (List.getElem?_toArray.trans rfl) (by kernel_rfl) (by kernel_rfl) (by kernel_rfl) (fun _ _ _ h => h) (Or.inl ⟨by rfl, ?hy303⟩) (by assumption) ?rest303
  case hy303 => (intro wq hSw; (try simp only [Two, Kn, Facts, CellsAt] at hSw); go_simp; try with_reducible rfl)
  try simp only [Act.put, List.setIfInBounds_toArray, List.set_cons_zero, List.set_cons_succ]
  refine wpAnyH_take (i := 3) (oi := _) (v := ?v304) (List.getElem?_toArray.trans rfl) (by kernel_rfl) (by kernel_rfl) (by kernel_rfl) (fun _ _ _ h => h) (Or.inl ⟨by rfl, ?hy304⟩) (by assumption) ?rest304
  case hy304 => (intro wq hSw; (try simp only [Two, Kn, Facts, CellsAt] at hSw); go_simp; try with_reducible rfl)
  try simp only [Act.put, List.setIfInBounds_toArray, List.set_cons_zero, List.set_cons_succ]
  refine wpAnyH_take (i := 4) (oi := _) (v := ?v305) (List.getElem?_toArray.trans rfl) (by kernel_rfl) (by kernel_rfl) (by kernel_rfl) (fun _ _ _ h => h) (Or.inl ⟨by rfl, ?hy305⟩) (by assumption) ?rest305
  case hy305 => (intro wq hSw; (try simp only [Two, Kn, Facts, CellsAt] at hSw); go_simp; try with_reducible rfl)
  try simp only [Act.put, List.setIfInBounds_toArray, List.set_cons_zero, List.set_cons_succ]
  refine wpAnyH_take (i := 5) (oi := _) (v := ?v306) (List.getElem?_toArray.trans rfl) (by kernel_rfl) (by kernel_rfl) (by kernel_rfl) (fun _ _ _ h => h) (Or.inl ⟨by rfl, ?hy306⟩) (by assumption) ?rest306
  case hy306 => (intro wq hSw; (try simp only [Two, Kn, Facts, CellsAt] at hSw); go_simp; try with_reducible rfl)
  try simp only [Act.put, List.setIfInBounds_toArray, List.set_cons_zero, List.set_cons_succ]
  refine wpAnyH_take (i := 6) (oi := _) (v := ?v307) (List.getElem?_toArray.trans rfl) (by kernel_rfl) (by kernel_rfl) (by kernel_rfl) (fun _ _ _ h => h) (Or.inl ⟨by rfl, ?hy307⟩) (by assumption) ?rest307
  case hy307 => (intro wq hSw; (try simp only [Two, Kn, Facts, CellsAt] at hSw); go_simp; try with_reducible rfl)
  try simp only [Act.put, List.setIfInBounds_toArray, List.set_cons_zero, List.set_cons_succ]
  refine wpAnyH_take (i := 7) (oi := _) (v := ?v308) (List.getElem?_toArray.trans rfl) (by kernel_rfl) (by kernel_rfl) (by kernel_rfl) (fun _ _ _ h => h) (Or.inl ⟨by rfl, ?hy308⟩) (by assumption) ?rest308
  case hy308 => (intro wq hSw; (try simp only [Two, Kn, Facts, CellsAt] at hSw); go_simp; try with_reducible rfl)
  try simp only [Act.put, List.setIfInBounds_toArray, List.set_cons_zero, List.set_cons_succ]
  refine wpAnyH_take (i := 8) (oi := _) (v := ?v309) (List.getElem?_toArray.trans rfl) (by kernel_rfl) (by kernel_rfl) (by kernel_rfl) (fun _ _ _ h => h) (Or.inl ⟨by rfl, ?hy309⟩) (by assumption) ?rest309
  case hy309 => (intro wq hSw; (try simp only [Two, Kn, Facts, CellsAt] at hSw); go_simp; try with_reducible rfl)
  try simp only [Act.put, List.setIfInBounds_toArray, List.set_cons_zero, List.set_cons_succ]
  refine wpAnyH_take (i := 9) (oi := _) (v := ?v310) (List.getElem?_toArray.trans rfl) (by kernel_rfl) (by kernel_rfl) (by kernel_rfl) (fun _ _ _ h => h) (Or.inl ⟨by rfl, ?hy310⟩) (by assumption) ?rest310
  case hy310 => (intro wq hSw; (try simp only [Two, Kn, Facts, CellsAt] at hSw); go_simp; try with_reducible rfl)
  try simp only [Act.put, List.setIfInBounds_toArray, List.set_cons_zero, List.set_cons_succ]
  refine wpAnyH_take (i := 11) (oi := _) (v := ?v311) (List.getElem?_toArray.trans rfl) (by kernel_rfl) (by kernel_rfl) (by kernel_rfl) (fun _ _ _ h => h) (Or.inl ⟨by rfl, ?hy311⟩) (by assumption) ?rest311
  case hy311 => (intro wq hSw; (try simp only [Two, Kn, Facts, CellsAt] at hSw); go_simp; try with_reducible rfl)
  try simp only [Act.put, List.setIfInBounds_toArray, List.set_cons_zero, List.set_cons_succ]
  refine wpAnyH_take (i := 12) (oi := _) (v := ?v312) (List.getElem?_toArray.trans rfl) (by kernel_rfl) (by kernel_rfl) (by kernel_rfl) (fun _ _ _ h => h) (Or.inl ⟨by rfl, ?hy312⟩) (by assumption) ?rest312
  case hy312 => (intro wq hSw; (try simp only [Two, Kn, Facts, CellsAt] at hSw); go_simp; try with_reducible rfl)
  try simp only [Act.put, List.setIfInBounds_toArray, List.set_cons_zero, List.set_cons_succ]
  refine wpAnyH_take (i := 13) (oi := _) (v := ?v313) (List.getElem?_toArray.trans rfl) (by kernel_rfl) (by kernel_rfl) (by kernel_rfl) (fun _ _ _ h => h) (Or.inl ⟨by rfl, ?hy313⟩) (by assumption) ?rest313
  case hy313 => (intro wq hSw; (try simp only [Two, Kn, Facts, CellsAt] at hSw); go_simp; try with_reducible rfl)
  try simp only [Act.put, List.setIfInBounds_toArray, List.set_cons_zero, List.set_cons_succ]
  refine wpAnyH_take (i := 14) (oi := _) (v := ?v314) (List.getElem?_toArray.trans rfl) (by kernel_rfl) (by kernel_rfl) (by kernel_rfl) (fun _ _ _ h => h) (Or.inl ⟨by rfl, ?hy314⟩) (by assumption) ?rest314
  case hy314 => (intro wq hSw; (try simp only [Two, Kn, Facts, CellsAt] at hSw); go_simp; try with_reducible rfl)
  try simp only [Act.put, List.setIfInBounds_toArray, List.set_cons_zero, List.set_cons_succ]
  refine wpAnyH_ready (rs := [10]) (by kernel_rfl) (by simp) ?rdy315
  refine AllReadyH.cons (List.getElem?_toArray.trans rfl) (fun K hK => ?stp315) AllReadyH.nil
  go_simp
  go_wp2_with fail
  (refine (HO.out _ hHeld.2.1.1).mono ?_; rintro e w4 ⟨rfl, hb4⟩)
  go_wp2_with fail
  refine hK.out _ _ ?hSn315 (fun hHeld2 => ?rest315)
  case hSn315 => (first | with_reducible exact K0.drew | with_reducible exact hHeld.below hb4 | with_reducible exact hHeld.below hb5)
  clear hK K hHeld
  have hHeld := hHeld2
  clear hHeld2
  try simp only [Act.put, List.setIfInBounds_toArray, List.set_cons_zero, List.set_cons_succ]
  refine wpAnyH_ready (rs := [15]) (by kernel_rfl) (by simp) ?rdy316
  refine AllReadyH.cons (List.getElem?_toArray.trans rfl) (fun K hK => ?stp316) AllReadyH.nil
  go_simp
  go_wp2_with fail
  (refine (LA.out _).mono ?_; rintro e w5 ⟨rfl, hb5⟩)
  go_wp2_with fail
  refine hK.out _ _ ?hSn316 (fun hHeld2 => ?rest316)
  case hSn316 => (first | with_reducible exact K0.drew | with_reducible exact hHeld.below hb4 | with_reducible exact hHeld.below hb5)
  clear hK K hHeld
  have hHeld := hHeld2
  clear hHeld2
  try simp only [Act.put, List.setIfInBounds_toArray, List.set_cons_zero, List.set_cons_succ]
  refine wpAnyH_take (i := 16) (oi := _) (v := ?v317) (List.getElem?_toArray.trans rfl) (by kernel_rfl) (by kernel_rfl) (by kernel_rfl) (fun _ _ _ h => h) (Or.inl ⟨by rfl, ?hy317⟩) (by assumption) ?rest317
  case hy317 => (intro wq hSw; (try simp only [Two, Kn, Facts, CellsAt] at hSw); go_simp; try with_reducible rfl)
  try simp only [Act.put, List.setIfInBounds_toArray, List.set_cons_zero, List.set_cons_succ]
  refine wpAnyH_take (i := 17) (oi := _) (v := ?v318) (List.getElem?_toArray.trans rfl) (by kernel_rfl) (by kernel_rfl) (by kernel_rfl) (fun _ _ _ h => h) (Or.inl ⟨by rfl, ?hy318⟩) (by assumption) ?rest318
  case hy318 => (intro wq hSw; (try simp only [Two, Kn, Facts, CellsAt] at hSw); go_simp; try with_reducible rfl)
  try simp only [Act.put, List.setIfInBounds_toArray, List.set_cons_zero, List.set_cons_succ]
  refine wpAnyH_done (by kernel_rfl) ?fin300 _
  have B := hHeld.bel
  have hs := B.size
  clear hHeld K0 hb4 hb5 HO LA
  go_wp2
  go_ret
  refine ⟨_, rfl, Blk.new _ _ _, ?_, by repeat (first | with_reducible exact Below.refl _ _ | with_reducible refine Below.drew ?_ | with_reducible refine Below.alloc ?_ (by first | omega | (simp <;> omega)) _ | with_reducible refine Below.setCell ?_ (by first | omega | (simp <;> omega)) _ | with_reducible refine Below.trans ?_ (Below.mono B (by first | omega | (simp <;> omega))))⟩
  simpa using hs

/-- What kept tells, as numbers. -/
def kpL (lk : Bool) (N : Nat) : List Nat := if lk then [0, N - 1] else [0]

theorem kept_c {v : Bool} {h l b : Int} {x a g n : Nat} {f : Nat → Bool} (hp : IsNum h l n) (h0 : 0 < szP v n b) (w : World) (P : PoAt w v h l b x a g (szP v n b) f) :
    Calls Tryz.prog 107 #[.pointer (some ⟨x, 0, none⟩)] w fun e w' => ∃ k, e = .returned (.slice (some ⟨k, 0, none⟩) (kpL (lkP v b) (szP v n b)).length (kpL (lkP v b) (szP v n b)).length) ∧ Blk w' k (((kpL (lkP v b) (szP v n b)).map fun i : Nat => Value.int .i64 (i : Int))).toArray 3 ∧ w.heap.size ≤ k ∧ Below w.heap.size w w' := by
  have ok := szP_ok h0
  cases v
  · have lt := host_lt hp.lt ok (show szP false n b - 1 < szP false n b by omega)
    obtain ⟨rh, rl, hr⟩ := IsNum.ex (n := n + (szP false n b - 1)) lt.1
    obtain ⟨lh, ll, hl⟩ := IsNum.ex (n := lastN false n b) (lastN_small ok hp.lt).1
    have HO : Hid (∀ w', Blk w' x #[.bool false, .int .u64 h, .int .u64 l, .int .i64 b, .pointer (some ⟨a, 0, none⟩)] 90 → Calls Tryz.prog 72 #[.pointer (some ⟨x, 0, none⟩), .int .i64 ((szP false n b : Int) - 1)] w' fun e w1 => e = .returned (av false rh rl) ∧ Below w'.heap.size w' w1) := fun w' hx => host_i hp ok (by omega) (show szP false n b - 1 < szP false n b by omega) hr w' hx
    cases hk : lkP false b
    · refine kept_no h0 (fun c => ?_) w P HO (fun w' => last_ok hp ok hl w')
      have := (hr.inj hl).2 c
      rw [(last_host ok h0).1 this] at hk
      cases hk
    · have e := (last_host ok h0).2 hk
      have := kept_two (rh := rh) (rl := rl) (lh := lh) (ll := ll) h0 w P HO (fun w' => last_ok hp ok (hr.cast e) w')
      refine this.mono ?_
      rintro e w' ⟨k, rfl, h1, h2⟩
      refine ⟨k, rfl, ?_, h2⟩
      have ee : ((szP false n b - 1 : Nat) : Int) = (szP false n b : Int) - 1 := by omega
      simp only [kpL, if_true, List.map_cons, List.map_nil, ee]
      exact h1
  · have e : lkP true b = false := rfl
    rw [e]
    exact kept_v6 h0 w P

end Go.Proofs.YtighdocmncbdnaaGreatDoor

namespace Go.Proofs.YtighdocmncbdnaaGreatDoor
open Go.ChangeShapes Go.WideShapes Go.ChangeAt Go.RowKit
set_option linter.unusedVariables false
set_option linter.unusedSimpArgs false

theorem kp_mem {lk : Bool} {N i : Nat} (h0 : 0 < N) : decide (i ∈ kpL lk N) = kpF lk N i := by
  unfold kpL kpF
  cases lk <;> simp

theorem kpL_len (lk : Bool) (N : Nat) : (kpL lk N).length ≤ 2 := by
  unfold kpL
  cases lk <;> simp

end Go.Proofs.YtighdocmncbdnaaGreatDoor

namespace Go.Proofs.YtighdocmncbdnaaGreatDoor
open Go.ChangeShapes Go.WideShapes Go.ChangeAt Go.RowKit
set_option linter.unusedVariables false
set_option linter.unusedSimpArgs false

/-- What is used, with the first k of those that are kept. -/
def uK (u : Nat → Bool) (lk : Bool) (N k : Nat) : Nat → Bool := fun p => u p || decide (p ∈ (kpL lk N).take k)

theorem uK_zero {u : Nat → Bool} {lk : Bool} {N : Nat} : uK u lk N 0 = u := by
  funext p
  simp [uK]

theorem uK_full {u : Nat → Bool} {lk : Bool} {N k : Nat} (h0 : 0 < N) (hk : (kpL lk N).length ≤ k) : uK u lk N k = fun p => u p || kpF lk N p := by
  funext p
  rw [← kp_mem h0]
  unfold uK
  rw [List.take_of_length_le hk]

theorem uK_get {u : Nat → Bool} {lk : Bool} {N k i : Nat} (h4 : 4 ≤ N) (hi : (kpL lk N)[k]? = some i) : uK u lk N k i = u i ∧ uK u lk N (k + 1) = upd (uK u lk N k) i true ∧ i < N := by
  cases lk
  · match k, hi with
    | 0, hi =>
      simp [kpL] at hi
      subst hi
      refine ⟨by simp [uK, kpL], ?_, by omega⟩
      funext p
      unfold upd uK kpL
      by_cases c : p = 0 <;> simp [c]
    | k + 1, hi => simp [kpL] at hi
  · match k, hi with
    | 0, hi =>
      simp [kpL] at hi
      subst hi
      refine ⟨by simp [uK, kpL], ?_, by omega⟩
      funext p
      unfold upd uK kpL
      by_cases c : p = 0 <;> simp [c]
    | 1, hi =>
      simp [kpL] at hi
      subst hi
      refine ⟨?_, ?_, by omega⟩
      · unfold uK kpL
        simp
        omega
      · funext p
        unfold upd uK kpL
        by_cases c : p = N - 1 <;> simp [c]
    | k + 2, hi => simp [kpL] at hi

/-- Is one that is kept used? -/
def badU (u : Nat → Bool) (lk : Bool) (N : Nat) : Prop := ∃ i, kpF lk N i = true ∧ u i = true

set_option maxRecDepth 100000 in
set_option maxHeartbeats 3200000 in
theorem withUsed_c {v : Bool} {h l b : Int} {a g n : Nat} {u : Nat → Bool} (hp : IsNum h l n) (h4 : 4 ≤ szP v n b) (w : World) (hM : MapB w a g (szP v n b) u) :
    Calls Tryz.prog 61 #[pv v h l b, .pointer (some ⟨a, 0, none⟩)] w fun e w' =>
      (¬ badU u (lkP v b) (szP v n b) ∧ e = .returned (.tuple #[.pointer (some ⟨w.heap.size + 1, 0, none⟩), .int .i64 0]) ∧ PoAt w' v h l b (w.heap.size + 1) a g (szP v n b) (fun p => u p || kpF (lkP v b) (szP v n b) p) ∧ But [g] w.heap.size w w') ∨
      (badU u (lkP v b) (szP v n b) ∧ e = .returned (.tuple #[.pointer none, .int .i64 1]) ∧ But [g] w.heap.size w w') := by
  have KE := fun w' f P' => kept_c (v := v) (b := b) (x := w.heap.size + 1) (a := a) (g := g) (f := f) hp (by omega) w' P'
  obtain ⟨N, hN⟩ : ∃ N, szP v n b = N := ⟨_, rfl⟩
  obtain ⟨lk, hlk⟩ : ∃ lk, lkP v b = lk := ⟨_, rfl⟩
  rw [hN] at KE hM h4 ⊢
  rw [hlk] at KE ⊢
  have KH := hide KE
  have l4 := hM.lt
  have MH := hide hM
  clear KE hM hp hN hlk
  go_enter Tryz.func61, Tryz.ntmps61
  go_wp2_with fail
  have P0 : PoAt ((w.alloc (.cells #[.bool v, .int .u64 h, .int .u64 l, .int .i64 b] 28)).alloc (.cells #[.bool v, .int .u64 h, .int .u64 l, .int .i64 b, .pointer (some ⟨a, 0, none⟩)] 90)) v h l b (w.heap.size + 1) a g N u :=
    ⟨by have := Blk.new (w.alloc (.cells #[.bool v, .int .u64 h, .int .u64 l, .int .i64 b] 28)) #[.bool v, .int .u64 h, .int .u64 l, .int .i64 b, .pointer (some ⟨a, 0, none⟩)] 90; simpa using this, MH.out.below (by repeat (first | with_reducible exact Below.refl _ _ | with_reducible refine Below.drew ?_ | with_reducible refine Below.alloc ?_ (by first | omega | (simp <;> omega)) _ | with_reducible refine Below.setCell ?_ (by first | omega | (simp <;> omega)) _))⟩
  have BL : Below w.heap.size w ((w.alloc (.cells #[.bool v, .int .u64 h, .int .u64 l, .int .i64 b] 28)).alloc (.cells #[.bool v, .int .u64 h, .int .u64 l, .int .i64 b, .pointer (some ⟨a, 0, none⟩)] 90)) := by repeat (first | with_reducible exact Below.refl _ _ | with_reducible refine Below.drew ?_ | with_reducible refine Below.alloc ?_ (by first | omega | (simp <;> omega)) _ | with_reducible refine Below.setCell ?_ (by first | omega | (simp <;> omega)) _)
  have KP := hide (KH.out _ _ P0)
  have PH := hide P0
  have BH := hide BL
  clear KH P0 BL MH
  refine KP.out.mono ?_
  rintro e w1 ⟨k, rfl, hk, hkl, hb⟩
  have P1 : Hid (PoAt w1 v h l b (w.heap.size + 1) a g N (uK u lk N 0)) := by rw [uK_zero]; exact PH.out.below hb
  have B1 : Hid (But [g] w.heap.size w w1) := But.of (BH.out.trans (hb.mono BH.out.size)) (Nat.le_refl _)
  have K1 := hide hk
  have kg : k ∉ [g] := by simp at hkl ⊢; omega
  obtain ⟨L, hL⟩ : ∃ L, (kpL lk N).length = L := ⟨_, rfl⟩
  have L2 : L ≤ 2 := hL ▸ kpL_len lk N
  have HL := hide hL
  rw [hL]
  clear hk hkl hb KP PH BH hL
  go_wp2_with fail
  go_loopw [16] (fun t wr => ∃ j : Nat, j ≤ L ∧ t = .int .i64 j ∧ Hid (PoAt wr v h l b (w.heap.size + 1) a g N (uK u lk N j)) ∧ Hid (But [g] w.heap.size w wr) ∧ Hid (Blk wr k (((kpL lk N).map fun i : Nat => Value.int .i64 (i : Int))).toArray 3) ∧ Hid (∀ q i, q < j → (kpL lk N)[q]? = some i → u i = false)) (fun t _ => L - (intOf t).toNat)
  case atStart => exact ⟨0, by omega, rfl, P1, B1, K1, fun q i hq => absurd hq (by omega)⟩
  case round =>
    clear P1 B1 K1
    obtain ⟨j, hj, rfl, P, B, K, G⟩ := hrel
    by_cases hlt : j < L
    · have hlt' : (j : Int) < L := by omega
      obtain ⟨i, hi⟩ : ∃ i, (kpL lk N)[j]? = some i := ⟨_, List.getElem?_eq_getElem (by rw [HL.out]; exact hlt)⟩
      have c := K.out.cell j
      simp only [List.getElem?_toArray, List.getElem?_map, hi, Option.map_some] at c
      obtain ⟨u1, u2, u3⟩ := uK_get (u := u) h4 hi
      obtain ⟨x0, x1, x2, x3, x4, xl⟩ := P.out.hd.five
      cases hu : u i
      · have PT := hide (put_new a g N i (uK u lk N j) u3 (u1.trans hu) wr P.out.m)
        have G2 : Hid (∀ q i, q < j + 1 → (kpL lk N)[q]? = some i → u i = false) := fun q i2 hq h2 => by
          by_cases e : q = j
          · subst e
            rw [hi] at h2
            obtain rfl := Option.some.inj h2
            exact hu
          · exact G.out q i2 (by omega) h2
        rw [← u2] at PT
        have i6 : (i : Int) < 65536 := by omega
        clear u1 u2 u3 hu hi G
        go_wp2_with fail
        refine PT.out.mono ?_
        rintro e w2 ⟨rfl, hM, hK⟩
        have P2 := hide (P.out.turn hM hK)
        have B2 : Hid (But [g] w.heap.size w w2) := B.out.trans (hK.mono B.out.size (fun x hx _ => hx))
        have K2 : Hid (Blk w2 k _ _) := hK.blk K.out K.out.lt kg
        clear hM hK PT P B K x0 x1 x2 x3 x4 c
        go_wp2
        go_roundw
        case rel => exact ⟨j + 1, by omega, by go_num, P2, B2, K2, G2⟩
        case measure => simp [intOf]; omega
      · have PT := hide (put_same a g N i (uK u lk N j) u3 (u1.trans hu) wr P.out.m)
        have bad : Hid (badU u lk N) := ⟨i, by rw [← kp_mem (by omega)]; exact decide_eq_true (List.mem_of_getElem? hi), hu⟩
        have i6 : (i : Int) < 65536 := by omega
        clear u1 u2 u3 hu hi G
        go_wp2_with fail
        refine PT.out.mono ?_
        rintro e w2 ⟨rfl, hM, hK⟩
        have B2 : Hid (But [g] w.heap.size w w2) := B.out.trans (hK.mono B.out.size (fun x hx _ => hx))
        clear hM hK PT P B K x0 x1 x2 x3 x4 c
        go_wp2
        go_ret2
        exact Or.inr ⟨bad.out, rfl, B2.out⟩
    · have hlt' : ¬ (j : Int) < L := by omega
      have good : Hid (¬ badU u lk N) := fun ⟨i, h1, h2⟩ => by
        rw [← kp_mem (by omega)] at h1
        obtain ⟨q, hq⟩ := List.mem_iff_getElem?.1 (of_decide_eq_true h1)
        have : q < (kpL lk N).length := by
          apply Classical.byContradiction
          intro c
          rw [List.getElem?_eq_none (by omega)] at hq
          cases hq
        rw [HL.out] at this
        rw [G.out q i (by omega) hq] at h2
        cases h2
      have PF := P.out
      rw [uK_full (by omega) (by rw [HL.out]; omega)] at PF
      have P2 := hide PF
      clear G PF P
      go_wp2
      go_ret2
      exact Or.inl ⟨good.out, rfl, P2.out, B.out⟩

set_option maxHeartbeats 1600000 in
theorem poNew_ok {v : Bool} {h l b : Int} {n : Nat} (hp : IsNum h l n) (h4 : 4 ≤ szP v n b) (w : World) :
    Calls Tryz.prog 17 #[pv v h l b] w fun e w' => ∃ x a g, e = .returned (.tuple #[.pointer (some ⟨x, 0, none⟩), .int .i64 0]) ∧ PoAt w' v h l b x a g (szP v n b) (kpF (lkP v b) (szP v n b)) ∧ Below w.heap.size w w' ∧ w.heap.size ≤ x ∧ w.heap.size ≤ g := by
  have SZ : Hid (∀ w', _) := fun w' => sizeOf_c (v := v) (b := b) hp w'
  have WU : Hid (∀ a g w', MapB w' a g (szP v n b) (fun _ => false) → _) := fun a g w' hM => withUsed_c (v := v) (b := b) hp h4 w' hM
  have h4' : ¬ (szP v n b : Int) < 4 := by omega
  have le := szP_le (v := v) (n := n) (b := b)
  have ng : Hid (¬ badU (fun _ => false) (lkP v b) (szP v n b)) := fun ⟨i, _, h2⟩ => by cases h2
  obtain ⟨N, hN⟩ : ∃ N, szP v n b = N := ⟨_, rfl⟩
  rw [hN] at SZ WU h4' le ng ⊢
  generalize lkP v b = lk at *
  have K := pfx_start w v h l b
  clear h4 hN hp
  go_enter Tryz.func17, Tryz.ntmps17
  go_wp2_with fail
  refine (SZ.out _).mono ?_
  rintro e w1 ⟨rfl, hb⟩
  have K1 := K.below hb
  have NB := hide (new_b N le w1)
  have F := K1.1
  simp only [Facts, CellsAt] at F
  clear SZ hb K
  go_wp2_with fail
  refine NB.out.mono ?_
  rintro e w2 ⟨rfl, hM, hb, hs⟩
  have K2 := K1.below hb
  have F2 := K2.1
  simp only [Facts, CellsAt] at F2
  have WW := hide (WU.out _ _ w2 hM)
  have KH := hide K2
  have LH := hide K1.bel.size
  have SH := hide hs
  clear hM hb hs NB K1 K2 WU F
  go_wp2_with fail
  refine WW.out.mono ?_
  rintro e w3 (⟨hg, rfl, hP, hK⟩ | ⟨hg, rfl, hK⟩)
  · have PH := hide hP
    have B3 : Hid (Below w.heap.size w w3) := hK.to KH.out.bel LH.out KH.out.bel.size
    clear hg hP hK WW
    go_wp2
    go_ret2
    refine ⟨_, w1.heap.size + 1, _, rfl, ?_, B3.out, ?_, LH.out⟩
    · have := PH.out
      simpa using this
    · have := LH.out
      have := SH.out
      omega
  · exact absurd hg ng.out
end Go.Proofs.YtighdocmncbdnaaGreatDoor
