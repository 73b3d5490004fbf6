/-
  Texts Se5, Se6, SeS, Se7, SeNil, SeM, SeG, SeA of the proof.
-/
import Derived.Test.YtllidkflgjjkfaaGreatDoorB38
import Derived.Test.YtllidkflgjjkfaaGreatDoorB22
import Derived.Test.YtllidkflgjjkfaaGreatDoorB29
import Derived.Test.YtllidkflgjjkfaaGreatDoorB37

namespace Go.Proofs.YtllidkflgjjkfaaGreatDoor
open Go.ChangeShapes Go.WideShapes Go.ChangeAt Go.RowKit
set_option linter.unusedVariables false
set_option linter.unusedSimpArgs false

theorem But.putx (x i : Nat) (v : Value) (W : World) (B : Nat) : But [x] B W (W.setCell ⟨x, i, none⟩ v) :=
  ⟨rfl, rfl, rfl, by simp [World.setCell], fun q hq hn => Below.heap_setCell _ _ _ _ (by simpa using hn)⟩

theorem next_at {f : Nat → Bool} {N c p : Nat} (hf : nextF f N c = some p) : nxP f N c = p ∧ nxB f N c = true := by
  unfold nxP nxB
  rw [hf]
  exact ⟨rfl, rfl⟩

theorem next_no {f : Nat → Bool} {N c : Nat} (hf : nextF f N c = none) : nxP f N c = 0 ∧ nxB f N c = false := by
  unfold nxP nxB
  rw [hf]
  exact ⟨rfl, rfl⟩

/-- What Next of the set asks of its map. -/
theorem snx {a g N c : Nat} {f : Nat → Bool} (hc : c < N) (w : World) (H : MapB w a g N f) (hT : TB w) : Calls Tryz.prog 90 #[.pointer (some ⟨a, 0, none⟩), .int .i64 c] w fun e w' => e = .returned (.tuple #[.int .i64 (nxP f N c : Nat), .bool (nxB f N c)]) ∧ Below w.heap.size w w' := by
  have l4 := H.lt
  have := next_ok a g N f (c : Int) (by omega) (by omega) (by omega) w H hT
  rw [show (c : Int).toNat % N = c from by rw [Int.toNat_natCast, Nat.mod_eq_of_lt hc]] at this
  exact this

set_option maxRecDepth 100000 in
set_option maxHeartbeats 1600000 in
theorem snext_full {v : Bool} {h l b k : Int} {a x g n N cu : Nat} {f : Nat → Bool} (O : SetOf v h l b k n N) (hf : nextF f N cu = none) (w : World) (hT : TB w) (P : SetAt w v h l b k x a g N f cu) :
    Calls Tryz.prog 46 #[.pointer (some ⟨x, 0, none⟩)] w fun e w' => e = .returned (.tuple #[pv false 0 0 0, .int .i64 9]) ∧ Below w.heap.size w w' := by
  have bl : Below w.heap.size w (w.alloc (.cells #[.bool false, .int .u64 0, .int .u64 0, .int .i64 0] 28)) := by repeat (first | with_reducible exact Below.refl _ _ | with_reducible refine Below.drew ?_ | with_reducible refine Below.alloc ?_ (by first | omega | (simp <;> omega)) _ | with_reducible refine Below.setCell ?_ (by first | omega | (simp <;> omega)) _)
  have NH := hide (fun w' H T => snx (a := a) (g := g) (f := f) P.cur w' H T)
  rw [(next_no hf).1, (next_no hf).2] at NH
  have K0 : Kn w [(w.heap.size, [.bool false, .int .u64 0, .int .u64 0, .int .i64 0], 28), (x, [.bool v, .int .u64 h, .int .u64 l, .int .i64 b, .int .i64 k, .pointer (some ⟨a, 0, none⟩), .int .i64 (cu : Int)], 115)] (w.alloc (.cells #[.bool false, .int .u64 0, .int .u64 0, .int .i64 0] 28)) := ((Kn.nil w).cons P.hd).push rfl
  have NX := hide (fun w' (q : Below w.heap.size w w') => NH.out w' (P.m.below q) (hT.below q))
  obtain ⟨x0, x1, x2, x3, x4, x5, x6, xl⟩ := P.hd.seven
  clear NH O hf hT P
  go_enter Tryz.func46, Tryz.ntmps46
  go_wp2_with fail
  refine wp_region_held_drew (S := (Kn w [(w.heap.size, [.bool false, .int .u64 0, .int .u64 0, .int .i64 0], 28), (x, [.bool v, .int .u64 h, .int .u64 l, .int .i64 b, .int .i64 k, .pointer (some ⟨a, 0, none⟩), .int .i64 (cu : Int)], 115)])) (by kernel_rfl) ?hS100 (fun hHeld => ?rest100)
  case hS100 => (first | with_reducible exact K0.drew | with_reducible exact hHeld.below hb4)
  refine wpAnyH_take (i := 0) (oi := _) (v := ?v101) (List.getElem?_toArray.trans rfl) (by kernel_rfl) (by kernel_rfl) (by kernel_rfl) (fun _ _ _ h => h) (Or.inl ⟨by rfl, ?hy101⟩) (by assumption) ?rest101
  case hy101 => (intro wq hSw; (try simp only [Two, Kn, Facts, CellsAt] at hSw); go_simp; try with_reducible rfl)
  try simp only [Act.put, List.setIfInBounds_toArray, List.set_cons_zero, List.set_cons_succ]
  refine wpAnyH_take (i := 1) (oi := _) (v := ?v102) (List.getElem?_toArray.trans rfl) (by kernel_rfl) (by kernel_rfl) (by kernel_rfl) (fun _ _ _ h => h) (Or.inl ⟨by rfl, ?hy102⟩) (by assumption) ?rest102
  case hy102 => (intro wq hSw; (try simp only [Two, Kn, Facts, CellsAt] at hSw); go_simp; try with_reducible rfl)
  try simp only [Act.put, List.setIfInBounds_toArray, List.set_cons_zero, List.set_cons_succ]
  refine wpAnyH_take (i := 2) (oi := _) (v := ?v103) (List.getElem?_toArray.trans rfl) (by kernel_rfl) (by kernel_rfl) (by kernel_rfl) (fun _ _ _ h => h) (Or.inl ⟨by rfl, ?hy103⟩) (by assumption) ?rest103
  case hy103 => (intro wq hSw; (try simp only [Two, Kn, Facts, CellsAt] at hSw); go_simp; try with_reducible rfl)
  try simp only [Act.put, List.setIfInBounds_toArray, List.set_cons_zero, List.set_cons_succ]
  refine wpAnyH_take (i := 3) (oi := _) (v := ?v104) (List.getElem?_toArray.trans rfl) (by kernel_rfl) (by kernel_rfl) (by kernel_rfl) (fun _ _ _ h => h) (Or.inl ⟨by rfl, ?hy104⟩) (by assumption) ?rest104
  case hy104 => (intro wq hSw; (try simp only [Two, Kn, Facts, CellsAt] at hSw); go_simp; try with_reducible rfl)
  try simp only [Act.put, List.setIfInBounds_toArray, List.set_cons_zero, List.set_cons_succ]
  refine wpAnyH_take (i := 4) (oi := _) (v := ?v105) (List.getElem?_toArray.trans rfl) (by kernel_rfl) (by kernel_rfl) (by kernel_rfl) (fun _ _ _ h => h) (Or.inl ⟨by rfl, ?hy105⟩) (by assumption) ?rest105
  case hy105 => (intro wq hSw; (try simp only [Two, Kn, Facts, CellsAt] at hSw); go_simp; try with_reducible rfl)
  try simp only [Act.put, List.setIfInBounds_toArray, List.set_cons_zero, List.set_cons_succ]
  refine wpAnyH_take (i := 5) (oi := _) (v := ?v106) (List.getElem?_toArray.trans rfl) (by kernel_rfl) (by kernel_rfl) (by kernel_rfl) (fun _ _ _ h => h) (Or.inl ⟨by rfl, ?hy106⟩) (by assumption) ?rest106
  case hy106 => (intro wq hSw; (try simp only [Two, Kn, Facts, CellsAt] at hSw); go_simp; try with_reducible rfl)
  try simp only [Act.put, List.setIfInBounds_toArray, List.set_cons_zero, List.set_cons_succ]
  refine wpAnyH_take (i := 6) (oi := _) (v := ?v107) (List.getElem?_toArray.trans rfl) (by kernel_rfl) (by kernel_rfl) (by kernel_rfl) (fun _ _ _ h => h) (Or.inl ⟨by rfl, ?hy107⟩) (by assumption) ?rest107
  case hy107 => (intro wq hSw; (try simp only [Two, Kn, Facts, CellsAt] at hSw); go_simp; try with_reducible rfl)
  try simp only [Act.put, List.setIfInBounds_toArray, List.set_cons_zero, List.set_cons_succ]
  refine wpAnyH_take (i := 7) (oi := _) (v := ?v108) (List.getElem?_toArray.trans rfl) (by kernel_rfl) (by kernel_rfl) (by kernel_rfl) (fun _ _ _ h => h) (Or.inl ⟨by rfl, ?hy108⟩) (by assumption) ?rest108
  case hy108 => (intro wq hSw; (try simp only [Two, Kn, Facts, CellsAt] at hSw); go_simp; try with_reducible rfl)
  try simp only [Act.put, List.setIfInBounds_toArray, List.set_cons_zero, List.set_cons_succ]
  refine wpAnyH_ready (rs := [8]) (by kernel_rfl) (by simp) ?rdy109
  refine AllReadyH.cons (List.getElem?_toArray.trans rfl) (fun K hK => ?stp109) AllReadyH.nil
  go_simp
  go_wp2_with fail
  (refine (NX.out _ hHeld.bel).mono ?_; rintro e w4 ⟨rfl, hb4⟩)
  go_wp2_with fail
  refine hK.out _ _ ?hSn109 (fun hHeld2 => ?rest109)
  case hSn109 => (first | with_reducible exact K0.drew | with_reducible exact hHeld.below hb4)
  clear hK K hHeld
  have hHeld := hHeld2
  clear hHeld2
  try simp only [Act.put, List.setIfInBounds_toArray, List.set_cons_zero, List.set_cons_succ]
  refine wpAnyH_take (i := 9) (oi := _) (v := ?v110) (List.getElem?_toArray.trans rfl) (by kernel_rfl) (by kernel_rfl) (by kernel_rfl) (fun _ _ _ h => h) (Or.inl ⟨by rfl, ?hy110⟩) (by assumption) ?rest110
  case hy110 => (intro wq hSw; (try simp only [Two, Kn, Facts, CellsAt] at hSw); go_simp; try with_reducible rfl)
  try simp only [Act.put, List.setIfInBounds_toArray, List.set_cons_zero, List.set_cons_succ]
  refine wpAnyH_take (i := 10) (oi := _) (v := ?v111) (List.getElem?_toArray.trans rfl) (by kernel_rfl) (by kernel_rfl) (by kernel_rfl) (fun _ _ _ h => h) (Or.inl ⟨by rfl, ?hy111⟩) (by assumption) ?rest111
  case hy111 => (intro wq hSw; (try simp only [Two, Kn, Facts, CellsAt] at hSw); go_simp; try with_reducible rfl)
  try simp only [Act.put, List.setIfInBounds_toArray, List.set_cons_zero, List.set_cons_succ]
  refine wpAnyH_take (i := 11) (oi := _) (v := ?v112) (List.getElem?_toArray.trans rfl) (by kernel_rfl) (by kernel_rfl) (by kernel_rfl) (fun _ _ _ h => h) (Or.inl ⟨by rfl, ?hy112⟩) (by assumption) ?rest112
  case hy112 => (intro wq hSw; (try simp only [Two, Kn, Facts, CellsAt] at hSw); go_simp; try with_reducible rfl)
  try simp only [Act.put, List.setIfInBounds_toArray, List.set_cons_zero, List.set_cons_succ]
  refine wpAnyH_take (i := 12) (oi := _) (v := ?v113) (List.getElem?_toArray.trans rfl) (by kernel_rfl) (by kernel_rfl) (by kernel_rfl) (fun _ _ _ h => h) (Or.inl ⟨by rfl, ?hy113⟩) (by assumption) ?rest113
  case hy113 => (intro wq hSw; (try simp only [Two, Kn, Facts, CellsAt] at hSw); go_simp; try with_reducible rfl)
  try simp only [Act.put, List.setIfInBounds_toArray, List.set_cons_zero, List.set_cons_succ]
  refine wpAnyH_take (i := 13) (oi := _) (v := ?v114) (List.getElem?_toArray.trans rfl) (by kernel_rfl) (by kernel_rfl) (by kernel_rfl) (fun _ _ _ h => h) (Or.inl ⟨by rfl, ?hy114⟩) (by assumption) ?rest114
  case hy114 => (intro wq hSw; (try simp only [Two, Kn, Facts, CellsAt] at hSw); go_simp; try with_reducible rfl)
  try simp only [Act.put, List.setIfInBounds_toArray, List.set_cons_zero, List.set_cons_succ]
  refine wpAnyH_done (by kernel_rfl) ?fin100 _
  have B := hHeld.bel
  have hs := B.size
  obtain ⟨r0, r1, r2, r3, r4, r5, r6, r7, r8⟩ := hHeld.2.1.1.four
  clear hHeld hb4 K0 NX bl x0 x1 x2 x3 x4 x5 x6
  go_wp2
  refine bodyPost_ret (v := .tuple #[pv false 0 0 0, .int .i64 9]) (by simp [results, Tryz.results46, go_sem, World.cell?_setCell_same', World.cell?_setCell_other, *]) rfl ⟨rfl, by repeat (first | with_reducible exact Below.refl _ _ | with_reducible refine Below.drew ?_ | with_reducible refine Below.alloc ?_ (by first | omega | (simp <;> omega)) _ | with_reducible refine Below.setCell ?_ (by first | omega | (simp <;> omega)) _ | with_reducible refine Below.trans ?_ (Below.mono B (by first | omega | (simp <;> omega))))⟩

set_option maxRecDepth 100000 in
set_option maxHeartbeats 3200000 in
theorem snext_ok {v : Bool} {h l b k rh rl : Int} {a x g n N cu i : Nat} {f : Nat → Bool} (O : SetOf v h l b k n N) (hf : nextF f N cu = some i) (hr : IsNum rh rl (blkN v n k i)) (w : World) (hT : TB w) (P : SetAt w v h l b k x a g N f cu) :
    Calls Tryz.prog 46 #[.pointer (some ⟨x, 0, none⟩)] w fun e w' => e = .returned (.tuple #[pv v rh rl k, .int .i64 0]) ∧ SetAt w' v h l b k x a g N (upd f i true) ((i + 1) % N) ∧ But [g, x] w.heap.size w w' := by
  obtain ⟨hiN, hfi⟩ := nextF_is P.cur hf
  have le := O.small
  have bl : Below w.heap.size w (w.alloc (.cells #[.bool false, .int .u64 0, .int .u64 0, .int .i64 0] 28)) := by repeat (first | with_reducible exact Below.refl _ _ | with_reducible refine Below.drew ?_ | with_reducible refine Below.alloc ?_ (by first | omega | (simp <;> omega)) _ | with_reducible refine Below.setCell ?_ (by first | omega | (simp <;> omega)) _)
  have NH := hide (fun w' H T => snx (a := a) (g := g) (f := f) P.cur w' H T)
  rw [(next_at hf).1, (next_at hf).2] at NH
  have K0 : Kn w [(w.heap.size, [.bool false, .int .u64 0, .int .u64 0, .int .i64 0], 28), (x, [.bool v, .int .u64 h, .int .u64 l, .int .i64 b, .int .i64 k, .pointer (some ⟨a, 0, none⟩), .int .i64 (cu : Int)], 115)] (w.alloc (.cells #[.bool false, .int .u64 0, .int .u64 0, .int .i64 0] 28)) := ((Kn.nil w).cons P.hd).push rfl
  have NX := hide (fun w' (q : Below w.heap.size w w') => NH.out w' (P.m.below q) (hT.below q))
  have PU := hide (fun w' H => put_new a g N i f hiN hfi w' H)
  have BK := hide (fun w' hx => sblock_c (a := a) (x := x) (cu := (((i + 1) % N : Nat) : Int)) O hiN hr w' hx)
  have PH := hide P
  obtain ⟨x0, x1, x2, x3, x4, x5, x6, xl⟩ := P.hd.seven
  have i6 : (i : Int) < 65536 := by omega
  obtain ⟨j, hj⟩ : ∃ j, (i + 1) % N = j := ⟨_, rfl⟩
  have hjN : j < N := hj ▸ Nat.mod_lt _ O.pos
  have hmod : ((i : Int) + 1) % (N : Int) = (j : Int) := by
    rw [← hj]
    have : ((i : Int) + 1) = ((i + 1 : Nat) : Int) := by omega
    rw [this]
    exact (Int.natCast_emod _ _).symm
  have hN0 : ((N : Int) == 0) = false := by have := O.pos; simp; omega
  rw [hj] at BK ⊢
  have gx := P.ne
  have pl := P.lt
  clear NH O hf hT P hj
  go_enter Tryz.func46, Tryz.ntmps46
  go_wp2_with fail
  refine wp_region_held_drew (S := (Kn w [(w.heap.size, [.bool false, .int .u64 0, .int .u64 0, .int .i64 0], 28), (x, [.bool v, .int .u64 h, .int .u64 l, .int .i64 b, .int .i64 k, .pointer (some ⟨a, 0, none⟩), .int .i64 (cu : Int)], 115)])) (by kernel_rfl) ?hS200 (fun hHeld => ?rest200)
  case hS200 => (first | with_reducible exact K0.drew | with_reducible exact hHeld.below hb4)
  refine wpAnyH_take (i := 0) (oi := _) (v := ?v201) (List.getElem?_toArray.trans rfl) (by kernel_rfl) (by kernel_rfl) (by kernel_rfl) (fun _ _ _ h => h) (Or.inl ⟨by rfl, ?hy201⟩) (by assumption) ?rest201
  case hy201 => (intro wq hSw; (try simp only [Two, Kn, Facts, CellsAt] at hSw); go_simp; try with_reducible rfl)
  try simp only [Act.put, List.setIfInBounds_toArray, List.set_cons_zero, List.set_cons_succ]
  refine wpAnyH_take (i := 1) (oi := _) (v := ?v202) (List.getElem?_toArray.trans rfl) (by kernel_rfl) (by kernel_rfl) (by kernel_rfl) (fun _ _ _ h => h) (Or.inl ⟨by rfl, ?hy202⟩) (by assumption) ?rest202
  case hy202 => (intro wq hSw; (try simp only [Two, Kn, Facts, CellsAt] at hSw); go_simp; try with_reducible rfl)
  try simp only [Act.put, List.setIfInBounds_toArray, List.set_cons_zero, List.set_cons_succ]
  refine wpAnyH_take (i := 2) (oi := _) (v := ?v203) (List.getElem?_toArray.trans rfl) (by kernel_rfl) (by kernel_rfl) (by kernel_rfl) (fun _ _ _ h => h) (Or.inl ⟨by rfl, ?hy203⟩) (by assumption) ?rest203
  case hy203 => (intro wq hSw; (try simp only [Two, Kn, Facts, CellsAt] at hSw); go_simp; try with_reducible rfl)
  try simp only [Act.put, List.setIfInBounds_toArray, List.set_cons_zero, List.set_cons_succ]
  refine wpAnyH_take (i := 3) (oi := _) (v := ?v204) (List.getElem?_toArray.trans rfl) (by kernel_rfl) (by kernel_rfl) (by kernel_rfl) (fun _ _ _ h => h) (Or.inl ⟨by rfl, ?hy204⟩) (by assumption) ?rest204
  case hy204 => (intro wq hSw; (try simp only [Two, Kn, Facts, CellsAt] at hSw); go_simp; try with_reducible rfl)
  try simp only [Act.put, List.setIfInBounds_toArray, List.set_cons_zero, List.set_cons_succ]
  refine wpAnyH_take (i := 4) (oi := _) (v := ?v205) (List.getElem?_toArray.trans rfl) (by kernel_rfl) (by kernel_rfl) (by kernel_rfl) (fun _ _ _ h => h) (Or.inl ⟨by rfl, ?hy205⟩) (by assumption) ?rest205
  case hy205 => (intro wq hSw; (try simp only [Two, Kn, Facts, CellsAt] at hSw); go_simp; try with_reducible rfl)
  try simp only [Act.put, List.setIfInBounds_toArray, List.set_cons_zero, List.set_cons_succ]
  refine wpAnyH_take (i := 5) (oi := _) (v := ?v206) (List.getElem?_toArray.trans rfl) (by kernel_rfl) (by kernel_rfl) (by kernel_rfl) (fun _ _ _ h => h) (Or.inl ⟨by rfl, ?hy206⟩) (by assumption) ?rest206
  case hy206 => (intro wq hSw; (try simp only [Two, Kn, Facts, CellsAt] at hSw); go_simp; try with_reducible rfl)
  try simp only [Act.put, List.setIfInBounds_toArray, List.set_cons_zero, List.set_cons_succ]
  refine wpAnyH_take (i := 6) (oi := _) (v := ?v207) (List.getElem?_toArray.trans rfl) (by kernel_rfl) (by kernel_rfl) (by kernel_rfl) (fun _ _ _ h => h) (Or.inl ⟨by rfl, ?hy207⟩) (by assumption) ?rest207
  case hy207 => (intro wq hSw; (try simp only [Two, Kn, Facts, CellsAt] at hSw); go_simp; try with_reducible rfl)
  try simp only [Act.put, List.setIfInBounds_toArray, List.set_cons_zero, List.set_cons_succ]
  refine wpAnyH_take (i := 7) (oi := _) (v := ?v208) (List.getElem?_toArray.trans rfl) (by kernel_rfl) (by kernel_rfl) (by kernel_rfl) (fun _ _ _ h => h) (Or.inl ⟨by rfl, ?hy208⟩) (by assumption) ?rest208
  case hy208 => (intro wq hSw; (try simp only [Two, Kn, Facts, CellsAt] at hSw); go_simp; try with_reducible rfl)
  try simp only [Act.put, List.setIfInBounds_toArray, List.set_cons_zero, List.set_cons_succ]
  refine wpAnyH_ready (rs := [8]) (by kernel_rfl) (by simp) ?rdy209
  refine AllReadyH.cons (List.getElem?_toArray.trans rfl) (fun K hK => ?stp209) AllReadyH.nil
  go_simp
  go_wp2_with fail
  (refine (NX.out _ hHeld.bel).mono ?_; rintro e w4 ⟨rfl, hb4⟩)
  go_wp2_with fail
  refine hK.out _ _ ?hSn209 (fun hHeld2 => ?rest209)
  case hSn209 => (first | with_reducible exact K0.drew | with_reducible exact hHeld.below hb4)
  clear hK K hHeld
  have hHeld := hHeld2
  clear hHeld2
  try simp only [Act.put, List.setIfInBounds_toArray, List.set_cons_zero, List.set_cons_succ]
  refine wpAnyH_take (i := 9) (oi := _) (v := ?v210) (List.getElem?_toArray.trans rfl) (by kernel_rfl) (by kernel_rfl) (by kernel_rfl) (fun _ _ _ h => h) (Or.inl ⟨by rfl, ?hy210⟩) (by assumption) ?rest210
  case hy210 => (intro wq hSw; (try simp only [Two, Kn, Facts, CellsAt] at hSw); go_simp; try with_reducible rfl)
  try simp only [Act.put, List.setIfInBounds_toArray, List.set_cons_zero, List.set_cons_succ]
  refine wpAnyH_take (i := 10) (oi := _) (v := ?v211) (List.getElem?_toArray.trans rfl) (by kernel_rfl) (by kernel_rfl) (by kernel_rfl) (fun _ _ _ h => h) (Or.inl ⟨by rfl, ?hy211⟩) (by assumption) ?rest211
  case hy211 => (intro wq hSw; (try simp only [Two, Kn, Facts, CellsAt] at hSw); go_simp; try with_reducible rfl)
  try simp only [Act.put, List.setIfInBounds_toArray, List.set_cons_zero, List.set_cons_succ]
  refine wpAnyH_take (i := 11) (oi := _) (v := ?v212) (List.getElem?_toArray.trans rfl) (by kernel_rfl) (by kernel_rfl) (by kernel_rfl) (fun _ _ _ h => h) (Or.inl ⟨by rfl, ?hy212⟩) (by assumption) ?rest212
  case hy212 => (intro wq hSw; (try simp only [Two, Kn, Facts, CellsAt] at hSw); go_simp; try with_reducible rfl)
  try simp only [Act.put, List.setIfInBounds_toArray, List.set_cons_zero, List.set_cons_succ]
  refine wpAnyH_take (i := 12) (oi := _) (v := ?v213) (List.getElem?_toArray.trans rfl) (by kernel_rfl) (by kernel_rfl) (by kernel_rfl) (fun _ _ _ h => h) (Or.inl ⟨by rfl, ?hy213⟩) (by assumption) ?rest213
  case hy213 => (intro wq hSw; (try simp only [Two, Kn, Facts, CellsAt] at hSw); go_simp; try with_reducible rfl)
  try simp only [Act.put, List.setIfInBounds_toArray, List.set_cons_zero, List.set_cons_succ]
  refine wpAnyH_take (i := 13) (oi := _) (v := ?v214) (List.getElem?_toArray.trans rfl) (by kernel_rfl) (by kernel_rfl) (by kernel_rfl) (fun _ _ _ h => h) (Or.inl ⟨by rfl, ?hy214⟩) (by assumption) ?rest214
  case hy214 => (intro wq hSw; (try simp only [Two, Kn, Facts, CellsAt] at hSw); go_simp; try with_reducible rfl)
  try simp only [Act.put, List.setIfInBounds_toArray, List.set_cons_zero, List.set_cons_succ]
  refine wpAnyH_done (by kernel_rfl) ?fin200 _
  have B5 : Hid (Below w.heap.size w w4) := hHeld.bel
  have P5 := hide (PH.out.below B5.out)
  have R5 : Hid (Blk w4 w.heap.size #[.bool false, .int .u64 0, .int .u64 0, .int .i64 0] 28) := hHeld.2.1.1
  have PU5 := hide (PU.out _ P5.out.m)
  obtain ⟨y0, y1, y2, y3, y4, y5, y6, yl⟩ := P5.out.hd.seven
  clear hHeld hb4 K0 NX bl x0 x1 x2 x3 x4 x5 x6 PU
  go_wp2_with fail
  refine PU5.out.mono ?_
  rintro e w6 ⟨rfl, hM, hK⟩
  have P6 := hide (P5.out.turn hM hK)
  have R6 := hide (hK.blk R5.out R5.out.lt (by simp; omega))
  have B6 := hide ((But.of (L := [g, x]) B5.out (Nat.le_refl _)).trans (hK.mono B5.out.size (fun y hy _ => by simp at hy ⊢; exact Or.inl hy)))
  obtain ⟨z0, z1, z2, z3, z4, z5, z6, zl⟩ := P6.out.hd.seven
  have z9 := P6.out.hd.frozen 6
  have SZ := hide (ssize_c w6 P6.out)
  clear PU5 hM hK P5 R5 B5 y0 y1 y2 y3 y4 y5 y6 PH
  go_wp2_with fail
  refine SZ.out.mono ?_
  rintro e w6 ⟨rfl, rfl⟩
  have P7 := hide (P6.out.move hjN)
  have R7 := hide (R6.out.far (show w.heap.size ≠ x by omega) 6 (.int .i64 (j : Int)))
  have B7 := hide (B6.out.trans (hide ((But.putx x 6 (.int .i64 (j : Int)) w6 w.heap.size).mono (Nat.le_refl _) (fun y hy _ => by simp at hy ⊢; exact Or.inr hy))).out)
  have BK7 := hide (BK.out _ P7.out.hd)
  clear SZ BK P6 R6 B6
  go_wp2_with fail
  refine BK7.out.mono ?_
  rintro e w8 ⟨rfl, hb⟩
  have R8 := R7.out.below hb
  obtain ⟨r0, r1, r2, r3, r4, r5, r6, r7, r8⟩ := R8.four
  have P8 := hide (P7.out.below hb)
  have B8 := hide (B7.out.trans (But.of (L := [g, x]) hb B7.out.size))
  have hs : w.heap.size ≤ w8.heap.size := B8.out.size
  clear BK7 hb R7 B7 P7 R8
  go_wp2
  have E : ∀ W', Below w.heap.size w8 W' → SetAt W' v h l b k x a g N (upd f i true) j ∧ But [g, x] w.heap.size w W' := fun W' q => ⟨P8.out.keep q pl.1 pl.2.1 pl.2.2, B8.out.trans (But.of q (Nat.le_refl _))⟩
  refine bodyPost_ret (v := .tuple #[pv v rh rl k, .int .i64 0]) (by simp [results, Tryz.results46, go_sem, World.cell?_setCell_same', World.cell?_setCell_other, *]) rfl ⟨rfl, E _ (by repeat (first | with_reducible exact Below.refl _ _ | with_reducible refine Below.drew ?_ | with_reducible refine Below.alloc ?_ (by first | omega | (simp <;> omega)) _ | with_reducible refine Below.setCell ?_ (by first | omega | (simp <;> omega)) _))⟩

set_option maxHeartbeats 1600000 in
theorem shas_err {v u : Bool} {h l b k qh ql c E : Int} {a x g n m N cu : Nat} {f : Nat → Bool} (O : SetOf v h l b k n N) (hq : IsNum qh ql m) (hE : qE v n b u m c = E) (h0 : ¬ E = 0) (w : World) (P : SetAt w v h l b k x a g N f cu) :
    Calls Tryz.prog 34 #[.pointer (some ⟨x, 0, none⟩), pv u qh ql c] w fun e w' => e = .returned (.bool false) ∧ Below w.heap.size w w' := by
  have K := hide (sq_start (u := u) (qh := qh) (ql := ql) (c := c) w P.hd)
  have SP := hide (sspan_err O hq hE h0 _ K.out.2.1.2.1)
  clear O hq hE P
  go_enter Tryz.func34, Tryz.ntmps34
  go_wp2_with fail
  refine SP.out.mono ?_
  rintro e w1 ⟨rfl, hb⟩
  have B := (K.out.below hb).bel
  clear SP hb K
  go_wp2
  go_ret
  exact ⟨rfl, B⟩

set_option maxRecDepth 100000 in
set_option maxHeartbeats 1600000 in
theorem shas_ok {v : Bool} {h l b k qh ql c : Int} {a x g n m N cu : Nat} {f : Nat → Bool} {T : Bool} (O : SetOf v h l b k n N) (hq : IsNum qh ql m) (hq0 : okP v m c = true) (ho : overB v n b v m c = true) (hB : T = true ↔ ∃ p, f p = true ∧ ovP v n k N v m c p = true) (w : World) (P : SetAt w v h l b k x a g N f cu) :
    Calls Tryz.prog 34 #[.pointer (some ⟨x, 0, none⟩), pv v qh ql c] w fun e w' => e = .returned (.bool T) ∧ Below w.heap.size w w' := by
  obtain ⟨s1, s2, _⟩ := sp_facts O.cut hq0 ho O.num.lt hq.lt
  rw [O.len] at s2
  rw [ovP_row O.cut O.len hq0 ho O.num.lt hq.lt] at hB
  have K := hide (sq_start (u := v) (qh := qh) (ql := ql) (c := c) w P.hd)
  have SP := hide (sspan_ok O hq hq0 ho _ K.out.2.1.2.1)
  have le := O.small
  obtain ⟨A, hA⟩ : ∃ A, spA v n b k m c = A := ⟨_, rfl⟩
  obtain ⟨Z, hZ⟩ : ∃ Z, spZ v n b k m c = Z := ⟨_, rfl⟩
  rw [hA, hZ] at SP hB s1
  rw [hZ] at s2
  have PH := hide P
  have HB := hide hB
  clear O hq hq0 ho P hA hZ hB
  go_enter Tryz.func34, Tryz.ntmps34
  go_wp2_with fail
  refine SP.out.mono ?_
  rintro e w1 ⟨rfl, hb⟩
  have B1 := hide (K.out.below hb).bel
  clear SP hb K
  go_wp2_with fail
  go_loopw [8] (fun t wr => ∃ j : Nat, A ≤ j ∧ j ≤ Z + 1 ∧ t = .int .i64 j ∧ Hid (∀ q, A ≤ q → q < j → f q = false) ∧ Hid (Below w.heap.size w wr)) (fun t _ => Z + 1 - (intOf t).toNat)
  case atStart => exact ⟨A, Nat.le_refl _, by omega, rfl, fun q h1 h2 => absurd h2 (by omega), B1⟩
  case round =>
    obtain ⟨j, hj1, hj2, rfl, G, B⟩ := hrel
    clear B1
    by_cases hlt : j ≤ Z
    · have hlt' : (j : Int) ≤ Z := by omega
      have P1 := hide (PH.out.below B.out)
      obtain ⟨x0, x1, x2, x3, x4, x5, x6, xl⟩ := P1.out.hd.seven
      have HA := hide (bhas_ok a g N j f (by omega) wr P1.out.m)
      cases hfj : f j
      · have G2 : Hid (∀ q, A ≤ q → q < j + 1 → f q = false) := fun q h1 h2 => by
          by_cases e : q = j
          · subst e; exact hfj
          · exact G.out q h1 (by omega)
        rw [hfj] at HA
        clear G hfj P1
        go_wp2_with fail
        refine HA.out.mono ?_
        rintro e w3 ⟨rfl, hb3⟩
        have B3 := hide (B.out.trans (hb3.mono B.out.size))
        clear HA hb3 B x0 x1 x2 x3 x4 x5 x6
        go_wp2
        go_roundw
        case rel => exact ⟨j + 1, by omega, by omega, by go_num, G2, B3⟩
        case measure => simp [intOf]; omega
      · have t : T = true := HB.out.2 ⟨j, hfj, decide_eq_true ⟨hj1, hlt⟩⟩
        subst t
        rw [hfj] at HA
        clear G hfj P1 HB
        go_wp2_with fail
        refine HA.out.mono ?_
        rintro e w3 ⟨rfl, hb3⟩
        have B3 := B.out.trans (hb3.mono B.out.size)
        clear HA hb3 B x0 x1 x2 x3 x4 x5 x6
        go_wp2
        go_ret
        exact ⟨rfl, B3⟩
    · have hlt' : ¬ (j : Int) ≤ Z := by omega
      have t : T = false := by
        cases hT : T
        · rfl
        · obtain ⟨p, h1, h2⟩ := HB.out.1 hT
          have h3 : A ≤ p ∧ p ≤ Z := of_decide_eq_true h2
          rw [G.out p h3.1 (by omega)] at h1
          cases h1
      subst t
      have B3 := B.out
      clear G B HB
      go_wp2
      go_ret
      exact ⟨rfl, B3⟩

theorem shas_c {v u : Bool} {h l b k qh ql c : Int} {a x g n m N cu : Nat} {f : Nat → Bool} {T : Bool} (O : SetOf v h l b k n N) (hq : IsNum qh ql m) (hB : T = true ↔ ∃ p, f p = true ∧ ovP v n k N u m c p = true) (w : World) (P : SetAt w v h l b k x a g N f cu) :
    Calls Tryz.prog 34 #[.pointer (some ⟨x, 0, none⟩), pv u qh ql c] w fun e w' => e = .returned (.bool T) ∧ Below w.heap.size w w' := by
  rcases qE_is (v := v) (u := u) (n := n) (m := m) (b := b) (c := c) with ⟨h1, rfl, h2, h3⟩ | ⟨h1, h2⟩
  · exact shas_ok O hq h2 h3 hB w P
  · have t : T = false := by
      cases hT : T
      · rfl
      · obtain ⟨p, _, h4⟩ := hB.1 hT
        rw [ovP_none O.cut O.len O.num.lt hq.lt h2] at h4
        cases h4
    subst t
    exact shas_err O hq rfl h1 w P
end Go.Proofs.YtllidkflgjjkfaaGreatDoor

namespace Go.Proofs.YtllidkflgjjkfaaGreatDoor
open Go.ChangeShapes Go.WideShapes Go.ChangeAt Go.RowKit
set_option linter.unusedVariables false
set_option linter.unusedSimpArgs false

theorem infoPfx7 : (Tryz.prog.info? 28).map (fun i => (i.zero, i.size, i.bytes)) = some (some (.agg #[.bool false, .int .u64 0, .int .u64 0, .int .i64 0]), 4, 32) := by kernel_rfl

theorem num_parts7 {a : Nat} (h : a < 340282366920938463463374607431768211456) : IsNum ((a / 18446744073709551616 : Nat) : Int) ((a % 18446744073709551616 : Nat) : Int) a := by
  have := IsNum.ofNat (H := a / 18446744073709551616) (L := a % 18446744073709551616) (by omega) (by omega)
  rw [show a / 18446744073709551616 * 18446744073709551616 + a % 18446744073709551616 = a by omega] at this
  exact this

/-- The cells of one block. -/
def cellB (v : Bool) (n : Nat) (k : Int) (j : Nat) : List Value := [.bool v, .int .u64 ((blkN v n k j / 18446744073709551616 : Nat) : Int), .int .u64 ((blkN v n k j % 18446744073709551616 : Nat) : Int), .int .i64 k]

/-- The cells of the blocks that are used. -/
def cellsB (v : Bool) (n : Nat) (k : Int) (f : Nat → Bool) : Nat → List Value
  | 0 => []
  | j + 1 => if f j then cellsB v n k f j ++ cellB v n k j else cellsB v n k f j

theorem four_new7 (W : World) (x y z s : Value) (t : TypeId) : ∀ (j : Nat) (u : Value), [x, y, z, s][j]? = some u → (W.alloc (.cells #[x, y, z, s] t)).cell? ((⟨W.heap.size, 0, none⟩ : Addr).add j) = some u := by
  intro j u hj
  have e : ((⟨W.heap.size, 0, none⟩ : Addr).add j) = ⟨W.heap.size, j, none⟩ := by
    unfold Addr.add
    split <;> simp_all
  rw [e, (Blk.new W #[x, y, z, s] t).cell j]
  simpa using hj

set_option maxRecDepth 100000 in
set_option maxHeartbeats 3200000 in
theorem sused_c {v : Bool} {h l b k : Int} {x a g n N cu : Nat} {f : Nat → Bool} (O : SetOf v h l b k n N) (w : World) (P0 : SetAt w v h l b k x a g N f cu) :
    Calls Tryz.prog 38 #[.pointer (some ⟨x, 0, none⟩)] w fun e w' => ∃ sv, e = .returned sv ∧ w'.ownsRow w.heap.size 28 4 sv (cnt f N) (cellsB v n k f N) ∧ Below w.heap.size w w' := by
  have le := O.small
  have HT := hide (fun (j : Nat) (hj : j < N) w' hx => sblock_c (a := a) (x := x) (cu := (cu : Int)) O hj (num_parts7 (blk_ok O.cut O.num.lt (by rw [O.len]; exact hj)).2) w' hx)
  obtain ⟨i0, hi, hz0, hz1, hz2⟩ := info_parts infoPfx7
  have PH := hide P0
  have SZ := hide (ssize_c w P0)
  clear P0 O
  go_enter Tryz.func38, Tryz.ntmps38
  go_wp2_with fail
  refine SZ.out.mono ?_
  rintro e w1 ⟨rfl, rfl⟩
  clear SZ
  go_wp2_with fail
  go_loopw [3, 7] (fun u i wr => ∃ j : Nat, j ≤ N ∧ i = .int .i64 j ∧ Hid (wr.ownsRow w1.heap.size 28 4 u (cnt f j) (cellsB v n k f j)) ∧ Below w1.heap.size w1 wr) (fun _ i _ => N - (intOf i).toNat)
  case atStart => exact ⟨0, by omega, rfl, World.ownsRow_nil _ _ _ _, Below.refl _ _⟩
  case round =>
    obtain ⟨j, hj, rfl, hown, hb⟩ := hrel
    have hs := hb.size
    by_cases hlt : j < N
    · have hlt' : (j : Int) < N := by omega
      have P1 := hide (PH.out.below hb)
      obtain ⟨x0, x1, x2, x3, x4, x5, x6, xl⟩ := P1.out.hd.seven
      have HA := hide (bhas_ok a g N j f hlt wr P1.out.m)
      have cj : cnt f j ≤ j := cnt_le _ _
      cases hfj : f j
      · rw [hfj] at HA
        have e1 : Hid (cnt f (j + 1) = cnt f j ∧ cellsB v n k f (j + 1) = cellsB v n k f j) := by
          constructor
          · simp [cnt, hfj]
          · simp [cellsB, hfj]
        clear hfj P1
        go_wp2_with fail
        refine HA.out.mono ?_
        rintro e w3 ⟨rfl, hb3⟩
        have O3 := hide (own_below hown.out hb3)
        have B3 := hb.trans (hb3.mono hs)
        clear HA hown hb3 hb x0 x1 x2 x3 x4 x5 x6
        go_wp2
        go_roundw
        case rel => exact ⟨j + 1, by omega, by go_num, by rw [e1.out.1, e1.out.2]; exact O3, B3⟩
        case measure => simp [intOf]; omega
      · rw [hfj] at HA
        have e1 : Hid (cnt f (j + 1) = cnt f j + 1 ∧ cellsB v n k f (j + 1) = cellsB v n k f j ++ cellB v n k j) := by
          constructor
          · simp [cnt, hfj]
          · simp [cellsB, hfj]
        unfold cellB at e1
        obtain ⟨ah, hah⟩ : ∃ ah : Int, ((blkN v n k j / 18446744073709551616 : Nat) : Int) = ah := ⟨_, rfl⟩
        obtain ⟨al, hal⟩ : ∃ al : Int, ((blkN v n k j % 18446744073709551616 : Nat) : Int) = al := ⟨_, rfl⟩
        have HJ := HT.out j hlt
        rw [hah, hal] at e1 HJ
        have HJH := hide HJ
        clear hfj hah hal HJ
        go_wp2_with fail
        refine HA.out.mono ?_
        rintro e w3 ⟨rfl, hb3⟩
        have O3 := hide (own_below hown.out hb3)
        have B3 := hide (hb.trans (hb3.mono hs))
        have HOW := hide (HJH.out w3 (P1.out.below hb3).hd)
        clear HA hown hb3 hb hs HJH P1 x0 x1 x2 x3 x4 x5 x6
        go_wp2_with fail
        refine HOW.out.mono ?_
        rintro e w4 ⟨rfl, hb4⟩
        have O4 := hide (own_below O3.out hb4)
        have B4 := hide (B3.out.trans (hb4.mono B3.out.size))
        have hs4 : w1.heap.size ≤ w4.heap.size := B4.out.size
        have N4 := four_new7 w4 (.bool v) (.int .u64 ah) (.int .u64 al) (.int .i64 k) 28
        have hone : ∀ u ∈ [Value.bool v, .int .u64 ah, .int .u64 al, .int .i64 k], u.oneCell' = true := by
          intro u hu
          simp at hu
          rcases hu with rfl | rfl | rfl | rfl <;> rfl
        clear HOW O3 B3 hb4
        go_wp2_with (first | (at_builtin; refine wpList_append_own _ rfl _ _ 72 rfl w1.heap.size 28 i0 (.agg #[.bool false, .int .u64 0, .int .u64 0, .int .i64 0]) 4 32 Tryz.underlying72 hi hz0 hz1 hz2 rfl (by decide) _ _ _ rfl (O4.out.alloc _) ⟨w4.heap.size, 0, none⟩ 1 1 [.bool v, .int .u64 ah, .int .u64 al, .int .i64 k] rfl rfl N4 hone ?c3 ?c4 ?c5 ?_))
        case c3 => unfold maxLen; omega
        case c4 => omega
        case c5 => simp; omega
        intro v' w5 hown5 hgrow _
        have B5 : Below w1.heap.size w1 w5 := below_grown B4.out hs4 O4.out hgrow
        have O5 := hide hown5
        clear O4 B4 hown5 hgrow N4 hone
        go_wp2
        go_roundw
        case rel => exact ⟨j + 1, by omega, by go_num, by rw [e1.out.1, e1.out.2]; exact O5, B5⟩
        case measure => simp [intOf]; omega
    · obtain rfl : j = N := by omega
      have hlt' : ¬ (j : Int) < j := by omega
      have O6 := hide hown.out
      have B6 := hide hb
      clear hown hb hs
      go_wp2
      go_ret
      exact ⟨_, rfl, O6.out, B6.out⟩
end Go.Proofs.YtllidkflgjjkfaaGreatDoor

namespace Go.Proofs.YtllidkflgjjkfaaGreatDoor
open Go.ChangeShapes Go.WideShapes Go.ChangeAt Go.RowKit
set_option linter.unusedVariables false
set_option linter.unusedSimpArgs false

theorem Blks.but2 {W W' : World} {g x : Nat} (k : But [g, x] W.heap.size W W') : ∀ {L : List (Nat × List Value × TypeId)}, Off g L → Off x L → Blks W L → Blks W' L
  | [], _, _, _ => trivial
  | e :: r, o, o2, h => ⟨k.blk h.1 h.1.lt (by simp; exact ⟨o.1, o2.1⟩), Blks.but2 k o.2 o2.2 h.2⟩

/-- A set and the law's own blocks. -/
structure HSt (w : World) (L : List (Nat × List Value × TypeId)) (v : Bool) (h l b k : Int) (x a g N : Nat) (f : Nat → Bool) (c : Nat) (W : World) : Prop where
  kn : Kn w L W
  p : SetAt W v h l b k x a g N f c
  og : Off g L
  ox : Off x L
  hg : w.heap.size ≤ g
  hx : w.heap.size ≤ x

theorem HSt.below {w W W' : World} {L : List (Nat × List Value × TypeId)} {v : Bool} {h l b k : Int} {x a g N c : Nat} {f : Nat → Bool} (S : HSt w L v h l b k x a g N f c W) (q : Below W.heap.size W W') : HSt w L v h l b k x a g N f c W' :=
  ⟨S.kn.below q, S.p.below q, S.og, S.ox, S.hg, S.hx⟩

theorem but_to2 {w W W' : World} {g x : Nat} (q : But [g, x] W.heap.size W W') (b : Below w.heap.size w W) (hg : w.heap.size ≤ g) (hx : w.heap.size ≤ x) : Below w.heap.size w W' :=
  b.trans (But.below (q.mono b.size (fun y hy hl => by simp at hy; omega)))

theorem HSt.turn {w W W' : World} {L : List (Nat × List Value × TypeId)} {v : Bool} {h l b k : Int} {x a g N c c' : Nat} {f f' : Nat → Bool} (S : HSt w L v h l b k x a g N f c W) (P' : SetAt W' v h l b k x a g N f' c') (q : But [g, x] W.heap.size W W') : HSt w L v h l b k x a g N f' c' W' :=
  ⟨Kn.of (Blks.but2 q S.og S.ox S.kn.2.1) (but_to2 q S.kn.bel S.hg S.hx), P', S.og, S.ox, S.hg, S.hx⟩

theorem HSt.push {w W : World} {L : List (Nat × List Value × TypeId)} {v : Bool} {h l b k : Int} {x a g N c : Nat} {f : Nat → Bool} (S : HSt w L v h l b k x a g N f c W) (cs : List Value) (t : TypeId) : HSt w ((W.heap.size, cs, t) :: L) v h l b k x a g N f c (W.alloc (.cells cs.toArray t)) :=
  have bl : Below W.heap.size W (W.alloc (.cells cs.toArray t)) := by repeat (first | with_reducible exact Below.refl _ _ | with_reducible refine Below.drew ?_ | with_reducible refine Below.alloc ?_ (by first | omega | (simp <;> omega)) _ | with_reducible refine Below.setCell ?_ (by first | omega | (simp <;> omega)) _)
  ⟨S.kn.push rfl, S.p.below bl, ⟨by show W.heap.size ≠ g; have := S.p.lt; omega, S.og⟩, ⟨by show W.heap.size ≠ x; have := S.p.lt; omega, S.ox⟩, S.hg, S.hx⟩

theorem occ_h {w W : World} {L : List (Nat × List Value × TypeId)} {v u : Bool} {h l b k qh ql c : Int} {x a g n m N cu : Nat} {f f' : Nat → Bool} {C E : Int} (O : SetOf v h l b k n N) (hq : IsNum qh ql m) (hf : setO v n k N u m c true f = f') (hC : cntO f f' = C) (hE : qE v n b u m c = E) (S : HSt w L v h l b k x a g N f cu W) :
    Calls Tryz.prog 43 #[.pointer (some ⟨x, 0, none⟩), pv u qh ql c] W fun e W' => e = .returned (.tuple #[.int .i64 C, .int .i64 E]) ∧ HSt w L v h l b k x a g N f' cu W' := by
  subst hf hC hE
  refine (occ_c O hq rfl rfl rfl W S.p).mono ?_
  rintro e W' ⟨rfl, hP, hK⟩
  exact ⟨rfl, S.turn hP (hK.mono (Nat.le_refl _) (fun y hy _ => by simp at hy ⊢; exact Or.inl hy))⟩

theorem rel_h {w W : World} {L : List (Nat × List Value × TypeId)} {v u : Bool} {h l b k qh ql c : Int} {x a g n m N cu : Nat} {f f' : Nat → Bool} {C E : Int} (O : SetOf v h l b k n N) (hq : IsNum qh ql m) (hf : setO v n k N u m c false f = f') (hC : cntO f f' = C) (hE : qE v n b u m c = E) (S : HSt w L v h l b k x a g N f cu W) :
    Calls Tryz.prog 49 #[.pointer (some ⟨x, 0, none⟩), pv u qh ql c] W fun e W' => e = .returned (.tuple #[.int .i64 C, .int .i64 E]) ∧ HSt w L v h l b k x a g N f' cu W' := by
  subst hf hC hE
  refine (rel_c O hq rfl rfl rfl W S.p).mono ?_
  rintro e W' ⟨rfl, hP, hK⟩
  exact ⟨rfl, S.turn hP (hK.mono (Nat.le_refl _) (fun y hy _ => by simp at hy ⊢; exact Or.inl hy))⟩

theorem left_h {w W : World} {L : List (Nat × List Value × TypeId)} {v : Bool} {h l b k : Int} {x a g N cu : Nat} {f : Nat → Bool} {C : Int} (hC : (N : Int) - (cnt f N : Nat) = C) (S : HSt w L v h l b k x a g N f cu W) :
    Calls Tryz.prog 39 #[.pointer (some ⟨x, 0, none⟩)] W fun e W' => e = .returned (.int .i64 C) ∧ HSt w L v h l b k x a g N f cu W' := by
  refine (sleft_c hC W S.p).mono ?_
  rintro e W' ⟨rfl, hb⟩
  exact ⟨rfl, S.below hb⟩

theorem size_h {w W : World} {L : List (Nat × List Value × TypeId)} {v : Bool} {h l b k : Int} {x a g N cu : Nat} {f : Nat → Bool} (S : HSt w L v h l b k x a g N f cu W) :
    Calls Tryz.prog 40 #[.pointer (some ⟨x, 0, none⟩)] W fun e W' => e = .returned (.int .i64 N) ∧ HSt w L v h l b k x a g N f cu W' := by
  refine (ssize_c W S.p).mono ?_
  rintro e W' ⟨rfl, rfl⟩
  exact ⟨rfl, S⟩

theorem has_h {w W : World} {L : List (Nat × List Value × TypeId)} {v u : Bool} {h l b k qh ql c : Int} {x a g n m N cu : Nat} {f : Nat → Bool} {B : Bool} (O : SetOf v h l b k n N) (hq : IsNum qh ql m) (hB : B = true ↔ ∃ p, f p = true ∧ ovP v n k N u m c p = true) (S : HSt w L v h l b k x a g N f cu W) :
    Calls Tryz.prog 34 #[.pointer (some ⟨x, 0, none⟩), pv u qh ql c] W fun e W' => e = .returned (.bool B) ∧ HSt w L v h l b k x a g N f cu W' := by
  refine (shas_c O hq hB W S.p).mono ?_
  rintro e W' ⟨rfl, hb⟩
  exact ⟨rfl, S.below hb⟩

theorem next_h {w W : World} {L : List (Nat × List Value × TypeId)} {v : Bool} {h l b k rh rl : Int} {x a g n N cu i : Nat} {f : Nat → Bool} (O : SetOf v h l b k n N) (hT : TB w) (hi : nextF f N cu = some i) (hr : IsNum rh rl (blkN v n k i)) (S : HSt w L v h l b k x a g N f cu W) :
    Calls Tryz.prog 46 #[.pointer (some ⟨x, 0, none⟩)] W fun e W' => e = .returned (.tuple #[pv v rh rl k, .int .i64 0]) ∧ HSt w L v h l b k x a g N (upd f i true) ((i + 1) % N) W' := by
  refine (snext_ok O hi hr W (hT.below S.kn.bel) S.p).mono ?_
  rintro e W' ⟨rfl, hP, hK⟩
  exact ⟨rfl, S.turn hP hK⟩

theorem full_h {w W : World} {L : List (Nat × List Value × TypeId)} {v : Bool} {h l b k : Int} {x a g n N cu : Nat} {f : Nat → Bool} (O : SetOf v h l b k n N) (hT : TB w) (hi : nextF f N cu = none) (S : HSt w L v h l b k x a g N f cu W) :
    Calls Tryz.prog 46 #[.pointer (some ⟨x, 0, none⟩)] W fun e W' => e = .returned (.tuple #[pv false 0 0 0, .int .i64 9]) ∧ HSt w L v h l b k x a g N f cu W' := by
  refine (snext_full O hi W (hT.below S.kn.bel) S.p).mono ?_
  rintro e W' ⟨rfl, hb⟩
  exact ⟨rfl, S.below hb⟩
end Go.Proofs.YtllidkflgjjkfaaGreatDoor

namespace Go.Proofs.YtllidkflgjjkfaaGreatDoor
open Go.ChangeShapes Go.WideShapes Go.ChangeAt Go.RowKit
set_option linter.unusedVariables false
set_option linter.unusedSimpArgs false

theorem parse7_a : parsePF [49, 48, 46, 48, 46, 48, 46, 48, 47, 56] = some (false, 167772160, 8) := by decide +kernel

theorem parse7_b : parsePF [49, 48, 46, 48, 46, 48, 46, 48, 47, 49, 53] = some (false, 167772160, 15) := by decide +kernel

theorem print7_ex : prP false 167903232 16 = ⟨#[49, 48, 46, 50, 46, 48, 46, 48, 47, 49, 54]⟩ := by decide +kernel

theorem cut7_ex : cutB false 167772160 8 16 = true := by decide +kernel

theorem over7_ex : okP false 167772160 15 = true ∧ overB false 167772160 8 false 167772160 15 = true ∧ spA false 167772160 8 16 167772160 15 = 0 ∧ spZ false 167772160 8 16 167772160 15 = 1 ∧ blkN false 167772160 16 2 = 167903232 := by decide +kernel

theorem next7_ex : nextF (rowF 0 1) 256 0 = some 2 := by decide +kernel

set_option maxRecDepth 100000 in
set_option maxHeartbeats 3200000 in
theorem awake7_c (w : World) (hL : LW w) (hT : TB w) : Calls Tryz.prog 27 #[] w fun e w' => e = .returned (.bool true) ∧ Below w.heap.size w w' := by
  have hz := hL.sz
  have Lx : Hid (∀ W, Below w.heap.size w W → LW W) := fun W hb => hL.of hb hz
  have n0 : IsNum 0 167772160 167772160 := ⟨by omega, by omega, by omega, by omega, rfl⟩
  have n2 : IsNum 0 167903232 167903232 := ⟨by omega, by omega, by omega, by omega, rfl⟩
  have O : SetOf false 0 167772160 8 16 167772160 256 := ⟨n0, cut7_ex, by decide, by decide⟩
  obtain ⟨q1, q2, q3, q4, q5⟩ := over7_ex
  have P1 : Hid (∀ w', LW w' → Calls Tryz.prog 51 #[.string ⟨#[49, 48, 46, 48, 46, 48, 46, 48, 47, 56]⟩] w' fun e w1 => e = .returned (.tuple #[pv false 0 167772160 8, .int .i64 0]) ∧ Below w'.heap.size w' w1) := fun w' h => pparse_is _ (by decide) (Or.inl ⟨167772160, 8, parse7_a, n0, rfl, rfl⟩) w' h
  have P2 : Hid (∀ w', LW w' → Calls Tryz.prog 51 #[.string ⟨#[49, 48, 46, 48, 46, 48, 46, 48, 47, 49, 53]⟩] w' fun e w1 => e = .returned (.tuple #[pv false 0 167772160 15, .int .i64 0]) ∧ Below w'.heap.size w' w1) := fun w' h => pparse_is _ (by decide) (Or.inl ⟨167772160, 15, parse7_b, n0, rfl, rfl⟩) w' h
  have NW := hide (fun w' => snew_c O w')
  have hf : setO false 167772160 16 256 false 167772160 15 true (fun _ => false) = rowF 0 1 := by
    rw [setO_row cut7_ex (by decide) q1 q2 n0.lt n0.lt, q3, q4]
    exact funext (rowF_is 0 1)
  have hC : cntO (fun _ => false) (rowF 0 1) = 2 := by
    have := cnt_fill (A := 0) (B := 1) (by decide) (by decide)
    rw [funext (rowF_is 0 1)] at this
    exact this
  have hE : qE false 167772160 8 false 167772160 15 = 0 := by unfold qE; rw [q1, q2]; rfl
  have OC := hide (fun x a g L W (S : HSt w L false 0 167772160 8 16 x a g 256 (fun _ => false) 0 W) => occ_h O n0 hf hC hE S)
  have NX := hide (fun x a g L W (S : HSt w L false 0 167772160 8 16 x a g 256 (rowF 0 1) 0 W) => next_h O hT next7_ex (n2.cast q5.symm) S)
  have T1 : Hid (∀ w', LW w' → Calls Tryz.prog 73 #[pv false 0 167903232 16] w' fun e w1 => e = .returned (.string ⟨#[49, 48, 46, 50, 46, 48, 46, 48, 47, 49, 54]⟩) ∧ Below w'.heap.size w' w1) := fun w' h => print7_ex ▸ pprint_c n2 w' h
  clear n0 n2 hL hT O q1 q2 q3 q4 q5 hf hC hE
  go_enter Tryz.func27, Tryz.ntmps27
  go_wp2_with fail
  refine (P1.out _ (Lx.out _ (by repeat (first | with_reducible exact Below.refl _ _ | with_reducible refine Below.drew ?_ | with_reducible refine Below.alloc ?_ (by first | omega | (simp <;> omega)) _ | with_reducible refine Below.setCell ?_ (by first | omega | (simp <;> omega)) _)))).mono ?_
  rintro e w1 ⟨rfl, hb⟩
  have K := hide ((Kn.of (w := w) (W := w1) (L := []) trivial hb).push (b := w1.heap.size) (cs := [.bool false, .int .u64 0, .int .u64 167772160, .int .i64 8]) (t := 28) rfl)
  have F := K.out.1
  simp only [Facts, CellsAt] at F
  clear P1 hb
  go_wp2_with fail
  refine (P2.out _ (Lx.out _ K.out.bel)).mono ?_
  rintro e w2 ⟨rfl, hb⟩
  have K2 := hide ((K.out.below hb).push (b := w2.heap.size) (cs := [.bool false, .int .u64 0, .int .u64 167772160, .int .i64 15]) (t := 28) rfl)
  have F2 := K2.out.1
  simp only [Facts, CellsAt] at F2
  clear P2 hb K F
  go_wp2_with fail
  refine (NW.out _).mono ?_
  rintro e w3 ⟨x, a, g, rfl, hP, hb, hx, hg, ha⟩
  have S3 : Hid (HSt w [(w2.heap.size, [.bool false, .int .u64 0, .int .u64 167772160, .int .i64 15], 28), (w1.heap.size, [.bool false, .int .u64 0, .int .u64 167772160, .int .i64 8], 28)] false 0 167772160 8 16 x a g 256 (fun _ => false) 0 w3) := by
    have l1 := K2.out.lts
    have l2 := K2.out.bel.size
    simp only [Lts] at l1
    exact ⟨K2.out.below hb, hP, ⟨by show w2.heap.size ≠ g; omega, by show w1.heap.size ≠ g; omega, trivial⟩, ⟨by show w2.heap.size ≠ x; omega, by show w1.heap.size ≠ x; omega, trivial⟩, by omega, by omega⟩
  have F3 := S3.out.kn.1
  simp only [Facts, CellsAt] at F3
  clear NW hP hb hx hg ha K2 F2
  go_wp2_with fail
  refine (OC.out _ _ _ _ _ S3.out).mono ?_
  rintro e w4 ⟨rfl, hS⟩
  have S4 := hide hS
  have F4 := S4.out.kn.1
  simp only [Facts, CellsAt] at F4
  clear OC hS S3 F3
  go_wp2_with fail
  refine (NX.out _ _ _ _ _ S4.out).mono ?_
  rintro e w5 ⟨rfl, hS⟩
  have S5 := hide (hS.push [.bool false, .int .u64 0, .int .u64 167903232, .int .i64 16] 28)
  have F5 := S5.out.kn.1
  simp only [Facts, CellsAt] at F5
  clear NX hS S4 F4
  go_wp2_with fail
  refine (T1.out _ (Lx.out _ S5.out.kn.bel)).mono ?_
  rintro e w6 ⟨rfl, hb⟩
  have B6 := (S5.out.kn.below hb).bel
  clear hb T1 S5 F5
  go_wp2
  go_ret
  exact ⟨by first | rfl | simp, B6⟩
end Go.Proofs.YtllidkflgjjkfaaGreatDoor

namespace Go.Proofs.YtllidkflgjjkfaaGreatDoor
open Go.ChangeShapes Go.WideShapes Go.ChangeAt Go.RowKit
set_option linter.unusedVariables false
set_option linter.unusedSimpArgs false

set_option maxRecDepth 100000 in
set_option maxHeartbeats 3200000 in
theorem bnil_walk (u : Bool) (qh ql c : Int) (w : World) (hL : LW w) (hT : TB w) : Calls Tryz.prog 8 #[pv u qh ql c] w fun e w' => e = .returned (.bool true) ∧ Below w.heap.size w w' := by
  have hz := hL.sz
  have K := pfx_start7 w u qh ql c
  have AW := hide (awake7_c _ (hL.of K.bel hz) (hT.below K.bel))
  have KH := hide K
  clear hL hT K hz
  go_enter Tryz.func8, Tryz.ntmps8
  go_wp2_with fail
  refine AW.out.mono ?_
  rintro e w0 ⟨rfl, hb⟩
  have K := KH.out.below hb
  have F := K.1
  simp only [Facts, CellsAt] at F
  replace KH := hide K
  clear hb AW K
  go_wp2_with fail
  refine (snext_nil _).mono ?_
  rintro e w1 ⟨rfl, hb⟩
  have K := (KH.out.below hb).push (b := w1.heap.size) (cs := [.bool false, .int .u64 0, .int .u64 0, .int .i64 0]) (t := 28) rfl
  have F1 := K.1
  simp only [Facts, CellsAt] at F1
  have KH1 := hide K
  clear hb KH K F
  go_wp2_with fail
  refine (occ_nil u qh ql c _).mono ?_
  rintro e w2 ⟨rfl, hb⟩
  have K := KH1.out.below hb
  have F2 := K.1
  simp only [Facts, CellsAt] at F2
  have KH2 := hide K
  clear hb KH1 K F1
  go_wp2_with fail
  refine (rel_nil u qh ql c _).mono ?_
  rintro e w3 ⟨rfl, hb⟩
  have K := KH2.out.below hb
  have F3 := K.1
  simp only [Facts, CellsAt] at F3
  have KH3 := hide K
  clear hb KH2 K F2
  go_wp2_with fail
  refine (shas_nil u qh ql c _).mono ?_
  rintro e w4 ⟨rfl, hb⟩
  have K := KH3.out.below hb
  have F4 := K.1
  simp only [Facts, CellsAt] at F4
  have KH4 := hide K
  clear hb KH3 K F3
  go_wp2_with fail
  refine (ssize_nil _).mono ?_
  rintro e w4b ⟨rfl, hw⟩
  subst hw
  go_wp2_with fail
  refine (sleft_nil _).mono ?_
  rintro e w6 ⟨rfl, hb⟩
  have K := KH4.out.below hb
  have F6 := K.1
  simp only [Facts, CellsAt] at F6
  have KH6 := hide K
  clear hb KH4 K F4
  go_wp2_with fail
  refine (sbits_nil _).mono ?_
  rintro e w6b ⟨rfl, hw⟩
  subst hw
  go_wp2_with fail
  refine (sused_nil _).mono ?_
  rintro e w7 ⟨rfl, hb⟩
  have K := KH6.out.below hb
  have F7 := K.1
  simp only [Facts, CellsAt] at F7
  have KH7 := hide K
  clear hb KH6 K F6
  go_wp2_with fail
  refine (scopy_nil _).mono ?_
  rintro e w8 ⟨rfl, hb⟩
  have K := KH7.out.below hb
  have F8 := K.1
  simp only [Facts, CellsAt] at F8
  have KH8 := hide K
  clear hb KH7 K F7
  go_wp2_with fail
  refine (sprefix_nil _).mono ?_
  rintro e w10 ⟨rfl, hb⟩
  have K := KH8.out.below hb
  have F10 := K.1
  simp only [Facts, CellsAt] at F10
  have KH10 := hide K
  clear hb KH8 K F8
  have B := KH10.out.bel
  go_wp2
  go_ret
  exact ⟨by first | rfl | simp, B⟩
end Go.Proofs.YtllidkflgjjkfaaGreatDoor

namespace Go.Proofs.YtllidkflgjjkfaaGreatDoor
open Go.RowKit
set_option linter.unusedVariables false
set_option linter.unusedSimpArgs false

theorem cnt_put7 {f : Nat → Bool} {n p : Nat} (hp : p < n) (hf : f p = false) : cnt (upd f p true) n = cnt f n + 1 := by
  have e : n = p + (1 + (n - p - 1)) := by omega
  rw [e, cnt_add, cnt_add, cnt_add f, cnt_add]
  have e1 : cnt (upd f p true) p = cnt f p := cnt_congr (fun k hk => by unfold upd; rw [if_neg (by omega)])
  have e2 : cnt (fun j => upd f p true (p + j)) 1 = 1 := by simp [cnt, upd]
  have e3 : cnt (fun j => f (p + j)) 1 = 0 := by simp [cnt, hf]
  have e4 : cnt (fun j => upd f p true (p + (1 + j))) (n - p - 1) = cnt (fun j => f (p + (1 + j))) (n - p - 1) := cnt_congr (fun k hk => by unfold upd; rw [if_neg (by omega)])
  rw [e1, e2, e3, e4]
  omega

theorem great7 {A Z N : Nat} (hAZ : A ≤ Z) (hZ : Z < N) : (A = 0 ∧ Z + 1 = N ∧ nextF (rowF A Z) N 0 = none) ∨ ∃ i, i < N ∧ (i < A ∨ Z < i) ∧ nextF (rowF A Z) N 0 = some i := by
  by_cases hA : A = 0
  · by_cases hZN : Z + 1 = N
    · refine Or.inl ⟨hA, hZN, nextF_full (by omega) (fun j hj => ?_)⟩
      rw [Nat.zero_add, Nat.mod_eq_of_lt hj]
      exact decide_eq_true (by omega)
    · refine Or.inr ⟨Z + 1, by omega, Or.inr (by omega), nextF_round (k := Z + 1) (by omega) (by omega) (by rw [Nat.zero_add, Nat.mod_eq_of_lt (by omega)]) (fun j hj => ?_) (decide_eq_false (by omega))⟩
      rw [Nat.zero_add, Nat.mod_eq_of_lt (by omega)]
      exact decide_eq_true (by omega)
  · exact Or.inr ⟨0, by omega, Or.inl (by omega), nextF_round (k := 0) (by omega) (by omega) (by rw [Nat.zero_add, Nat.zero_mod]) (fun j hj => absurd hj (by omega)) (decide_eq_false (by omega))⟩

/-- How many a row that is all ones has. -/
theorem cntO_row {f : Nat → Bool} {A Z : Nat} (hAZ : A ≤ Z) (hZ : Z < 65536) (h : ∀ p, A ≤ p → p ≤ Z → f p = true) : cntO f (rowB A Z false f) = (Z : Int) - A + 1 := by
  unfold cntO
  have e : cnt (fun p => f p != rowB A Z false f p) 65536 = cnt (fun p => decide (A ≤ p ∧ p ≤ Z)) 65536 := cnt_congr (fun p _ => by
    unfold rowB
    by_cases c : A ≤ p ∧ p ≤ Z
    · rw [if_pos c, h p c.1 c.2, decide_eq_true c]; rfl
    · rw [if_neg c, decide_eq_false c]; simp)
  rw [e, cnt_row]
  omega

theorem cntO_fill {A Z : Nat} (hAZ : A ≤ Z) (hZ : Z < 65536) : cntO (fun _ => false) (rowB A Z true (fun _ => false)) = (Z : Int) - A + 1 := cnt_fill hAZ hZ

/-- What BlocksGreat asks, where what is occupied overlaps the set's prefix. -/
structure GNum (v : Bool) (n : Nat) (b k : Int) (N m : Nat) (c : Int) (C : Int) (f1 f2 f3 : Nat → Bool) : Prop where
  c0 : cntO (fun _ => false) f1 = C
  c1 : 1 ≤ C ∧ C ≤ N
  s1 : setO v n k N v m c true (fun _ => false) = f1
  l1 : ((N : Nat) : Int) - (cnt f1 N : Nat) = N - C
  hq : ∃ p, f1 p = true ∧ ovP v n k N v m c p = true
  hp : ∃ p, f1 p = true ∧ ovP v n k N v n b p = true
  s3 : setO v n k N v m c false f2 = f3
  c3 : cntO f2 f3 = C
  h3 : ¬ ∃ p, f3 p = true ∧ ovP v n k N v m c p = true

theorem gnum {v : Bool} {n m N : Nat} {b c k : Int} (hc : cutB v n b k = true) (hN : 2 ^ (k - b).toNat = N) (h6 : N ≤ 65536) (hq : okP v m c = true) (ho : overB v n b v m c = true) (hn : n < 340282366920938463463374607431768211456) (hm : m < 340282366920938463463374607431768211456) :
    ∃ (C : Int) (f1 : Nat → Bool), (nextF f1 N 0 = none ∧ C = N ∧ ∃ f3, GNum v n b k N m c C f1 f1 f3) ∨ (∃ i, i < N ∧ f1 i = false ∧ nextF f1 N 0 = some i ∧ overB v (blkN v n k i) k v m c = false ∧ ((N : Nat) : Int) - (cnt (upd f1 i true) N : Nat) = N - C - 1 ∧ ∃ f3, GNum v n b k N m c C f1 (upd f1 i true) f3) := by
  obtain ⟨s1, s2, s3⟩ := sp_facts hc hq ho hn hm
  have er := ovP_row hc hN hq ho hn hm
  obtain ⟨wo, w0, w1⟩ := sp_whole hc hn
  have ew := ovP_row hc hN (cutB_parts hc).1 wo hn hn
  rw [hN] at s2 s3 w1
  obtain ⟨A, hA⟩ : ∃ A, spA v n b k m c = A := ⟨_, rfl⟩
  obtain ⟨Z, hZ⟩ : ∃ Z, spZ v n b k m c = Z := ⟨_, rfl⟩
  have st (t : Bool) (f : Nat → Bool) : setO v n k N v m c t f = rowB A Z t f := by rw [setO_row hc hN hq ho hn hm, hA, hZ]
  rw [hA, hZ] at s1 s3 er
  rw [hZ] at s2
  rw [w0] at ew
  have e1 : rowB A Z true (fun _ => false) = rowF A Z := funext (rowF_is A Z)
  have ra : rowF A Z A = true := decide_eq_true ⟨Nat.le_refl _, s1⟩
  have big (f2 : Nat → Bool) (h2 : ∀ p, A ≤ p → p ≤ Z → f2 p = true) : GNum v n b k N m c ((Z : Int) - A + 1) (rowF A Z) f2 (rowB A Z false f2) := by
    refine ⟨?_, by omega, ?_, ?_, ⟨A, ra, ?_⟩, ⟨A, ra, ?_⟩, st false f2, cntO_row s1 (by omega) h2, ?_⟩
    · rw [← e1]; exact cntO_fill s1 (by omega)
    · rw [st, e1]
    · rw [cnt_rowF s1 s2]
    · rw [er]; exact ra
    · rw [ew]; exact decide_eq_true (by omega)
    · rintro ⟨p, h4, h5⟩
      rw [er] at h5
      have h6 : A ≤ p ∧ p ≤ Z := of_decide_eq_true h5
      unfold rowB at h4
      rw [if_pos h6] at h4
      cases h4
  refine ⟨(Z : Int) - A + 1, rowF A Z, ?_⟩
  have r1 : ∀ p, A ≤ p → p ≤ Z → rowF A Z p = true := fun p h1 h2 => decide_eq_true ⟨h1, h2⟩
  rcases great7 s1 s2 with ⟨g1, g2, g3⟩ | ⟨i, g1, g2, g3⟩
  · exact Or.inl ⟨g3, by omega, _, big _ r1⟩
  · have fi : rowF A Z i = false := decide_eq_false (by omega)
    refine Or.inr ⟨i, g1, fi, g3, ?_, ?_, _, big _ (fun p h1 h2 => ?_)⟩
    · rw [s3 i g1]
      by_cases c1 : A ≤ i
      · rw [decide_eq_false (show ¬ i ≤ Z by omega), Bool.and_false]
      · rw [decide_eq_false c1, Bool.false_and]
    · have := cnt_put7 (f := rowF A Z) g1 fi
      have := cnt_rowF s1 s2
      omega
    · unfold upd
      rw [if_neg (by omega)]
      exact r1 p h1 h2
end Go.Proofs.YtllidkflgjjkfaaGreatDoor

namespace Go.Proofs.YtllidkflgjjkfaaGreatDoor
open Go.ChangeShapes Go.WideShapes Go.ChangeAt Go.RowKit
set_option linter.unusedVariables false
set_option linter.unusedSimpArgs false

theorem bg_start (w : World) (v : Bool) (h l b : Int) (u : Bool) (qh ql c : Int) : Kn w [(w.heap.size + 1, [.bool u, .int .u64 qh, .int .u64 ql, .int .i64 c], 28), (w.heap.size, [.bool v, .int .u64 h, .int .u64 l, .int .i64 b], 28)] ((w.alloc (.cells #[.bool v, .int .u64 h, .int .u64 l, .int .i64 b] 28)).alloc (.cells #[.bool u, .int .u64 qh, .int .u64 ql, .int .i64 c] 28)) :=
  ((Kn.nil w).push rfl).push (by simp)

set_option maxRecDepth 100000 in
set_option maxHeartbeats 1600000 in
theorem bgreat_arg {v u : Bool} {h l b k qh ql c : Int} {n m : Nat} (hp : IsNum h l n) (hc : cutB v n b k = false) (w : World) (hL : LW w) (hT : TB w) :
    Calls Tryz.prog 5 #[pv v h l b, .int .i64 k, pv u qh ql c] w fun e w' => e = .returned (.bool true) ∧ Below w.heap.size w w' := by
  have hz := hL.sz
  have K := bg_start w v h l b u qh ql c
  have AW := hide (awake7_c _ (hL.of K.bel hz) (hT.below K.bel))
  have NW := hide (fun w' => snew_arg hp hc w')
  have CU := hide (fun w' => rcuts_c (v := v) (b := b) (k := k) hp w')
  rw [hc] at CU
  have KH := hide K
  clear hL hT hz hp K
  go_enter Tryz.func5, Tryz.ntmps5
  go_wp2_with fail
  refine AW.out.mono ?_
  rintro e w0 ⟨rfl, hb⟩
  have K0 := hide (KH.out.below hb)
  have F := K0.out.1
  simp only [Facts, CellsAt] at F
  clear AW hb KH
  go_wp2_with fail
  refine (NW.out _).mono ?_
  rintro e w1 ⟨rfl, hb⟩
  have K1 := hide (K0.out.below hb)
  have F1 := K1.out.1
  simp only [Facts, CellsAt] at F1
  clear NW hb K0 F
  go_wp2_with fail
  refine (CU.out _).mono ?_
  rintro e w2 ⟨rfl, hb⟩
  have B2 := (K1.out.below hb).bel
  clear CU hb K1 F1
  go_wp2
  go_ret
  exact ⟨by first | rfl | simp, B2⟩

set_option maxRecDepth 100000 in
set_option maxHeartbeats 1600000 in
theorem bgreat_long {v u : Bool} {h l b k qh ql c : Int} {n m : Nat} (hp : IsNum h l n) (hc : cutB v n b k = true) (hk : 16 < (k - b).toNat) (w : World) (hL : LW w) (hT : TB w) :
    Calls Tryz.prog 5 #[pv v h l b, .int .i64 k, pv u qh ql c] w fun e w' => e = .returned (.bool true) ∧ Below w.heap.size w w' := by
  have hz := hL.sz
  have K := bg_start w v h l b u qh ql c
  have AW := hide (awake7_c _ (hL.of K.bel hz) (hT.below K.bel))
  have NW := hide (fun w' => snew_long hp hc hk w')
  have CU := hide (fun w' => rcuts_c (v := v) (b := b) (k := k) hp w')
  rw [hc] at CU
  have KH := hide K
  clear hL hT hz hp K
  go_enter Tryz.func5, Tryz.ntmps5
  go_wp2_with fail
  refine AW.out.mono ?_
  rintro e w0 ⟨rfl, hb⟩
  have K0 := hide (KH.out.below hb)
  have F := K0.out.1
  simp only [Facts, CellsAt] at F
  clear AW hb KH
  go_wp2_with fail
  refine (NW.out _).mono ?_
  rintro e w1 ⟨rfl, hb⟩
  have K1 := hide (K0.out.below hb)
  have F1 := K1.out.1
  simp only [Facts, CellsAt] at F1
  clear NW hb K0 F
  go_wp2_with fail
  refine (CU.out _).mono ?_
  rintro e w2 ⟨rfl, hb⟩
  have B2 := (K1.out.below hb).bel
  clear CU hb K1 F1
  go_wp2
  go_ret
  exact ⟨by first | rfl | simp, B2⟩

theorem cnt_zero7 (N : Nat) : (N : Int) - (cnt (fun _ => false) N : Nat) = N := by rw [cnt_zero (fun _ _ => rfl)]; simp

set_option maxRecDepth 100000 in
set_option maxHeartbeats 3200000 in
theorem bgreat_no {v u : Bool} {h l b k qh ql c : Int} {n m N : Nat} (O : SetOf v h l b k n N) (hq : IsNum qh ql m) (hno : okP u m c = false ∨ (okP u m c = true ∧ overB v n b u m c = false)) (w : World) (hL : LW w) (hT : TB w) :
    Calls Tryz.prog 5 #[pv v h l b, .int .i64 k, pv u qh ql c] w fun e w' => e = .returned (.bool true) ∧ Below w.heap.size w w' := by
  have hz := hL.sz
  have K := bg_start w v h l b u qh ql c
  have AW := hide (awake7_c _ (hL.of K.bel hz) (hT.below K.bel))
  have NW := hide (fun w' => snew_c O w')
  have hno2 : okP u m c = false ∨ overB v n b u m c = false := hno.elim Or.inl (fun q => Or.inr q.2)
  have OC := hide (fun x a g L W E (hE : qE v n b u m c = E) (S : HSt w L v h l b k x a g N (fun _ => false) 0 W) => occ_h O hq (setO_none O.cut O.len O.num.lt hq.lt hno2) (cntO_same _) hE S)
  have RT := hide (fun w' => rpright_c (v := u) (b := c) hq w')
  have OV := hide (fun w' => rover_c (v := v) (u := u) (b := b) (c := c) O.num hq w')
  have LF := hide (fun x a g L W (S : HSt w L v h l b k x a g N (fun _ => false) 0 W) => left_h (cnt_zero7 N) S)
  have SZ := hide (fun x a g L W (S : HSt w L v h l b k x a g N (fun _ => false) 0 W) => size_h S)
  have KH := hide K
  clear hL hT hz O hq hno2 K
  go_enter Tryz.func5, Tryz.ntmps5
  go_wp2_with fail
  refine AW.out.mono ?_
  rintro e w0 ⟨rfl, hb⟩
  have K0 := hide (KH.out.below hb)
  have F := K0.out.1
  simp only [Facts, CellsAt] at F
  clear AW hb KH
  go_wp2_with fail
  refine (NW.out _).mono ?_
  rintro e w1 ⟨x, a, g, rfl, hP, hb, hx, hg, ha⟩
  have S1 : Hid (HSt w [(w.heap.size + 1, [.bool u, .int .u64 qh, .int .u64 ql, .int .i64 c], 28), (w.heap.size, [.bool v, .int .u64 h, .int .u64 l, .int .i64 b], 28)] v h l b k x a g N (fun _ => false) 0 w1) := by
    have l1 := K0.out.lts
    have l2 := K0.out.bel.size
    simp only [Lts] at l1
    exact ⟨K0.out.below hb, hP, ⟨by show w.heap.size + 1 ≠ g; omega, by show w.heap.size ≠ g; omega, trivial⟩, ⟨by show w.heap.size + 1 ≠ x; omega, by show w.heap.size ≠ x; omega, trivial⟩, by omega, by omega⟩
  have F1 := S1.out.kn.1
  simp only [Facts, CellsAt] at F1
  clear NW hP hb hx hg ha K0 F
  rcases hno with h1 | ⟨h1, h2⟩
  · have O1 := hide (OC.out x a g _ w1 1 (by unfold qE; rw [h1]; rfl) S1.out)
    rw [h1] at RT
    clear OC OV LF SZ h1
    go_wp2_with fail
    refine O1.out.mono ?_
    rintro e w2 ⟨rfl, hS⟩
    have S2 := hide hS
    have F2 := S2.out.kn.1
    simp only [Facts, CellsAt] at F2
    clear O1 hS S1 F1
    go_wp2_with fail
    refine (RT.out _).mono ?_
    rintro e w3 ⟨rfl, hb⟩
    have B3 := (S2.out.below hb).kn.bel
    clear RT hb S2 F2
    go_wp2
    go_ret
    exact ⟨by first | rfl | simp, B3⟩
  · have O1 := hide (OC.out x a g _ w1 12 (by unfold qE; rw [h1, h2]; rfl) S1.out)
    rw [h1] at RT
    rw [h2] at OV
    clear OC h1 h2
    go_wp2_with fail
    refine O1.out.mono ?_
    rintro e w2 ⟨rfl, hS⟩
    have S2 := hide hS
    have F2 := S2.out.kn.1
    simp only [Facts, CellsAt] at F2
    clear O1 hS S1 F1
    go_wp2_with fail
    refine (RT.out _).mono ?_
    rintro e w3 ⟨rfl, hb⟩
    have S3 := hide (S2.out.below hb)
    have F3 := S3.out.kn.1
    simp only [Facts, CellsAt] at F3
    clear RT hb S2 F2
    go_wp2_with fail
    refine (OV.out _).mono ?_
    rintro e w4 ⟨rfl, hb⟩
    have S4 := hide (S3.out.below hb)
    have F4 := S4.out.kn.1
    simp only [Facts, CellsAt] at F4
    clear OV hb S3 F3
    go_wp2_with fail
    refine (LF.out _ _ _ _ _ S4.out).mono ?_
    rintro e w5 ⟨rfl, hS⟩
    have S5 := hide hS
    have F5 := S5.out.kn.1
    simp only [Facts, CellsAt] at F5
    clear LF hS S4 F4
    go_wp2_with fail
    refine (SZ.out _ _ _ _ _ S5.out).mono ?_
    rintro e w6 ⟨rfl, hS⟩
    have B6 := hS.kn.bel
    clear SZ hS S5 F5
    go_wp2
    go_ret
    exact ⟨by first | rfl | simp, B6⟩

set_option maxRecDepth 100000 in
set_option maxHeartbeats 6400000 in
theorem bgreat_some {v : Bool} {h l b k qh ql c C : Int} {n m N i : Nat} {f1 f3 : Nat → Bool} (O : SetOf v h l b k n N) (hq : IsNum qh ql m) (h1 : okP v m c = true) (h2 : overB v n b v m c = true) (hi : i < N) (hnx : nextF f1 N 0 = some i) (hov : overB v (blkN v n k i) k v m c = false) (hl2 : ((N : Nat) : Int) - (cnt (upd f1 i true) N : Nat) = N - C - 1) (G : GNum v n b k N m c C f1 (upd f1 i true) f3) (w : World) (hL : LW w) (hT : TB w) :
    Calls Tryz.prog 5 #[pv v h l b, .int .i64 k, pv v qh ql c] w fun e w' => e = .returned (.bool true) ∧ Below w.heap.size w w' := by
  have hz := hL.sz
  have K := bg_start w v h l b v qh ql c
  have AW := hide (awake7_c _ (hL.of K.bel hz) (hT.below K.bel))
  have NW := hide (fun w' => snew_c O w')
  have hE : qE v n b v m c = 0 := by unfold qE; rw [h1, h2]; rfl
  have OC := hide (fun x a g L W (S : HSt w L v h l b k x a g N (fun _ => false) 0 W) => occ_h O hq G.s1 G.c0 hE S)
  have RT := hide (fun w' => rpright_c (v := v) (b := c) hq w')
  have OV := hide (fun w' => rover_c (v := v) (u := v) (b := b) (c := c) O.num hq w')
  rw [h1] at RT
  rw [h2] at OV
  have LF := hide (fun x a g L W (S : HSt w L v h l b k x a g N f1 0 W) => left_h G.l1 S)
  have SZ := hide (fun x a g L f cu W (S : HSt w L v h l b k x a g N f cu W) => size_h S)
  have HQ := hide (fun x a g L W (S : HSt w L v h l b k x a g N f1 0 W) => has_h (B := true) O hq (iff_of_true rfl G.hq) S)
  have HP := hide (fun x a g L W (S : HSt w L v h l b k x a g N f1 0 W) => has_h (B := true) O O.num (iff_of_true rfl G.hp) S)
  have RL := hide (fun x a g L W (S : HSt w L v h l b k x a g N (upd f1 i true) ((i + 1) % N) W) => rel_h O hq G.s3 G.c3 hE S)
  have HN := hide (fun x a g L W (S : HSt w L v h l b k x a g N f3 ((i + 1) % N) W) => has_h (B := false) O hq (iff_of_false (by decide) G.h3) S)
  obtain ⟨C0, C1⟩ := G.c1
  have le := O.small
  have wr1 : IntKind.i64.wrap ((N : Int) - C) = N - C := by simp [IntKind.wrap, IntKind.bits, IntKind.signed]; omega
  have wr2 : IntKind.i64.wrap ((N : Int) - C - 1) = N - C - 1 := by simp [IntKind.wrap, IntKind.bits, IntKind.signed]; omega
  have c9 : ¬ C < 1 := by omega
  obtain ⟨rh, rl, hr⟩ := IsNum.ex (n := blkN v n k i) (blk_ok O.cut O.num.lt (by rw [O.len]; exact hi)).2
  have NX := hide (fun x a g L W (S : HSt w L v h l b k x a g N f1 0 W) => next_h O hT hnx hr S)
  have PO := hide (fun w' => over_c (v := v) (u := v) (b := k) (c := c) hr hq w')
  rw [hov] at PO
  have PW := hide (fun w' => within_c (v := v) (u := v) (b := k) (c := b) hr O.num w')
  rw [blk_within O.cut O.num.lt (by rw [O.len]; exact hi)] at PW
  have L2 := hide (fun x a g L W (S : HSt w L v h l b k x a g N (upd f1 i true) ((i + 1) % N) W) => left_h hl2 S)
  clear hr hi hnx hov hl2 hT O
  have KH := hide K
  clear hL hz hq h1 h2 hE K G le C0 C1
  go_enter Tryz.func5, Tryz.ntmps5
  go_wp2_with fail
  refine AW.out.mono ?_
  rintro e w0 ⟨rfl, hb⟩
  have K0 := hide (KH.out.below hb)
  have F := K0.out.1
  simp only [Facts, CellsAt] at F
  clear AW hb KH
  go_wp2_with fail
  refine (NW.out _).mono ?_
  rintro e w1 ⟨x, a, g, rfl, hP, hb, hx, hg, ha⟩
  have S1 : Hid (HSt w [(w.heap.size + 1, [.bool v, .int .u64 qh, .int .u64 ql, .int .i64 c], 28), (w.heap.size, [.bool v, .int .u64 h, .int .u64 l, .int .i64 b], 28)] v h l b k x a g N (fun _ => false) 0 w1) := by
    have l1 := K0.out.lts
    have l2 := K0.out.bel.size
    simp only [Lts] at l1
    exact ⟨K0.out.below hb, hP, ⟨by show w.heap.size + 1 ≠ g; omega, by show w.heap.size ≠ g; omega, trivial⟩, ⟨by show w.heap.size + 1 ≠ x; omega, by show w.heap.size ≠ x; omega, trivial⟩, by omega, by omega⟩
  have F1 := S1.out.kn.1
  simp only [Facts, CellsAt] at F1
  clear NW hP hb hx hg ha K0 F
  go_wp2_with fail
  refine (OC.out _ _ _ _ _ S1.out).mono ?_
  rintro e w2 ⟨rfl, hS⟩
  have S2 := hide hS
  have F2 := S2.out.kn.1
  simp only [Facts, CellsAt] at F2
  clear OC hS S1 F1
  go_wp2_with fail
  refine (RT.out _).mono ?_
  rintro e w3 ⟨rfl, hb⟩
  have S3 := hide (S2.out.below hb)
  have F3 := S3.out.kn.1
  simp only [Facts, CellsAt] at F3
  clear RT hb S2 F2
  go_wp2_with fail
  refine (OV.out _).mono ?_
  rintro e w4 ⟨rfl, hb⟩
  have S4 := hide (S3.out.below hb)
  have F4 := S4.out.kn.1
  simp only [Facts, CellsAt] at F4
  clear OV hb S3 F3
  go_wp2_with fail
  refine (LF.out _ _ _ _ _ S4.out).mono ?_
  rintro e w5 ⟨rfl, hS⟩
  have S5 := hide hS
  have F5 := S5.out.kn.1
  simp only [Facts, CellsAt] at F5
  clear LF hS S4 F4
  go_wp2_with fail
  refine (SZ.out _ _ _ _ _ _ _ S5.out).mono ?_
  rintro e w6 ⟨rfl, hS⟩
  have S6 := hide hS
  have F6 := S6.out.kn.1
  simp only [Facts, CellsAt] at F6
  clear hS S5 F5
  go_wp2_with fail
  refine (HQ.out _ _ _ _ _ S6.out).mono ?_
  rintro e w7 ⟨rfl, hS⟩
  have S7 := hide hS
  have F7 := S7.out.kn.1
  simp only [Facts, CellsAt] at F7
  clear HQ hS S6 F6
  go_wp2_with fail
  refine (HP.out _ _ _ _ _ S7.out).mono ?_
  rintro e w8 ⟨rfl, hS⟩
  have S8 := hide hS
  have F8 := S8.out.kn.1
  simp only [Facts, CellsAt] at F8
  clear HP hS S7 F7
  go_wp2_with fail
  refine (NX.out _ _ _ _ _ S8.out).mono ?_
  rintro e w9 ⟨rfl, hS⟩
  have S9 := hide (hS.push [.bool v, .int .u64 rh, .int .u64 rl, .int .i64 k] 28)
  have F9 := S9.out.kn.1
  simp only [Facts, CellsAt] at F9
  clear NX hS S8 F8
  go_wp2_with fail
  refine (PO.out _).mono ?_
  rintro e w10 ⟨rfl, hb⟩
  have S10 := hide (S9.out.below hb)
  have F10 := S10.out.kn.1
  simp only [Facts, CellsAt] at F10
  clear PO hb S9 F9
  go_wp2_with fail
  refine (PW.out _).mono ?_
  rintro e w11 ⟨rfl, hb⟩
  have S11 := hide (S10.out.below hb)
  have F11 := S11.out.kn.1
  simp only [Facts, CellsAt] at F11
  clear PW hb S10 F10
  go_wp2_with fail
  refine (L2.out _ _ _ _ _ S11.out).mono ?_
  rintro e w12 ⟨rfl, hS⟩
  have S12 := hide hS
  have F12 := S12.out.kn.1
  simp only [Facts, CellsAt] at F12
  clear L2 hS S11 F11
  go_wp2_with fail
  refine (SZ.out _ _ _ _ _ _ _ S12.out).mono ?_
  rintro e w13 ⟨rfl, hS⟩
  have SR := hide hS
  have FR := SR.out.kn.1
  simp only [Facts, CellsAt] at FR
  clear hS S12 F12 SZ
  go_wp2_with fail
  refine (RL.out _ _ _ _ _ SR.out).mono ?_
  rintro e w15 ⟨rfl, hS⟩
  have S15 := hide hS
  have F15 := S15.out.kn.1
  simp only [Facts, CellsAt] at F15
  clear RL hS SR FR
  go_wp2_with fail
  refine (HN.out _ _ _ _ _ S15.out).mono ?_
  rintro e w16 ⟨rfl, hS⟩
  have B16 := hS.kn.bel
  clear HN hS S15 F15
  go_wp2
  go_ret
  exact ⟨by first | rfl | simp, B16⟩

set_option maxRecDepth 100000 in
set_option maxHeartbeats 6400000 in
theorem bgreat_none {v : Bool} {h l b k qh ql c C : Int} {n m N i : Nat} {f1 f3 : Nat → Bool} (O : SetOf v h l b k n N) (hq : IsNum qh ql m) (h1 : okP v m c = true) (h2 : overB v n b v m c = true) (hnx : nextF f1 N 0 = none) (hCN : C = N) (G : GNum v n b k N m c C f1 f1 f3) (w : World) (hL : LW w) (hT : TB w) :
    Calls Tryz.prog 5 #[pv v h l b, .int .i64 k, pv v qh ql c] w fun e w' => e = .returned (.bool true) ∧ Below w.heap.size w w' := by
  have hz := hL.sz
  have K := bg_start w v h l b v qh ql c
  have AW := hide (awake7_c _ (hL.of K.bel hz) (hT.below K.bel))
  have NW := hide (fun w' => snew_c O w')
  have hE : qE v n b v m c = 0 := by unfold qE; rw [h1, h2]; rfl
  have OC := hide (fun x a g L W (S : HSt w L v h l b k x a g N (fun _ => false) 0 W) => occ_h O hq G.s1 G.c0 hE S)
  have RT := hide (fun w' => rpright_c (v := v) (b := c) hq w')
  have OV := hide (fun w' => rover_c (v := v) (u := v) (b := b) (c := c) O.num hq w')
  rw [h1] at RT
  rw [h2] at OV
  have LF := hide (fun x a g L W (S : HSt w L v h l b k x a g N f1 0 W) => left_h G.l1 S)
  have SZ := hide (fun x a g L f cu W (S : HSt w L v h l b k x a g N f cu W) => size_h S)
  have HQ := hide (fun x a g L W (S : HSt w L v h l b k x a g N f1 0 W) => has_h (B := true) O hq (iff_of_true rfl G.hq) S)
  have HP := hide (fun x a g L W (S : HSt w L v h l b k x a g N f1 0 W) => has_h (B := true) O O.num (iff_of_true rfl G.hp) S)
  have RL := hide (fun x a g L W (S : HSt w L v h l b k x a g N f1 0 W) => rel_h O hq G.s3 G.c3 hE S)
  have HN := hide (fun x a g L W (S : HSt w L v h l b k x a g N f3 0 W) => has_h (B := false) O hq (iff_of_false (by decide) G.h3) S)
  obtain ⟨C0, C1⟩ := G.c1
  have le := O.small
  have wr1 : IntKind.i64.wrap ((N : Int) - C) = N - C := by simp [IntKind.wrap, IntKind.bits, IntKind.signed]; omega
  have wr2 : IntKind.i64.wrap ((N : Int) - C - 1) = N - C - 1 := by simp [IntKind.wrap, IntKind.bits, IntKind.signed]; omega
  have c9 : ¬ C < 1 := by omega
  have NX := hide (fun x a g L W (S : HSt w L v h l b k x a g N f1 0 W) => full_h O hT hnx S)
  clear hnx hT O
  have KH := hide K
  clear hL hz hq h1 h2 hE K G le C0 C1
  go_enter Tryz.func5, Tryz.ntmps5
  go_wp2_with fail
  refine AW.out.mono ?_
  rintro e w0 ⟨rfl, hb⟩
  have K0 := hide (KH.out.below hb)
  have F := K0.out.1
  simp only [Facts, CellsAt] at F
  clear AW hb KH
  go_wp2_with fail
  refine (NW.out _).mono ?_
  rintro e w1 ⟨x, a, g, rfl, hP, hb, hx, hg, ha⟩
  have S1 : Hid (HSt w [(w.heap.size + 1, [.bool v, .int .u64 qh, .int .u64 ql, .int .i64 c], 28), (w.heap.size, [.bool v, .int .u64 h, .int .u64 l, .int .i64 b], 28)] v h l b k x a g N (fun _ => false) 0 w1) := by
    have l1 := K0.out.lts
    have l2 := K0.out.bel.size
    simp only [Lts] at l1
    exact ⟨K0.out.below hb, hP, ⟨by show w.heap.size + 1 ≠ g; omega, by show w.heap.size ≠ g; omega, trivial⟩, ⟨by show w.heap.size + 1 ≠ x; omega, by show w.heap.size ≠ x; omega, trivial⟩, by omega, by omega⟩
  have F1 := S1.out.kn.1
  simp only [Facts, CellsAt] at F1
  clear NW hP hb hx hg ha K0 F
  go_wp2_with fail
  refine (OC.out _ _ _ _ _ S1.out).mono ?_
  rintro e w2 ⟨rfl, hS⟩
  have S2 := hide hS
  have F2 := S2.out.kn.1
  simp only [Facts, CellsAt] at F2
  clear OC hS S1 F1
  go_wp2_with fail
  refine (RT.out _).mono ?_
  rintro e w3 ⟨rfl, hb⟩
  have S3 := hide (S2.out.below hb)
  have F3 := S3.out.kn.1
  simp only [Facts, CellsAt] at F3
  clear RT hb S2 F2
  go_wp2_with fail
  refine (OV.out _).mono ?_
  rintro e w4 ⟨rfl, hb⟩
  have S4 := hide (S3.out.below hb)
  have F4 := S4.out.kn.1
  simp only [Facts, CellsAt] at F4
  clear OV hb S3 F3
  go_wp2_with fail
  refine (LF.out _ _ _ _ _ S4.out).mono ?_
  rintro e w5 ⟨rfl, hS⟩
  have S5 := hide hS
  have F5 := S5.out.kn.1
  simp only [Facts, CellsAt] at F5
  clear LF hS S4 F4
  go_wp2_with fail
  refine (SZ.out _ _ _ _ _ _ _ S5.out).mono ?_
  rintro e w6 ⟨rfl, hS⟩
  have S6 := hide hS
  have F6 := S6.out.kn.1
  simp only [Facts, CellsAt] at F6
  clear hS S5 F5
  go_wp2_with fail
  refine (HQ.out _ _ _ _ _ S6.out).mono ?_
  rintro e w7 ⟨rfl, hS⟩
  have S7 := hide hS
  have F7 := S7.out.kn.1
  simp only [Facts, CellsAt] at F7
  clear HQ hS S6 F6
  go_wp2_with fail
  refine (HP.out _ _ _ _ _ S7.out).mono ?_
  rintro e w8 ⟨rfl, hS⟩
  have S8 := hide hS
  have F8 := S8.out.kn.1
  simp only [Facts, CellsAt] at F8
  clear HP hS S7 F7
  go_wp2_with fail
  refine (NX.out _ _ _ _ _ S8.out).mono ?_
  rintro e w9 ⟨rfl, hS⟩
  have S9 := hide (hS.push [.bool false, .int .u64 0, .int .u64 0, .int .i64 0] 28)
  have F9 := S9.out.kn.1
  simp only [Facts, CellsAt] at F9
  clear NX hS S8 F8
  go_wp2_with fail
  refine (SZ.out _ _ _ _ _ _ _ S9.out).mono ?_
  rintro e w13 ⟨rfl, hS⟩
  have SR := hide hS
  have FR := SR.out.kn.1
  simp only [Facts, CellsAt] at FR
  clear hS S9 F9 SZ
  go_wp2_with fail
  refine (RL.out _ _ _ _ _ SR.out).mono ?_
  rintro e w15 ⟨rfl, hS⟩
  have S15 := hide hS
  have F15 := S15.out.kn.1
  simp only [Facts, CellsAt] at F15
  clear RL hS SR FR
  go_wp2_with fail
  refine (HN.out _ _ _ _ _ S15.out).mono ?_
  rintro e w16 ⟨rfl, hS⟩
  have B16 := hS.kn.bel
  clear HN hS S15 F15
  go_wp2
  go_ret
  exact ⟨by first | rfl | simp, B16⟩

theorem bgreat_walk {v u : Bool} {h l b k qh ql c : Int} {n m : Nat} (hp : IsNum h l n) (hq : IsNum qh ql m) (w : World) (hL : LW w) (hT : TB w) :
    Calls Tryz.prog 5 #[pv v h l b, .int .i64 k, pv u qh ql c] w fun e w' => e = .returned (.bool true) ∧ Below w.heap.size w w' := by
  cases hc : cutB v n b k
  · exact bgreat_arg (m := m) hp hc w hL hT
  · by_cases hk : 16 < (k - b).toNat
    · exact bgreat_long (m := m) hp hc hk w hL hT
    · have le := Nat.pow_le_pow_right (n := 2) (by decide) (show (k - b).toNat ≤ 16 by omega)
      rw [show (2 : Nat) ^ 16 = 65536 by decide] at le
      have O : SetOf v h l b k n (2 ^ (k - b).toNat) := ⟨hp, hc, rfl, le⟩
      cases h1 : okP u m c
      · exact bgreat_no O hq (Or.inl h1) w hL hT
      · cases h2 : overB v n b u m c
        · exact bgreat_no O hq (Or.inr ⟨h1, h2⟩) w hL hT
        · obtain rfl := over_fam h2
          obtain ⟨C, f1, ⟨g1, g2, f3, G⟩ | ⟨i, g1, _, g2, g3, g4, f3, G⟩⟩ := gnum hc rfl le h1 h2 hp.lt hq.lt
          · exact bgreat_none (i := 0) O hq h1 h2 g1 g2 G w hL hT
          · exact bgreat_some O hq h1 h2 g1 g2 g3 g4 G w hL hT
end Go.Proofs.YtllidkflgjjkfaaGreatDoor

namespace Go.Proofs.YtllidkflgjjkfaaGreatDoor
open Go.ChangeShapes Go.WideShapes Go.ChangeAt Go.RowKit
set_option linter.unusedVariables false
set_option linter.unusedSimpArgs false

/-- A slice of prefixes. -/
def PfxsAt (W : World) (x : Option Addr) (len b o : Nat) : Prop := (x = some ⟨b, o, none⟩ ∨ len = 0) ∧ len ≤ 9223372036854775807 ∧ ∀ i, i < len → ∃ (u : Bool) (qh ql : Int) (m : Nat) (c : Int), IsNum qh ql m ∧ W.cell? ⟨b, o + i * 4, none⟩ = some (.bool u) ∧ W.cell? ⟨b, o + i * 4 + 1, none⟩ = some (.int .u64 qh) ∧ W.cell? ⟨b, o + i * 4 + 2, none⟩ = some (.int .u64 ql) ∧ W.cell? ⟨b, o + i * 4 + 3, none⟩ = some (.int .i64 c)

theorem PfxsAt.below {w W : World} {x : Option Addr} {len b o : Nat} (h : PfxsAt w x len b o) (k : Below w.heap.size w W) : PfxsAt W x len b o := by
  refine ⟨h.1, h.2.1, fun i hi => ?_⟩
  obtain ⟨u, qh, ql, m, c, hq, h0, h1, h2, h3⟩ := h.2.2 i hi
  have lt : b < w.heap.size := by
    apply Classical.byContradiction
    intro c
    simp only [World.cell?] at h0
    rw [Array.getElem?_eq_none (by omega)] at h0
    cases h0
  have e : ∀ j, W.cell? ⟨b, j, none⟩ = w.cell? ⟨b, j, none⟩ := fun j => (bcell k).1 b j lt
  exact ⟨u, qh, ql, m, c, hq, (e _).trans h0, (e _).trans h1, (e _).trans h2, (e _).trans h3⟩

/-- A slice of calls. -/
def BActsAt (W : World) (x : Option Addr) (len b o : Nat) : Prop := (x = some ⟨b, o, none⟩ ∨ len = 0) ∧ len ≤ 9223372036854775807 ∧ ∀ i, i < len → ∃ (K : Int) (u : Bool) (qh ql : Int) (m : Nat) (c A : Int), IsNum qh ql m ∧ (-9223372036854775808 ≤ A ∧ A ≤ 9223372036854775807) ∧ W.cell? ⟨b, o + i * 6, none⟩ = some (.int .i64 K) ∧ W.cell? ⟨b, o + i * 6 + 1, none⟩ = some (.bool u) ∧ W.cell? ⟨b, o + i * 6 + 2, none⟩ = some (.int .u64 qh) ∧ W.cell? ⟨b, o + i * 6 + 3, none⟩ = some (.int .u64 ql) ∧ W.cell? ⟨b, o + i * 6 + 4, none⟩ = some (.int .i64 c) ∧ W.cell? ⟨b, o + i * 6 + 5, none⟩ = some (.int .i64 A)

theorem BActsAt.below {w W : World} {x : Option Addr} {len b o : Nat} (h : BActsAt w x len b o) (k : Below w.heap.size w W) : BActsAt W x len b o := by
  refine ⟨h.1, h.2.1, fun i hi => ?_⟩
  obtain ⟨K, u, qh, ql, m, c, A, hq, hA, h0, h1, h2, h3, h4, h5⟩ := h.2.2 i hi
  have lt : b < w.heap.size := by
    apply Classical.byContradiction
    intro c
    simp only [World.cell?] at h0
    rw [Array.getElem?_eq_none (by omega)] at h0
    cases h0
  have e : ∀ j, W.cell? ⟨b, j, none⟩ = w.cell? ⟨b, j, none⟩ := fun j => (bcell k).1 b j lt
  exact ⟨K, u, qh, ql, m, c, A, hq, hA, (e _).trans h0, (e _).trans h1, (e _).trans h2, (e _).trans h3, (e _).trans h4, (e _).trans h5⟩
end Go.Proofs.YtllidkflgjjkfaaGreatDoor
