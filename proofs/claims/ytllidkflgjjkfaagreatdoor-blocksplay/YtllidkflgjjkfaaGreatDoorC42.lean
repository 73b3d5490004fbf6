/-
  Texts Se5, Se6, SeR, SeR3, SeS of the proof.
-/
import Derived.Test.YtllidkflgjjkfaaGreatDoorC41
import Derived.Test.YtllidkflgjjkfaaGreatDoorC39
import Derived.Test.YtllidkflgjjkfaaGreatDoorC0

namespace Go.Proofs.YtllidkflgjjkfaaGreatDoor
open Go.ChangeShapes Go.WideShapes Go.ChangeAt Go.RowKit
set_option linter.unusedVariables false
set_option linter.unusedSimpArgs false

theorem But.putx (x i : Nat) (v : Value) (W : World) (B : Nat) : But [x] B W (W.setCell ⟨x, i, none⟩ v) :=
  ⟨rfl, rfl, rfl, by simp [World.setCell], fun q hq hn => Below.heap_setCell _ _ _ _ (by simpa using hn)⟩

theorem next_at {f : Nat → Bool} {N c p : Nat} (hf : nextF f N c = some p) : nxP f N c = p ∧ nxB f N c = true := by
  unfold nxP nxB
  rw [hf]
  exact ⟨rfl, rfl⟩

theorem next_no {f : Nat → Bool} {N c : Nat} (hf : nextF f N c = none) : nxP f N c = 0 ∧ nxB f N c = false := by
  unfold nxP nxB
  rw [hf]
  exact ⟨rfl, rfl⟩

/-- What Next of the set asks of its map. -/
theorem snx {a g N c : Nat} {f : Nat → Bool} (hc : c < N) (w : World) (H : MapB w a g N f) (hT : TB w) : Calls Tryz.prog 90 #[.pointer (some ⟨a, 0, none⟩), .int .i64 c] w fun e w' => e = .returned (.tuple #[.int .i64 (nxP f N c : Nat), .bool (nxB f N c)]) ∧ Below w.heap.size w w' := by
  have l4 := H.lt
  have := next_ok a g N f (c : Int) (by omega) (by omega) (by omega) w H hT
  rw [show (c : Int).toNat % N = c from by rw [Int.toNat_natCast, Nat.mod_eq_of_lt hc]] at this
  exact this

set_option maxRecDepth 100000 in
set_option maxHeartbeats 1600000 in
theorem snext_full {v : Bool} {h l b k : Int} {a x g n N cu : Nat} {f : Nat → Bool} (O : SetOf v h l b k n N) (hf : nextF f N cu = none) (w : World) (hT : TB w) (P : SetAt w v h l b k x a g N f cu) :
    Calls Tryz.prog 46 #[.pointer (some ⟨x, 0, none⟩)] w fun e w' => e = .returned (.tuple #[pv false 0 0 0, .int .i64 9]) ∧ Below w.heap.size w w' := by
  have bl : Below w.heap.size w (w.alloc (.cells #[.bool false, .int .u64 0, .int .u64 0, .int .i64 0] 28)) := by repeat (first | with_reducible exact Below.refl _ _ | with_reducible refine Below.drew ?_ | with_reducible refine Below.alloc ?_ (by first | omega | (simp <;> omega)) _ | with_reducible refine Below.setCell ?_ (by first | omega | (simp <;> omega)) _)
  have NH := hide (fun w' H T => snx (a := a) (g := g) (f := f) P.cur w' H T)
  rw [(next_no hf).1, (next_no hf).2] at NH
  have K0 : Kn w [(w.heap.size, [.bool false, .int .u64 0, .int .u64 0, .int .i64 0], 28), (x, [.bool v, .int .u64 h, .int .u64 l, .int .i64 b, .int .i64 k, .pointer (some ⟨a, 0, none⟩), .int .i64 (cu : Int)], 115)] (w.alloc (.cells #[.bool false, .int .u64 0, .int .u64 0, .int .i64 0] 28)) := ((Kn.nil w).cons P.hd).push rfl
  have NX := hide (fun w' (q : Below w.heap.size w w') => NH.out w' (P.m.below q) (hT.below q))
  obtain ⟨x0, x1, x2, x3, x4, x5, x6, xl⟩ := P.hd.seven
  clear NH O hf hT P
  go_enter Tryz.func46, Tryz.ntmps46
  go_wp2_with fail
  refine wp_region_held_drew (S := (Kn w [(w.heap.size, [.bool false, .int .u64 0, .int .u64 0, .int .i64 0], 28), (x, [.bool v, .int .u64 h, .int .u64 l, .int .i64 b, .int .i64 k, .pointer (some ⟨a, 0, none⟩), .int .i64 (cu : Int)], 115)])) (by kernel_rfl) ?hS100 (fun hHeld => ?rest100)
  case hS100 => (first | with_reducible exact K0.drew | with_reducible exact hHeld.below hb4)
  refine wtk7 (i := 0) (v := ?v101) (ga7 rfl) (by kernel_rfl) (fun _ _ _ h => h) ⟨by rfl, ?hy101⟩ (by assumption) ?rest101
  case hy101 => (intro wq hSw; (try simp only [Two, Kn, Facts, CellsAt] at hSw); go_simp; try with_reducible rfl)
  try simp only [Act.put, sa7, sb7, sc7]
  refine wtk7 (i := 1) (v := ?v102) (ga7 rfl) (by kernel_rfl) (fun _ _ _ h => h) ⟨by rfl, ?hy102⟩ (by assumption) ?rest102
  case hy102 => (intro wq hSw; (try simp only [Two, Kn, Facts, CellsAt] at hSw); go_simp; try with_reducible rfl)
  try simp only [Act.put, sa7, sb7, sc7]
  refine wtk7 (i := 2) (v := ?v103) (ga7 rfl) (by kernel_rfl) (fun _ _ _ h => h) ⟨by rfl, ?hy103⟩ (by assumption) ?rest103
  case hy103 => (intro wq hSw; (try simp only [Two, Kn, Facts, CellsAt] at hSw); go_simp; try with_reducible rfl)
  try simp only [Act.put, sa7, sb7, sc7]
  refine wtk7 (i := 3) (v := ?v104) (ga7 rfl) (by kernel_rfl) (fun _ _ _ h => h) ⟨by rfl, ?hy104⟩ (by assumption) ?rest104
  case hy104 => (intro wq hSw; (try simp only [Two, Kn, Facts, CellsAt] at hSw); go_simp; try with_reducible rfl)
  try simp only [Act.put, sa7, sb7, sc7]
  refine wtk7 (i := 4) (v := ?v105) (ga7 rfl) (by kernel_rfl) (fun _ _ _ h => h) ⟨by rfl, ?hy105⟩ (by assumption) ?rest105
  case hy105 => (intro wq hSw; (try simp only [Two, Kn, Facts, CellsAt] at hSw); go_simp; try with_reducible rfl)
  try simp only [Act.put, sa7, sb7, sc7]
  refine wtk7 (i := 5) (v := ?v106) (ga7 rfl) (by kernel_rfl) (fun _ _ _ h => h) ⟨by rfl, ?hy106⟩ (by assumption) ?rest106
  case hy106 => (intro wq hSw; (try simp only [Two, Kn, Facts, CellsAt] at hSw); go_simp; try with_reducible rfl)
  try simp only [Act.put, sa7, sb7, sc7]
  refine wtk7 (i := 6) (v := ?v107) (ga7 rfl) (by kernel_rfl) (fun _ _ _ h => h) ⟨by rfl, ?hy107⟩ (by assumption) ?rest107
  case hy107 => (intro wq hSw; (try simp only [Two, Kn, Facts, CellsAt] at hSw); go_simp; try with_reducible rfl)
  try simp only [Act.put, sa7, sb7, sc7]
  refine wtk7 (i := 7) (v := ?v108) (ga7 rfl) (by kernel_rfl) (fun _ _ _ h => h) ⟨by rfl, ?hy108⟩ (by assumption) ?rest108
  case hy108 => (intro wq hSw; (try simp only [Two, Kn, Facts, CellsAt] at hSw); go_simp; try with_reducible rfl)
  try simp only [Act.put, sa7, sb7, sc7]
  refine wpAnyH_ready (rs := [8]) (by kernel_rfl) (by simp) ?rdy109
  refine AllReadyH.cons (ga7 rfl) (fun K hK => ?stp109) AllReadyH.nil
  go_simp
  go_wp2_with fail
  (refine (NX.out _ hHeld.bel).mono ?_; rintro e w4 ⟨rfl, hb4⟩)
  go_wp2_with fail
  refine hK.out _ _ ?hSn109 (fun hHeld2 => ?rest109)
  case hSn109 => (first | with_reducible exact K0.drew | with_reducible exact hHeld.below hb4)
  clear hK K hHeld
  have hHeld := hHeld2
  clear hHeld2
  try simp only [Act.put, sa7, sb7, sc7]
  refine wtk7 (i := 9) (v := ?v110) (ga7 rfl) (by kernel_rfl) (fun _ _ _ h => h) ⟨by rfl, ?hy110⟩ (by assumption) ?rest110
  case hy110 => (intro wq hSw; (try simp only [Two, Kn, Facts, CellsAt] at hSw); go_simp; try with_reducible rfl)
  try simp only [Act.put, sa7, sb7, sc7]
  refine wtk7 (i := 10) (v := ?v111) (ga7 rfl) (by kernel_rfl) (fun _ _ _ h => h) ⟨by rfl, ?hy111⟩ (by assumption) ?rest111
  case hy111 => (intro wq hSw; (try simp only [Two, Kn, Facts, CellsAt] at hSw); go_simp; try with_reducible rfl)
  try simp only [Act.put, sa7, sb7, sc7]
  refine wtk7 (i := 11) (v := ?v112) (ga7 rfl) (by kernel_rfl) (fun _ _ _ h => h) ⟨by rfl, ?hy112⟩ (by assumption) ?rest112
  case hy112 => (intro wq hSw; (try simp only [Two, Kn, Facts, CellsAt] at hSw); go_simp; try with_reducible rfl)
  try simp only [Act.put, sa7, sb7, sc7]
  refine wtk7 (i := 12) (v := ?v113) (ga7 rfl) (by kernel_rfl) (fun _ _ _ h => h) ⟨by rfl, ?hy113⟩ (by assumption) ?rest113
  case hy113 => (intro wq hSw; (try simp only [Two, Kn, Facts, CellsAt] at hSw); go_simp; try with_reducible rfl)
  try simp only [Act.put, sa7, sb7, sc7]
  refine wtk7 (i := 13) (v := ?v114) (ga7 rfl) (by kernel_rfl) (fun _ _ _ h => h) ⟨by rfl, ?hy114⟩ (by assumption) ?rest114
  case hy114 => (intro wq hSw; (try simp only [Two, Kn, Facts, CellsAt] at hSw); go_simp; try with_reducible rfl)
  try simp only [Act.put, sa7, sb7, sc7]
  refine wpAnyH_done (by kernel_rfl) ?fin100 _
  have B := hHeld.bel
  have hs := B.size
  obtain ⟨r0, r1, r2, r3, r4, r5, r6, r7, r8⟩ := hHeld.2.1.1.four
  clear hHeld hb4 K0 NX bl x0 x1 x2 x3 x4 x5 x6
  go_wp2
  refine bodyPost_ret (v := .tuple #[pv false 0 0 0, .int .i64 9]) (by simp [results, Tryz.results46, go_sem, World.cell?_setCell_same', World.cell?_setCell_other, *]) rfl ⟨rfl, by repeat (first | with_reducible exact Below.refl _ _ | with_reducible refine Below.drew ?_ | with_reducible refine Below.alloc ?_ (by first | omega | (simp <;> omega)) _ | with_reducible refine Below.setCell ?_ (by first | omega | (simp <;> omega)) _ | with_reducible refine Below.trans ?_ (Below.mono B (by first | omega | (simp <;> omega))))⟩

set_option maxRecDepth 100000 in
set_option maxHeartbeats 3200000 in
theorem snext_ok {v : Bool} {h l b k rh rl : Int} {a x g n N cu i : Nat} {f : Nat → Bool} (O : SetOf v h l b k n N) (hf : nextF f N cu = some i) (hr : IsNum rh rl (blkN v n k i)) (w : World) (hT : TB w) (P : SetAt w v h l b k x a g N f cu) :
    Calls Tryz.prog 46 #[.pointer (some ⟨x, 0, none⟩)] w fun e w' => e = .returned (.tuple #[pv v rh rl k, .int .i64 0]) ∧ SetAt w' v h l b k x a g N (upd f i true) ((i + 1) % N) ∧ But [g, x] w.heap.size w w' := by
  obtain ⟨hiN, hfi⟩ := nextF_is P.cur hf
  have le := O.small
  have bl : Below w.heap.size w (w.alloc (.cells #[.bool false, .int .u64 0, .int .u64 0, .int .i64 0] 28)) := by repeat (first | with_reducible exact Below.refl _ _ | with_reducible refine Below.drew ?_ | with_reducible refine Below.alloc ?_ (by first | omega | (simp <;> omega)) _ | with_reducible refine Below.setCell ?_ (by first | omega | (simp <;> omega)) _)
  have NH := hide (fun w' H T => snx (a := a) (g := g) (f := f) P.cur w' H T)
  rw [(next_at hf).1, (next_at hf).2] at NH
  have K0 : Kn w [(w.heap.size, [.bool false, .int .u64 0, .int .u64 0, .int .i64 0], 28), (x, [.bool v, .int .u64 h, .int .u64 l, .int .i64 b, .int .i64 k, .pointer (some ⟨a, 0, none⟩), .int .i64 (cu : Int)], 115)] (w.alloc (.cells #[.bool false, .int .u64 0, .int .u64 0, .int .i64 0] 28)) := ((Kn.nil w).cons P.hd).push rfl
  have NX := hide (fun w' (q : Below w.heap.size w w') => NH.out w' (P.m.below q) (hT.below q))
  have PU := hide (fun w' H => put_new a g N i f hiN hfi w' H)
  have BK := hide (fun w' hx => sblock_c (a := a) (x := x) (cu := (((i + 1) % N : Nat) : Int)) O hiN hr w' hx)
  have PH := hide P
  obtain ⟨x0, x1, x2, x3, x4, x5, x6, xl⟩ := P.hd.seven
  have i6 : (i : Int) < 65536 := by omega
  obtain ⟨j, hj⟩ : ∃ j, (i + 1) % N = j := ⟨_, rfl⟩
  have hjN : j < N := hj ▸ Nat.mod_lt _ O.pos
  have hmod : ((i : Int) + 1) % (N : Int) = (j : Int) := by
    rw [← hj]
    have : ((i : Int) + 1) = ((i + 1 : Nat) : Int) := by omega
    rw [this]
    exact (Int.natCast_emod _ _).symm
  have hN0 : ((N : Int) == 0) = false := by have := O.pos; simp; omega
  rw [hj] at BK ⊢
  have gx := P.ne
  have pl := P.lt
  clear NH O hf hT P hj
  go_enter Tryz.func46, Tryz.ntmps46
  go_wp2_with fail
  refine wp_region_held_drew (S := (Kn w [(w.heap.size, [.bool false, .int .u64 0, .int .u64 0, .int .i64 0], 28), (x, [.bool v, .int .u64 h, .int .u64 l, .int .i64 b, .int .i64 k, .pointer (some ⟨a, 0, none⟩), .int .i64 (cu : Int)], 115)])) (by kernel_rfl) ?hS200 (fun hHeld => ?rest200)
  case hS200 => (first | with_reducible exact K0.drew | with_reducible exact hHeld.below hb4)
  refine wtk7 (i := 0) (v := ?v201) (ga7 rfl) (by kernel_rfl) (fun _ _ _ h => h) ⟨by rfl, ?hy201⟩ (by assumption) ?rest201
  case hy201 => (intro wq hSw; (try simp only [Two, Kn, Facts, CellsAt] at hSw); go_simp; try with_reducible rfl)
  try simp only [Act.put, sa7, sb7, sc7]
  refine wtk7 (i := 1) (v := ?v202) (ga7 rfl) (by kernel_rfl) (fun _ _ _ h => h) ⟨by rfl, ?hy202⟩ (by assumption) ?rest202
  case hy202 => (intro wq hSw; (try simp only [Two, Kn, Facts, CellsAt] at hSw); go_simp; try with_reducible rfl)
  try simp only [Act.put, sa7, sb7, sc7]
  refine wtk7 (i := 2) (v := ?v203) (ga7 rfl) (by kernel_rfl) (fun _ _ _ h => h) ⟨by rfl, ?hy203⟩ (by assumption) ?rest203
  case hy203 => (intro wq hSw; (try simp only [Two, Kn, Facts, CellsAt] at hSw); go_simp; try with_reducible rfl)
  try simp only [Act.put, sa7, sb7, sc7]
  refine wtk7 (i := 3) (v := ?v204) (ga7 rfl) (by kernel_rfl) (fun _ _ _ h => h) ⟨by rfl, ?hy204⟩ (by assumption) ?rest204
  case hy204 => (intro wq hSw; (try simp only [Two, Kn, Facts, CellsAt] at hSw); go_simp; try with_reducible rfl)
  try simp only [Act.put, sa7, sb7, sc7]
  refine wtk7 (i := 4) (v := ?v205) (ga7 rfl) (by kernel_rfl) (fun _ _ _ h => h) ⟨by rfl, ?hy205⟩ (by assumption) ?rest205
  case hy205 => (intro wq hSw; (try simp only [Two, Kn, Facts, CellsAt] at hSw); go_simp; try with_reducible rfl)
  try simp only [Act.put, sa7, sb7, sc7]
  refine wtk7 (i := 5) (v := ?v206) (ga7 rfl) (by kernel_rfl) (fun _ _ _ h => h) ⟨by rfl, ?hy206⟩ (by assumption) ?rest206
  case hy206 => (intro wq hSw; (try simp only [Two, Kn, Facts, CellsAt] at hSw); go_simp; try with_reducible rfl)
  try simp only [Act.put, sa7, sb7, sc7]
  refine wtk7 (i := 6) (v := ?v207) (ga7 rfl) (by kernel_rfl) (fun _ _ _ h => h) ⟨by rfl, ?hy207⟩ (by assumption) ?rest207
  case hy207 => (intro wq hSw; (try simp only [Two, Kn, Facts, CellsAt] at hSw); go_simp; try with_reducible rfl)
  try simp only [Act.put, sa7, sb7, sc7]
  refine wtk7 (i := 7) (v := ?v208) (ga7 rfl) (by kernel_rfl) (fun _ _ _ h => h) ⟨by rfl, ?hy208⟩ (by assumption) ?rest208
  case hy208 => (intro wq hSw; (try simp only [Two, Kn, Facts, CellsAt] at hSw); go_simp; try with_reducible rfl)
  try simp only [Act.put, sa7, sb7, sc7]
  refine wpAnyH_ready (rs := [8]) (by kernel_rfl) (by simp) ?rdy209
  refine AllReadyH.cons (ga7 rfl) (fun K hK => ?stp209) AllReadyH.nil
  go_simp
  go_wp2_with fail
  (refine (NX.out _ hHeld.bel).mono ?_; rintro e w4 ⟨rfl, hb4⟩)
  go_wp2_with fail
  refine hK.out _ _ ?hSn209 (fun hHeld2 => ?rest209)
  case hSn209 => (first | with_reducible exact K0.drew | with_reducible exact hHeld.below hb4)
  clear hK K hHeld
  have hHeld := hHeld2
  clear hHeld2
  try simp only [Act.put, sa7, sb7, sc7]
  refine wtk7 (i := 9) (v := ?v210) (ga7 rfl) (by kernel_rfl) (fun _ _ _ h => h) ⟨by rfl, ?hy210⟩ (by assumption) ?rest210
  case hy210 => (intro wq hSw; (try simp only [Two, Kn, Facts, CellsAt] at hSw); go_simp; try with_reducible rfl)
  try simp only [Act.put, sa7, sb7, sc7]
  refine wtk7 (i := 10) (v := ?v211) (ga7 rfl) (by kernel_rfl) (fun _ _ _ h => h) ⟨by rfl, ?hy211⟩ (by assumption) ?rest211
  case hy211 => (intro wq hSw; (try simp only [Two, Kn, Facts, CellsAt] at hSw); go_simp; try with_reducible rfl)
  try simp only [Act.put, sa7, sb7, sc7]
  refine wtk7 (i := 11) (v := ?v212) (ga7 rfl) (by kernel_rfl) (fun _ _ _ h => h) ⟨by rfl, ?hy212⟩ (by assumption) ?rest212
  case hy212 => (intro wq hSw; (try simp only [Two, Kn, Facts, CellsAt] at hSw); go_simp; try with_reducible rfl)
  try simp only [Act.put, sa7, sb7, sc7]
  refine wtk7 (i := 12) (v := ?v213) (ga7 rfl) (by kernel_rfl) (fun _ _ _ h => h) ⟨by rfl, ?hy213⟩ (by assumption) ?rest213
  case hy213 => (intro wq hSw; (try simp only [Two, Kn, Facts, CellsAt] at hSw); go_simp; try with_reducible rfl)
  try simp only [Act.put, sa7, sb7, sc7]
  refine wtk7 (i := 13) (v := ?v214) (ga7 rfl) (by kernel_rfl) (fun _ _ _ h => h) ⟨by rfl, ?hy214⟩ (by assumption) ?rest214
  case hy214 => (intro wq hSw; (try simp only [Two, Kn, Facts, CellsAt] at hSw); go_simp; try with_reducible rfl)
  try simp only [Act.put, sa7, sb7, sc7]
  refine wpAnyH_done (by kernel_rfl) ?fin200 _
  have B5 : Hid (Below w.heap.size w w4) := hHeld.bel
  have P5 := hide (PH.out.below B5.out)
  have R5 : Hid (Blk w4 w.heap.size #[.bool false, .int .u64 0, .int .u64 0, .int .i64 0] 28) := hHeld.2.1.1
  have PU5 := hide (PU.out _ P5.out.m)
  obtain ⟨y0, y1, y2, y3, y4, y5, y6, yl⟩ := P5.out.hd.seven
  clear hHeld hb4 K0 NX bl x0 x1 x2 x3 x4 x5 x6 PU
  go_wp2_with fail
  refine PU5.out.mono ?_
  rintro e w6 ⟨rfl, hM, hK⟩
  have P6 := hide (P5.out.turn hM hK)
  have R6 := hide (hK.blk R5.out R5.out.lt (by simp; omega))
  have B6 := hide ((But.of (L := [g, x]) B5.out (Nat.le_refl _)).trans (hK.mono B5.out.size (fun y hy _ => by simp at hy ⊢; exact Or.inl hy)))
  obtain ⟨z0, z1, z2, z3, z4, z5, z6, zl⟩ := P6.out.hd.seven
  have z9 := P6.out.hd.frozen 6
  have SZ := hide (ssize_c w6 P6.out)
  clear PU5 hM hK P5 R5 B5 y0 y1 y2 y3 y4 y5 y6 PH
  go_wp2_with fail
  refine SZ.out.mono ?_
  rintro e w6 ⟨rfl, rfl⟩
  have P7 := hide (P6.out.move hjN)
  have R7 := hide (R6.out.far (show w.heap.size ≠ x by omega) 6 (.int .i64 (j : Int)))
  have B7 := hide (B6.out.trans (hide ((But.putx x 6 (.int .i64 (j : Int)) w6 w.heap.size).mono (Nat.le_refl _) (fun y hy _ => by simp at hy ⊢; exact Or.inr hy))).out)
  have BK7 := hide (BK.out _ P7.out.hd)
  clear SZ BK P6 R6 B6
  go_wp2_with fail
  refine BK7.out.mono ?_
  rintro e w8 ⟨rfl, hb⟩
  have R8 := R7.out.below hb
  obtain ⟨r0, r1, r2, r3, r4, r5, r6, r7, r8⟩ := R8.four
  have P8 := hide (P7.out.below hb)
  have B8 := hide (B7.out.trans (But.of (L := [g, x]) hb B7.out.size))
  have hs : w.heap.size ≤ w8.heap.size := B8.out.size
  clear BK7 hb R7 B7 P7 R8
  go_wp2
  have E : ∀ W', Below w.heap.size w8 W' → SetAt W' v h l b k x a g N (upd f i true) j ∧ But [g, x] w.heap.size w W' := fun W' q => ⟨P8.out.keep q pl.1 pl.2.1 pl.2.2, B8.out.trans (But.of q (Nat.le_refl _))⟩
  refine bodyPost_ret (v := .tuple #[pv v rh rl k, .int .i64 0]) (by simp [results, Tryz.results46, go_sem, World.cell?_setCell_same', World.cell?_setCell_other, *]) rfl ⟨rfl, E _ (by repeat (first | with_reducible exact Below.refl _ _ | with_reducible refine Below.drew ?_ | with_reducible refine Below.alloc ?_ (by first | omega | (simp <;> omega)) _ | with_reducible refine Below.setCell ?_ (by first | omega | (simp <;> omega)) _))⟩

set_option maxHeartbeats 1600000 in
theorem shas_err {v u : Bool} {h l b k qh ql c E : Int} {a x g n m N cu : Nat} {f : Nat → Bool} (O : SetOf v h l b k n N) (hq : IsNum qh ql m) (hE : qE v n b u m c = E) (h0 : ¬ E = 0) (w : World) (P : SetAt w v h l b k x a g N f cu) :
    Calls Tryz.prog 34 #[.pointer (some ⟨x, 0, none⟩), pv u qh ql c] w fun e w' => e = .returned (.bool false) ∧ Below w.heap.size w w' := by
  have K := hide (sq_start (u := u) (qh := qh) (ql := ql) (c := c) w P.hd)
  have SP := hide (sspan_err O hq hE h0 _ K.out.2.1.2.1)
  clear O hq hE P
  go_enter Tryz.func34, Tryz.ntmps34
  go_wp2_with fail
  refine SP.out.mono ?_
  rintro e w1 ⟨rfl, hb⟩
  have B := (K.out.below hb).bel
  clear SP hb K
  go_wp2
  go_ret
  exact ⟨rfl, B⟩

set_option maxRecDepth 100000 in
set_option maxHeartbeats 1600000 in
theorem shas_ok {v : Bool} {h l b k qh ql c : Int} {a x g n m N cu : Nat} {f : Nat → Bool} {T : Bool} (O : SetOf v h l b k n N) (hq : IsNum qh ql m) (hq0 : okP v m c = true) (ho : overB v n b v m c = true) (hB : T = true ↔ ∃ p, f p = true ∧ ovP v n k N v m c p = true) (w : World) (P : SetAt w v h l b k x a g N f cu) :
    Calls Tryz.prog 34 #[.pointer (some ⟨x, 0, none⟩), pv v qh ql c] w fun e w' => e = .returned (.bool T) ∧ Below w.heap.size w w' := by
  obtain ⟨s1, s2, _⟩ := sp_facts O.cut hq0 ho O.num.lt hq.lt
  rw [O.len] at s2
  rw [ovP_row O.cut O.len hq0 ho O.num.lt hq.lt] at hB
  have K := hide (sq_start (u := v) (qh := qh) (ql := ql) (c := c) w P.hd)
  have SP := hide (sspan_ok O hq hq0 ho _ K.out.2.1.2.1)
  have le := O.small
  obtain ⟨A, hA⟩ : ∃ A, spA v n b k m c = A := ⟨_, rfl⟩
  obtain ⟨Z, hZ⟩ : ∃ Z, spZ v n b k m c = Z := ⟨_, rfl⟩
  rw [hA, hZ] at SP hB s1
  rw [hZ] at s2
  have PH := hide P
  have HB := hide hB
  clear O hq hq0 ho P hA hZ hB
  go_enter Tryz.func34, Tryz.ntmps34
  go_wp2_with fail
  refine SP.out.mono ?_
  rintro e w1 ⟨rfl, hb⟩
  have B1 := hide (K.out.below hb).bel
  clear SP hb K
  go_wp2_with fail
  go_loopw [8] (fun t wr => ∃ j : Nat, A ≤ j ∧ j ≤ Z + 1 ∧ t = .int .i64 j ∧ Hid (∀ q, A ≤ q → q < j → f q = false) ∧ Hid (Below w.heap.size w wr)) (fun t _ => Z + 1 - (intOf t).toNat)
  case atStart => exact ⟨A, Nat.le_refl _, by omega, rfl, fun q h1 h2 => absurd h2 (by omega), B1⟩
  case round =>
    obtain ⟨j, hj1, hj2, rfl, G, B⟩ := hrel
    clear B1
    by_cases hlt : j ≤ Z
    · have hlt' : (j : Int) ≤ Z := by omega
      have P1 := hide (PH.out.below B.out)
      obtain ⟨x0, x1, x2, x3, x4, x5, x6, xl⟩ := P1.out.hd.seven
      have HA := hide (bhas_ok a g N j f (by omega) wr P1.out.m)
      cases hfj : f j
      · have G2 : Hid (∀ q, A ≤ q → q < j + 1 → f q = false) := fun q h1 h2 => by
          by_cases e : q = j
          · subst e; exact hfj
          · exact G.out q h1 (by omega)
        rw [hfj] at HA
        clear G hfj P1
        go_wp2_with fail
        refine HA.out.mono ?_
        rintro e w3 ⟨rfl, hb3⟩
        have B3 := hide (B.out.trans (hb3.mono B.out.size))
        clear HA hb3 B x0 x1 x2 x3 x4 x5 x6
        go_wp2
        go_roundw
        case rel => exact ⟨j + 1, by omega, by omega, by go_num, G2, B3⟩
        case measure => simp [intOf]; omega
      · have t : T = true := HB.out.2 ⟨j, hfj, decide_eq_true ⟨hj1, hlt⟩⟩
        subst t
        rw [hfj] at HA
        clear G hfj P1 HB
        go_wp2_with fail
        refine HA.out.mono ?_
        rintro e w3 ⟨rfl, hb3⟩
        have B3 := B.out.trans (hb3.mono B.out.size)
        clear HA hb3 B x0 x1 x2 x3 x4 x5 x6
        go_wp2
        go_ret
        exact ⟨rfl, B3⟩
    · have hlt' : ¬ (j : Int) ≤ Z := by omega
      have t : T = false := by
        cases hT : T
        · rfl
        · obtain ⟨p, h1, h2⟩ := HB.out.1 hT
          have h3 : A ≤ p ∧ p ≤ Z := of_decide_eq_true h2
          rw [G.out p h3.1 (by omega)] at h1
          cases h1
      subst t
      have B3 := B.out
      clear G B HB
      go_wp2
      go_ret
      exact ⟨rfl, B3⟩

theorem shas_c {v u : Bool} {h l b k qh ql c : Int} {a x g n m N cu : Nat} {f : Nat → Bool} {T : Bool} (O : SetOf v h l b k n N) (hq : IsNum qh ql m) (hB : T = true ↔ ∃ p, f p = true ∧ ovP v n k N u m c p = true) (w : World) (P : SetAt w v h l b k x a g N f cu) :
    Calls Tryz.prog 34 #[.pointer (some ⟨x, 0, none⟩), pv u qh ql c] w fun e w' => e = .returned (.bool T) ∧ Below w.heap.size w w' := by
  rcases qE_is (v := v) (u := u) (n := n) (m := m) (b := b) (c := c) with ⟨h1, rfl, h2, h3⟩ | ⟨h1, h2⟩
  · exact shas_ok O hq h2 h3 hB w P
  · have t : T = false := by
      cases hT : T
      · rfl
      · obtain ⟨p, _, h4⟩ := hB.1 hT
        rw [ovP_none O.cut O.len O.num.lt hq.lt h2] at h4
        cases h4
    subst t
    exact shas_err O hq rfl h1 w P
end Go.Proofs.YtllidkflgjjkfaaGreatDoor

namespace Go.Proofs.YtllidkflgjjkfaaGreatDoor
open Go.ChangeShapes Go.WideShapes Go.ChangeAt Go.RowKit
set_option linter.unusedVariables false
set_option linter.unusedSimpArgs false

theorem infoPfx7 : (Tryz.prog.info? 28).map (fun i => (i.zero, i.size, i.bytes)) = some (some (.agg #[.bool false, .int .u64 0, .int .u64 0, .int .i64 0]), 4, 32) := by kernel_rfl

theorem num_parts7 {a : Nat} (h : a < 340282366920938463463374607431768211456) : IsNum ((a / 18446744073709551616 : Nat) : Int) ((a % 18446744073709551616 : Nat) : Int) a := by
  have := IsNum.ofNat (H := a / 18446744073709551616) (L := a % 18446744073709551616) (by omega) (by omega)
  rw [show a / 18446744073709551616 * 18446744073709551616 + a % 18446744073709551616 = a by omega] at this
  exact this

/-- The cells of one block. -/
def cellB (v : Bool) (n : Nat) (k : Int) (j : Nat) : List Value := [.bool v, .int .u64 ((blkN v n k j / 18446744073709551616 : Nat) : Int), .int .u64 ((blkN v n k j % 18446744073709551616 : Nat) : Int), .int .i64 k]

/-- The cells of the blocks that are used. -/
def cellsB (v : Bool) (n : Nat) (k : Int) (f : Nat → Bool) : Nat → List Value
  | 0 => []
  | j + 1 => if f j then cellsB v n k f j ++ cellB v n k j else cellsB v n k f j

theorem four_new7 (W : World) (x y z s : Value) (t : TypeId) : ∀ (j : Nat) (u : Value), [x, y, z, s][j]? = some u → (W.alloc (.cells #[x, y, z, s] t)).cell? ((⟨W.heap.size, 0, none⟩ : Addr).add j) = some u := by
  intro j u hj
  have e : ((⟨W.heap.size, 0, none⟩ : Addr).add j) = ⟨W.heap.size, j, none⟩ := by
    unfold Addr.add
    split <;> simp_all
  rw [e, (Blk.new W #[x, y, z, s] t).cell j]
  simpa using hj

set_option maxRecDepth 100000 in
set_option maxHeartbeats 3200000 in
theorem sused_c {v : Bool} {h l b k : Int} {x a g n N cu : Nat} {f : Nat → Bool} (O : SetOf v h l b k n N) (w : World) (P0 : SetAt w v h l b k x a g N f cu) :
    Calls Tryz.prog 38 #[.pointer (some ⟨x, 0, none⟩)] w fun e w' => ∃ sv, e = .returned sv ∧ w'.ownsRow w.heap.size 28 4 sv (cnt f N) (cellsB v n k f N) ∧ Below w.heap.size w w' := by
  have le := O.small
  have HT := hide (fun (j : Nat) (hj : j < N) w' hx => sblock_c (a := a) (x := x) (cu := (cu : Int)) O hj (num_parts7 (blk_ok O.cut O.num.lt (by rw [O.len]; exact hj)).2) w' hx)
  obtain ⟨i0, hi, hz0, hz1, hz2⟩ := info_parts infoPfx7
  have PH := hide P0
  have SZ := hide (ssize_c w P0)
  clear P0 O
  go_enter Tryz.func38, Tryz.ntmps38
  go_wp2_with fail
  refine SZ.out.mono ?_
  rintro e w1 ⟨rfl, rfl⟩
  clear SZ
  go_wp2_with fail
  go_loopw [3, 7] (fun u i wr => ∃ j : Nat, j ≤ N ∧ i = .int .i64 j ∧ Hid (wr.ownsRow w1.heap.size 28 4 u (cnt f j) (cellsB v n k f j)) ∧ Below w1.heap.size w1 wr) (fun _ i _ => N - (intOf i).toNat)
  case atStart => exact ⟨0, by omega, rfl, World.ownsRow_nil _ _ _ _, Below.refl _ _⟩
  case round =>
    obtain ⟨j, hj, rfl, hown, hb⟩ := hrel
    have hs := hb.size
    by_cases hlt : j < N
    · have hlt' : (j : Int) < N := by omega
      have P1 := hide (PH.out.below hb)
      obtain ⟨x0, x1, x2, x3, x4, x5, x6, xl⟩ := P1.out.hd.seven
      have HA := hide (bhas_ok a g N j f hlt wr P1.out.m)
      have cj : cnt f j ≤ j := cnt_le _ _
      cases hfj : f j
      · rw [hfj] at HA
        have e1 : Hid (cnt f (j + 1) = cnt f j ∧ cellsB v n k f (j + 1) = cellsB v n k f j) := by
          constructor
          · simp [cnt, hfj]
          · simp [cellsB, hfj]
        clear hfj P1
        go_wp2_with fail
        refine HA.out.mono ?_
        rintro e w3 ⟨rfl, hb3⟩
        have O3 := hide (own_below hown.out hb3)
        have B3 := hb.trans (hb3.mono hs)
        clear HA hown hb3 hb x0 x1 x2 x3 x4 x5 x6
        go_wp2
        go_roundw
        case rel => exact ⟨j + 1, by omega, by go_num, by rw [e1.out.1, e1.out.2]; exact O3, B3⟩
        case measure => simp [intOf]; omega
      · rw [hfj] at HA
        have e1 : Hid (cnt f (j + 1) = cnt f j + 1 ∧ cellsB v n k f (j + 1) = cellsB v n k f j ++ cellB v n k j) := by
          constructor
          · simp [cnt, hfj]
          · simp [cellsB, hfj]
        unfold cellB at e1
        obtain ⟨ah, hah⟩ : ∃ ah : Int, ((blkN v n k j / 18446744073709551616 : Nat) : Int) = ah := ⟨_, rfl⟩
        obtain ⟨al, hal⟩ : ∃ al : Int, ((blkN v n k j % 18446744073709551616 : Nat) : Int) = al := ⟨_, rfl⟩
        have HJ := HT.out j hlt
        rw [hah, hal] at e1 HJ
        have HJH := hide HJ
        clear hfj hah hal HJ
        go_wp2_with fail
        refine HA.out.mono ?_
        rintro e w3 ⟨rfl, hb3⟩
        have O3 := hide (own_below hown.out hb3)
        have B3 := hide (hb.trans (hb3.mono hs))
        have HOW := hide (HJH.out w3 (P1.out.below hb3).hd)
        clear HA hown hb3 hb hs HJH P1 x0 x1 x2 x3 x4 x5 x6
        go_wp2_with fail
        refine HOW.out.mono ?_
        rintro e w4 ⟨rfl, hb4⟩
        have O4 := hide (own_below O3.out hb4)
        have B4 := hide (B3.out.trans (hb4.mono B3.out.size))
        have hs4 : w1.heap.size ≤ w4.heap.size := B4.out.size
        have N4 := four_new7 w4 (.bool v) (.int .u64 ah) (.int .u64 al) (.int .i64 k) 28
        have hone : ∀ u ∈ [Value.bool v, .int .u64 ah, .int .u64 al, .int .i64 k], u.oneCell' = true := by
          intro u hu
          simp at hu
          rcases hu with rfl | rfl | rfl | rfl <;> rfl
        clear HOW O3 B3 hb4
        go_wp2_with (first | (at_builtin; refine wpList_append_own _ rfl _ _ 72 rfl w1.heap.size 28 i0 (.agg #[.bool false, .int .u64 0, .int .u64 0, .int .i64 0]) 4 32 Tryz.underlying72 hi hz0 hz1 hz2 rfl (by decide) _ _ _ rfl (O4.out.alloc _) ⟨w4.heap.size, 0, none⟩ 1 1 [.bool v, .int .u64 ah, .int .u64 al, .int .i64 k] rfl rfl N4 hone ?c3 ?c4 ?c5 ?_))
        case c3 => unfold maxLen; omega
        case c4 => omega
        case c5 => simp; omega
        intro v' w5 hown5 hgrow _
        have B5 : Below w1.heap.size w1 w5 := below_grown B4.out hs4 O4.out hgrow
        have O5 := hide hown5
        clear O4 B4 hown5 hgrow N4 hone
        go_wp2
        go_roundw
        case rel => exact ⟨j + 1, by omega, by go_num, by rw [e1.out.1, e1.out.2]; exact O5, B5⟩
        case measure => simp [intOf]; omega
    · obtain rfl : j = N := by omega
      have hlt' : ¬ (j : Int) < j := by omega
      have O6 := hide hown.out
      have B6 := hide hb
      clear hown hb hs
      go_wp2
      go_ret
      exact ⟨_, rfl, O6.out, B6.out⟩
end Go.Proofs.YtllidkflgjjkfaaGreatDoor

namespace Go.Proofs.YtllidkflgjjkfaaGreatDoor
open Go.ChangeShapes Go.WideShapes Go.ChangeAt Go.RowKit
set_option linter.unusedVariables false
set_option linter.unusedSimpArgs false

/-- The cells of all blocks. -/
def allB (v : Bool) (n : Nat) (k : Int) (N : Nat) : List Value := cellsB v n k (fun _ => true) N

theorem allB_succ (v : Bool) (n : Nat) (k : Int) (N : Nat) : allB v n k (N + 1) = allB v n k N ++ cellB v n k N := by
  unfold allB
  simp [cellsB]

theorem allB_len (v : Bool) (n : Nat) (k : Int) : ∀ N, (allB v n k N).length = N * 4
  | 0 => rfl
  | N + 1 => by
    rw [allB_succ, List.length_append, allB_len v n k N]
    simp [cellB]
    omega

theorem allB_at (v : Bool) (n : Nat) (k : Int) : ∀ (N i : Nat), i < N → (allB v n k N)[i * 4]? = some (.bool v) ∧ (allB v n k N)[i * 4 + 1]? = some (.int .u64 ((blkN v n k i / 18446744073709551616 : Nat) : Int)) ∧ (allB v n k N)[i * 4 + 2]? = some (.int .u64 ((blkN v n k i % 18446744073709551616 : Nat) : Int)) ∧ (allB v n k N)[i * 4 + 3]? = some (.int .i64 k)
  | 0, i, h => absurd h (by omega)
  | N + 1, i, h => by
    have le := allB_len v n k N
    rw [allB_succ]
    by_cases e : i < N
    · obtain ⟨h0, h1, h2, h3⟩ := allB_at v n k N i e
      refine ⟨?_, ?_, ?_, ?_⟩
      · rw [List.getElem?_append_left (by omega)]; exact h0
      · rw [List.getElem?_append_left (by omega)]; exact h1
      · rw [List.getElem?_append_left (by omega)]; exact h2
      · rw [List.getElem?_append_left (by omega)]; exact h3
    · obtain rfl : i = N := by omega
      refine ⟨?_, ?_, ?_, ?_⟩
      · rw [List.getElem?_append_right (by omega), show i * 4 - (allB v n k i).length = 0 by omega]; rfl
      · rw [List.getElem?_append_right (by omega), show i * 4 + 1 - (allB v n k i).length = 1 by omega]; rfl
      · rw [List.getElem?_append_right (by omega), show i * 4 + 2 - (allB v n k i).length = 2 by omega]; rfl
      · rw [List.getElem?_append_right (by omega), show i * 4 + 3 - (allB v n k i).length = 3 by omega]; rfl

theorem Blk.eight {W : World} {b : Nat} {x y z u s r q p : Value} {t : TypeId} (h : Blk W b #[x, y, z, u, s, r, q, p] t) : W.cell? ⟨b, 0, none⟩ = some x ∧ W.cell? ⟨b, 1, none⟩ = some y ∧ W.cell? ⟨b, 2, none⟩ = some z ∧ W.cell? ⟨b, 3, none⟩ = some u ∧ W.cell? ⟨b, 4, none⟩ = some s ∧ W.cell? ⟨b, 5, none⟩ = some r ∧ W.cell? ⟨b, 6, none⟩ = some q ∧ W.cell? ⟨b, 7, none⟩ = some p ∧ b < W.heap.size :=
  ⟨h.cell 0, h.cell 1, h.cell 2, h.cell 3, h.cell 4, h.cell 5, h.cell 6, h.cell 7, h.lt⟩

/-- The reference's set. -/
structure RAt (W : World) (v : Bool) (h l b k : Int) (r gl cap gu n N : Nat) (f : Nat → Bool) (c : Nat) : Prop where
  hd : Blk W r #[.bool v, .int .u64 h, .int .u64 l, .int .i64 b, .int .i64 k, .slice (some ⟨gl, 0, none⟩) N cap, .slice (some ⟨gu, 0, none⟩) N N, .int .i64 (c : Int)] 77
  row : ∃ cur, Blk W gl cur 28 ∧ ∀ (j : Nat) (u : Value), (allB v n k N)[j]? = some u → cur[j]? = some u
  used : Blk W gu ((List.range N).map (fun p => Value.bool (f p))).toArray 4
  cur : c < N

theorem RAt.lt {W : World} {v : Bool} {h l b k : Int} {r gl cap gu n N c : Nat} {f : Nat → Bool} (R : RAt W v h l b k r gl cap gu n N f c) : r < W.heap.size ∧ gl < W.heap.size ∧ gu < W.heap.size := by
  obtain ⟨cu, h1, _⟩ := R.row
  exact ⟨R.hd.lt, h1.lt, R.used.lt⟩

theorem RAt.ne {W : World} {v : Bool} {h l b k : Int} {r gl cap gu n N c : Nat} {f : Nat → Bool} (R : RAt W v h l b k r gl cap gu n N f c) : gu ≠ r ∧ gl ≠ r ∧ gl ≠ gu := by
  obtain ⟨cu, h1, _⟩ := R.row
  exact ⟨R.used.ne R.hd (by decide), h1.ne R.hd (by decide), h1.ne R.used (by decide)⟩

theorem RAt.blks {W W' : World} {v : Bool} {h l b k : Int} {r gl cap gu n N c : Nat} {f : Nat → Bool} (R : RAt W v h l b k r gl cap gu n N f c) (e1 : W'.heap[r]? = W.heap[r]?) (e2 : W'.heap[gl]? = W.heap[gl]?) (e3 : W'.heap[gu]? = W.heap[gu]?) : RAt W' v h l b k r gl cap gu n N f c := by
  obtain ⟨cu, h1, h2⟩ := R.row
  exact ⟨e1.trans R.hd, ⟨cu, e2.trans h1, h2⟩, e3.trans R.used, R.cur⟩

theorem RAt.below {W W' : World} {v : Bool} {h l b k : Int} {r gl cap gu n N c : Nat} {f : Nat → Bool} (R : RAt W v h l b k r gl cap gu n N f c) (q : Below W.heap.size W W') : RAt W' v h l b k r gl cap gu n N f c :=
  R.blks (q.block _ R.lt.1) (q.block _ R.lt.2.1) (q.block _ R.lt.2.2)

theorem RAt.keep {B : Nat} {W W' : World} {v : Bool} {h l b k : Int} {r gl cap gu n N c : Nat} {f : Nat → Bool} (R : RAt W v h l b k r gl cap gu n N f c) (q : Below B W W') (h1 : r < B) (h2 : gl < B) (h3 : gu < B) : RAt W' v h l b k r gl cap gu n N f c :=
  R.blks (q.block _ h1) (q.block _ h2) (q.block _ h3)

theorem RAt.but {L : List Nat} {W W' : World} {v : Bool} {h l b k : Int} {r gl cap gu n N c : Nat} {f : Nat → Bool} (R : RAt W v h l b k r gl cap gu n N f c) (q : But L W.heap.size W W') (h1 : r ∉ L) (h2 : gl ∉ L) (h3 : gu ∉ L) : RAt W' v h l b k r gl cap gu n N f c :=
  R.blks (q.block _ R.lt.1 h1) (q.block _ R.lt.2.1 h2) (q.block _ R.lt.2.2 h3)

theorem RAt.at {W : World} {v : Bool} {h l b k : Int} {r gl cap gu n N c : Nat} {f : Nat → Bool} (R : RAt W v h l b k r gl cap gu n N f c) {i : Nat} (hi : i < N) : W.cell? ⟨gl, i * 4, none⟩ = some (.bool v) ∧ W.cell? ⟨gl, i * 4 + 1, none⟩ = some (.int .u64 ((blkN v n k i / 18446744073709551616 : Nat) : Int)) ∧ W.cell? ⟨gl, i * 4 + 2, none⟩ = some (.int .u64 ((blkN v n k i % 18446744073709551616 : Nat) : Int)) ∧ W.cell? ⟨gl, i * 4 + 3, none⟩ = some (.int .i64 k) := by
  obtain ⟨cu, h1, h2⟩ := R.row
  obtain ⟨a0, a1, a2, a3⟩ := allB_at v n k N i hi
  exact ⟨(h1.cell _).trans (h2 _ _ a0), (h1.cell _).trans (h2 _ _ a1), (h1.cell _).trans (h2 _ _ a2), (h1.cell _).trans (h2 _ _ a3)⟩

theorem RAt.get {W : World} {v : Bool} {h l b k : Int} {r gl cap gu n N c : Nat} {f : Nat → Bool} (R : RAt W v h l b k r gl cap gu n N f c) {i : Nat} (hi : i < N) : W.cell? ⟨gu, i, none⟩ = some (.bool (f i)) := by
  rw [R.used.cell i]
  simp [hi]

theorem RAt.put {W : World} {v : Bool} {h l b k : Int} {r gl cap gu n N c : Nat} {f : Nat → Bool} (R : RAt W v h l b k r gl cap gu n N f c) (i : Nat) (t : Bool) : RAt (W.setCell ⟨gu, i, none⟩ (.bool t)) v h l b k r gl cap gu n N (upd f i t) c := by
  obtain ⟨cu, h1, h2⟩ := R.row
  refine ⟨R.hd.far R.ne.1.symm i _, ⟨cu, h1.far R.ne.2.2 i _, h2⟩, ?_, R.cur⟩
  have e : ((List.range N).map (fun p => Value.bool (f p))).toArray.setIfInBounds i (.bool t) = ((List.range N).map (fun p => Value.bool (upd f i t p))).toArray := by
    apply Array.ext'
    simp only [Array.toList_setIfInBounds]
    apply List.ext_getElem?
    intro p
    rw [List.getElem?_set]
    by_cases hp : i = p
    · subst hp
      by_cases hi : i < N <;> simp [hi, upd]
    · rw [if_neg hp]
      by_cases hi : p < N
      · simp [hi, upd, Ne.symm hp]
      · simp [hi]
  rw [← e]
  exact R.used.put i _

theorem RAt.cast {W : World} {v : Bool} {h l b k : Int} {r gl cap gu n N c : Nat} {f f' : Nat → Bool} (R : RAt W v h l b k r gl cap gu n N f c) (e : ∀ p, p < N → f p = f' p) : RAt W v h l b k r gl cap gu n N f' c := by
  refine ⟨R.hd, R.row, ?_, R.cur⟩
  rw [← List.map_congr_left (l := List.range N) (f := fun p => Value.bool (f p)) (g := fun p => Value.bool (f' p)) (fun p hp => by rw [e p (List.mem_range.1 hp)])]
  exact R.used

theorem RAt.move {W : World} {v : Bool} {h l b k : Int} {r gl cap gu n N c c' : Nat} {f : Nat → Bool} (R : RAt W v h l b k r gl cap gu n N f c) (hc : c' < N) : RAt (W.setCell ⟨r, 7, none⟩ (.int .i64 (c' : Int))) v h l b k r gl cap gu n N f c' := by
  obtain ⟨cu, h1, h2⟩ := R.row
  exact ⟨by simpa using R.hd.put 7 (.int .i64 (c' : Int)), ⟨cu, h1.far R.ne.2.1 7 _, h2⟩, R.used.far R.ne.1 7 _, hc⟩

theorem RAt.far {W : World} {v : Bool} {h l b k : Int} {r gl cap gu n N c D : Nat} {f : Nat → Bool} (R : RAt W v h l b k r gl cap gu n N f c) (h1 : r ≠ D) (h2 : gl ≠ D) (h3 : gu ≠ D) (i : Nat) (u : Value) : RAt (W.setCell ⟨D, i, none⟩ u) v h l b k r gl cap gu n N f c := by
  obtain ⟨cu, g1, g2⟩ := R.row
  exact ⟨R.hd.far h1 i u, ⟨cu, g1.far h2 i u, g2⟩, R.used.far h3 i u, R.cur⟩
end Go.Proofs.YtllidkflgjjkfaaGreatDoor

namespace Go.Proofs.YtllidkflgjjkfaaGreatDoor
open Go.ChangeShapes Go.WideShapes Go.ChangeAt Go.RowKit
set_option linter.unusedVariables false
set_option linter.unusedSimpArgs false

/-- Some block overlaps just where the prefix does. -/
theorem some_over {v u : Bool} {h l b k qh ql c : Int} {n m N : Nat} (O : SetOf v h l b k n N) (hq : IsNum qh ql m) (hq0 : okP u m c = true) : (∃ p, p < N ∧ ovP v n k N u m c p = true) ↔ overB v n b u m c = true := by
  constructor
  · rintro ⟨p, h1, h2⟩
    cases ho : overB v n b u m c
    · rw [ovP_none O.cut O.len O.num.lt hq.lt (Or.inr ho)] at h2
      cases h2
    · rfl
  · intro ho
    obtain rfl := over_fam ho
    obtain ⟨s1, s2, _⟩ := sp_facts O.cut hq0 ho O.num.lt hq.lt
    rw [O.len] at s2
    refine ⟨spA v n b k m c, by omega, ?_⟩
    rw [ovP_row O.cut O.len hq0 ho O.num.lt hq.lt]
    exact decide_eq_true ⟨Nat.le_refl _, s1⟩

/-- What a loop has done that has come to j. -/
def midF (f f' : Nat → Bool) (j : Nat) : Nat → Bool := fun p => if p < j then f' p else f p

theorem midF_zero {f f' : Nat → Bool} : midF f f' 0 = f := by
  funext p
  unfold midF
  rw [if_neg (by omega)]

theorem midF_skip {f f' : Nat → Bool} {j : Nat} (h : f' j = f j) : midF f f' (j + 1) = midF f f' j := by
  funext p
  unfold midF
  by_cases e : p = j
  · subst e; rw [if_pos (by omega), if_neg (by omega), h]
  · by_cases e2 : p < j
    · rw [if_pos (by omega), if_pos e2]
    · rw [if_neg (by omega), if_neg e2]

theorem midF_put {f f' : Nat → Bool} {j : Nat} {t : Bool} (h : f' j = t) : midF f f' (j + 1) = upd (midF f f' j) j t := by
  funext p
  show (if p < j + 1 then f' p else f p) = (if p = j then t else (if p < j then f' p else f p))
  by_cases e : p = j
  · subst e; rw [if_pos (by omega), if_pos rfl, h]
  · rw [if_neg e]
    by_cases e2 : p < j
    · rw [if_pos (by omega), if_pos e2]
    · rw [if_neg (by omega), if_neg e2]

theorem cnt_skip {q : Nat → Bool} {j : Nat} (h : q j = false) : cnt q (j + 1) = cnt q j := by simp only [cnt]; rw [if_neg (by simp [h])]; rfl

theorem cnt_step {q : Nat → Bool} {j : Nat} (h : q j = true) : cnt q (j + 1) = cnt q j + 1 := by simp only [cnt]; rw [if_pos h]

/-- What a round of the reference reads. -/
def RX (r : Nat) (v : Bool) (h l b k : Int) (gl cap gu N c : Nat) (i : Nat) (rh rl : Int) (Q : Nat) (u : Bool) (qh ql cq : Int) (t : Bool) (Z : World → Prop) (W : World) : Prop :=
  (W.cell? ⟨r, 0, none⟩ = some (.bool v) ∧ W.cell? ⟨r, 5, none⟩ = some (.slice (some ⟨gl, 0, none⟩) N cap) ∧ W.cell? ⟨r, 6, none⟩ = some (.slice (some ⟨gu, 0, none⟩) N N) ∧ W.cell? ⟨gl, i * 4, none⟩ = some (.bool v) ∧ W.cell? ⟨gl, i * 4 + 1, none⟩ = some (.int .u64 rh) ∧ W.cell? ⟨gl, i * 4 + 2, none⟩ = some (.int .u64 rl) ∧ W.cell? ⟨gl, i * 4 + 3, none⟩ = some (.int .i64 k) ∧ W.cell? ⟨gu, i, none⟩ = some (.bool t) ∧ W.cell? ⟨Q, 0, none⟩ = some (.bool u) ∧ W.cell? ⟨Q, 1, none⟩ = some (.int .u64 qh) ∧ W.cell? ⟨Q, 2, none⟩ = some (.int .u64 ql) ∧ W.cell? ⟨Q, 3, none⟩ = some (.int .i64 cq)) ∧ Hid (Z W)

theorem cell_in8 {W : World} {b o : Nat} {v : Value} (h : W.cell? ⟨b, o, none⟩ = some v) : b < W.heap.size := by
  apply Classical.byContradiction
  intro c
  simp only [World.cell?] at h
  rw [Array.getElem?_eq_none (by omega)] at h
  cases h

theorem RX.below {r : Nat} {v : Bool} {h l b k : Int} {gl cap gu N c : Nat} {i : Nat} {rh rl : Int} {Q : Nat} {u : Bool} {qh ql cq : Int} {t : Bool} {Z : World → Prop} {W W' : World} (s : RX r v h l b k gl cap gu N c i rh rl Q u qh ql cq t Z W) (q : Below W.heap.size W W') (z : Z W → Z W') : RX r v h l b k gl cap gu N c i rh rl Q u qh ql cq t Z W' := by
  obtain ⟨⟨a0, a1, a2, a3, a4, a5, a6, a7, a8, a9, b0, b1⟩, s2⟩ := s
  have e : ∀ {B o v}, W.cell? ⟨B, o, none⟩ = some v → W'.cell? ⟨B, o, none⟩ = some v := fun {B o v} hh => ((bcell q).1 B o (cell_in8 hh)).trans hh
  exact ⟨⟨e a0, e a1, e a2, e a3, e a4, e a5, e a6, e a7, e a8, e a9, e b0, e b1⟩, z s2.out⟩

/-- What is kept while the reference's loops run. -/
def RZ (v : Bool) (h l b k : Int) (r gl cap gu n N : Nat) (f : Nat → Bool) (c Q : Nat) (u : Bool) (qh ql cq : Int) (w : World) (W : World) : Prop :=
  RAt W v h l b k r gl cap gu n N f c ∧ Blk W Q #[.bool u, .int .u64 qh, .int .u64 ql, .int .i64 cq] 28 ∧ But [gu] w.heap.size w W

theorem RZ.below {v : Bool} {h l b k : Int} {r gl cap gu n N : Nat} {f : Nat → Bool} {c Q : Nat} {u : Bool} {qh ql cq : Int} {w W W' : World} (s : RZ v h l b k r gl cap gu n N f c Q u qh ql cq w W) (q : Below W.heap.size W W') : RZ v h l b k r gl cap gu n N f c Q u qh ql cq w W' :=
  ⟨s.1.below q, s.2.1.below q, s.2.2.trans (But.of q s.2.2.size)⟩

theorem RX.of {v : Bool} {h l b k : Int} {r gl cap gu n N c i Q : Nat} {f : Nat → Bool} {u : Bool} {qh ql cq rh rl : Int} {t : Bool} {w W : World} (s : RZ v h l b k r gl cap gu n N f c Q u qh ql cq w W) (hi : i < N) (ht : f i = t) (hrh : ((blkN v n k i / 18446744073709551616 : Nat) : Int) = rh) (hrl : ((blkN v n k i % 18446744073709551616 : Nat) : Int) = rl) : RX r v h l b k gl cap gu N c i rh rl Q u qh ql cq t (RZ v h l b k r gl cap gu n N f c Q u qh ql cq w) W := by
  obtain ⟨l0, l1, l2, l3⟩ := s.1.at hi
  rw [hrh] at l1
  rw [hrl] at l2
  have g := s.1.get hi
  rw [ht] at g
  exact ⟨⟨s.1.hd.cell 0, s.1.hd.cell 5, s.1.hd.cell 6, l0, l1, l2, l3, g, s.2.1.cell 0, s.2.1.cell 1, s.2.1.cell 2, s.2.1.cell 3⟩, s⟩

theorem RX.drew {r : Nat} {v : Bool} {h l b k : Int} {gl cap gu n N c : Nat} {i : Nat} {rh rl : Int} {Q : Nat} {u : Bool} {qh ql cq : Int} {t : Bool} {f : Nat → Bool} {w W : World} (s : RX r v h l b k gl cap gu N c i rh rl Q u qh ql cq t (RZ v h l b k r gl cap gu n N f c Q u qh ql cq w) W) : RX r v h l b k gl cap gu N c i rh rl Q u qh ql cq t (RZ v h l b k r gl cap gu n N f c Q u qh ql cq w) W.drew :=
  s.below (by repeat (first | with_reducible exact Below.refl _ _ | with_reducible refine Below.drew ?_ | with_reducible refine Below.alloc ?_ (by first | omega | (simp <;> omega)) _ | with_reducible refine Below.setCell ?_ (by first | omega | (simp <;> omega)) _)) (fun z => z.below (by repeat (first | with_reducible exact Below.refl _ _ | with_reducible refine Below.drew ?_ | with_reducible refine Below.alloc ?_ (by first | omega | (simp <;> omega)) _ | with_reducible refine Below.setCell ?_ (by first | omega | (simp <;> omega)) _)))

set_option maxHeartbeats 800000 in
theorem rset7_arg {v u : Bool} {qh ql c : Int} {r m : Nat} {t : Bool} (hq : IsNum qh ql m) (hq0 : okP u m c = false) (w : World) :
    Calls Tryz.prog 83 #[.pointer (some ⟨r, 0, none⟩), pv u qh ql c, .bool t] w fun e w' => e = .returned (.tuple #[.int .i64 0, .int .i64 1]) ∧ Below w.heap.size w w' := by
  have K := pfx_start7 w u qh ql c
  have RT := hide (fun w' => rpright_c (v := u) (b := c) hq w')
  rw [hq0] at RT
  clear hq hq0
  go_enter Tryz.func83, Tryz.ntmps83
  go_wp2_with fail
  refine (RT.out _).mono ?_
  rintro e w1 ⟨rfl, hb⟩
  have B := (K.below hb).bel
  clear RT hb K
  go_wp2
  go_ret2
  exact ⟨rfl, B⟩

set_option maxRecDepth 100000 in
set_option maxHeartbeats 3200000 in
theorem rset7_t {v u : Bool} {h l b k qh ql cq C E : Int} {r gl cap gu n m N c : Nat} {f f' : Nat → Bool} (O : SetOf v h l b k n N) (hq : IsNum qh ql m) (hq0 : okP u m cq = true) (hf : setO v n k N u m cq true f = f') (hC : cntO f f' = C) (hE : qE v n b u m cq = E) (w : World) (R : RAt w v h l b k r gl cap gu n N f c) :
    Calls Tryz.prog 83 #[.pointer (some ⟨r, 0, none⟩), pv u qh ql cq, .bool true] w fun e w' => e = .returned (.tuple #[.int .i64 C, .int .i64 E]) ∧ RAt w' v h l b k r gl cap gu n N f' c ∧ But [gu] w.heap.size w w' := by
  have bl : Below w.heap.size w (w.alloc (.cells #[.bool u, .int .u64 qh, .int .u64 ql, .int .i64 cq] 28)) := by repeat (first | with_reducible exact Below.refl _ _ | with_reducible refine Below.drew ?_ | with_reducible refine Below.alloc ?_ (by first | omega | (simp <;> omega)) _ | with_reducible refine Below.setCell ?_ (by first | omega | (simp <;> omega)) _)
  have Z0 : Hid (RZ v h l b k r gl cap gu n N (midF f f' 0) c w.heap.size u qh ql cq w (w.alloc (.cells #[.bool u, .int .u64 qh, .int .u64 ql, .int .i64 cq] 28))) := by
    show RZ _ _ _ _ _ _ _ _ _ _ _ _ _ _ _ _ _ _ _ _
    rw [midF_zero]
    exact ⟨R.below bl, Blk.new _ _ _, But.of bl (Nat.le_refl _)⟩
  have RT := hide (fun w' => rpright_c (v := u) (b := cq) hq w')
  rw [hq0] at RT
  have OV := hide (fun (i : Nat) (hi : i < N) (rh rl : Int) (hrh : ((blkN v n k i / 18446744073709551616 : Nat) : Int) = rh) (hrl : ((blkN v n k i % 18446744073709551616 : Nat) : Int) = rl) w' => rover_c (v := v) (u := u) (b := k) (c := cq) (hrl ▸ hrh ▸ num_parts7 (blk_ok O.cut O.num.lt (by rw [O.len]; exact hi)).2) hq w')
  have hN := O.small
  have SO := hide (some_over O hq hq0)
  have FO : Hid (∀ i, i < N → overB v (blkN v n k i) k u m cq = ovP v n k N u m cq i) := fun i hi => by unfold ovP; rw [decide_eq_true hi, Bool.true_and]
  have FV : Hid (∀ i, f' i = if ovP v n k N u m cq i then true else f i) := fun i => by rw [← hf]; rfl
  have CZ : Hid (∀ M, N ≤ M → cnt (fun p => f p != f' p) M = cnt (fun p => f p != f' p) N) := fun M hM => cnt_more hM (fun p h1 h2 => by
    have : ovP v n k N u m cq p = false := by unfold ovP; rw [decide_eq_false (by omega), Bool.false_and]
    rw [FV.out p, this]
    simp)
  have EQ : Hid (E = if overB v n b u m cq then 0 else 12) := by show _ = _; rw [← hE]; unfold qE; rw [hq0]; rfl
  have CC : Hid (C = ((cnt (fun p => f p != f' p) N : Nat) : Int)) := by show _ = _; rw [← hC]; unfold cntO; rw [CZ.out 65536 hN]
  obtain ⟨o, ho⟩ : ∃ o, ovP v n k N u m cq = o := ⟨_, rfl⟩
  rw [ho] at SO FO FV
  have x5 := R.hd.cell 5
  have xl := R.hd.lt
  clear O hq hq0 hf hC hE R bl CZ ho
  go_enter Tryz.func83, Tryz.ntmps83
  go_wp2_with fail
  refine (RT.out _).mono ?_
  rintro e w1 ⟨rfl, hb⟩
  have Z1 := hide (Z0.out.below hb)
  clear RT hb Z0 x5
  go_wp2_with fail
  go_loopw [8, 9, 10] (fun mv sv iv wr => ∃ (i q : Nat) (s : Bool), i ≤ N ∧ q ≤ i ∧ iv = .int .i64 i ∧ mv = .int .i64 q ∧ sv = .bool s ∧ Hid (cnt (fun p => f p != f' p) i = q) ∧ Hid (s = true ↔ ∃ p, p < i ∧ o p = true) ∧ Hid (RZ v h l b k r gl cap gu n N (midF f f' i) c w.heap.size u qh ql cq w wr)) (fun _ _ iv _ => N - (intOf iv).toNat)
  case atStart => exact ⟨0, 0, false, by omega, by omega, rfl, rfl, rfl, rfl, ⟨fun h => (by cases h), fun ⟨p, h1, _⟩ => absurd h1 (by omega)⟩, Z1⟩
  case round =>
    clear Z1
    obtain ⟨i, q, s, hi, hqi, rfl, rfl, rfl, hc, hs, Z⟩ := hrel
    obtain ⟨y0, y1, y2, y3, y4, y5, y6, y7, yl⟩ := Z.out.1.hd.eight
    by_cases hlt : i < N
    · have hlt' : (i : Int) < N := by omega
      obtain ⟨rh, hrh⟩ : ∃ rh : Int, ((blkN v n k i / 18446744073709551616 : Nat) : Int) = rh := ⟨_, rfl⟩
      obtain ⟨rl, hrl⟩ : ∃ rl : Int, ((blkN v n k i % 18446744073709551616 : Nat) : Int) = rl := ⟨_, rfl⟩
      have mf : midF f f' i i = f i := by unfold midF; rw [if_neg (by omega)]
      have O1 := hide (OV.out i hlt rh rl hrh hrl)
      rw [FO.out i hlt] at O1
      have fv := FV.out i
      cases hoi : o i
      · rw [hoi] at O1 fv
        have X0 := RX.of Z.out hlt (t := f i) mf hrh hrl
        have e1 : Hid (midF f f' (i + 1) = midF f f' i) := midF_skip (by rw [fv]; rfl)
        have e2 : Hid (cnt (fun p => f p != f' p) (i + 1) = q) := by show _ = _; rw [cnt_skip (by rw [fv]; simp), hc.out]
        have e3 : Hid (s = true ↔ ∃ p, p < i + 1 ∧ o p = true) := by
          show _ ↔ _
          rw [hs.out]
          constructor
          · rintro ⟨p, h1, h2⟩; exact ⟨p, by omega, h2⟩
          · rintro ⟨p, h1, h2⟩
            refine ⟨p, ?_, h2⟩
            apply Classical.byContradiction
            intro c
            obtain rfl : p = i := by omega
            rw [hoi] at h2
            cases h2
        clear hrh hrl mf hc hs hoi fv Z y0 y1 y2 y3 y4 y6 y7
        go_wp2_with fail
        refine wp_region_held_drew (S := (RX r v h l b k gl cap gu N c i rh rl w.heap.size u qh ql cq (f i) (RZ v h l b k r gl cap gu n N (midF f f' i) c w.heap.size u qh ql cq w))) (by kernel_rfl) ?hS100 (fun hHeld => ?rest100)
        case hS100 => (first | with_reducible exact X0.drew | with_reducible exact hHeld.below hb4 (fun z => z.below hb4))
        refine wtk7 (i := 0) (v := ?v101) (ga7 rfl) (by kernel_rfl) (fun _ _ _ h => h) ⟨by rfl, ?hy101⟩ (by assumption) ?rest101
        case hy101 => (intro wq hSw; (try simp only [Two, RX] at hSw); go_simp; try with_reducible rfl)
        try simp only [Act.put, sa7, sb7, sc7]
        refine wtk7 (i := 1) (v := ?v102) (ga7 rfl) (by kernel_rfl) (fun _ _ _ h => h) ⟨by rfl, ?hy102⟩ (by assumption) ?rest102
        case hy102 => (intro wq hSw; (try simp only [Two, RX] at hSw); go_simp; try with_reducible rfl)
        try simp only [Act.put, sa7, sb7, sc7]
        refine wtk7 (i := 2) (v := ?v103) (ga7 rfl) (by kernel_rfl) (fun _ _ _ h => h) ⟨by rfl, ?hy103⟩ (by assumption) ?rest103
        case hy103 => (intro wq hSw; (try simp only [Two, RX] at hSw); go_simp; try with_reducible rfl)
        try simp only [Act.put, sa7, sb7, sc7]
        refine wtk7 (i := 3) (v := ?v104) (ga7 rfl) (by kernel_rfl) (fun _ _ _ h => h) ⟨by rfl, ?hy104⟩ (by assumption) ?rest104
        case hy104 => (intro wq hSw; (try simp only [Two, RX] at hSw); go_simp; try with_reducible rfl)
        try simp only [Act.put, sa7, sb7, sc7]
        refine wtk7 (i := 4) (v := ?v105) (ga7 rfl) (by kernel_rfl) (fun _ _ _ h => h) ⟨by rfl, ?hy105⟩ (by assumption) ?rest105
        case hy105 => (intro wq hSw; (try simp only [Two, RX] at hSw); go_simp; try with_reducible rfl)
        try simp only [Act.put, sa7, sb7, sc7]
        refine wtk7 (i := 5) (v := ?v106) (ga7 rfl) (by kernel_rfl) (fun _ _ _ h => h) ⟨by rfl, ?hy106⟩ (by assumption) ?rest106
        case hy106 => (intro wq hSw; (try simp only [Two, RX] at hSw); go_simp; try with_reducible rfl)
        try simp only [Act.put, sa7, sb7, sc7]
        refine wtk7 (i := 6) (v := ?v107) (ga7 rfl) (by kernel_rfl) (fun _ _ _ h => h) ⟨by rfl, ?hy107⟩ (by assumption) ?rest107
        case hy107 => (intro wq hSw; (try simp only [Two, RX] at hSw); go_simp; try with_reducible rfl)
        try simp only [Act.put, sa7, sb7, sc7]
        refine wtk7 (i := 7) (v := ?v108) (ga7 rfl) (by kernel_rfl) (fun _ _ _ h => h) ⟨by rfl, ?hy108⟩ (by assumption) ?rest108
        case hy108 => (intro wq hSw; (try simp only [Two, RX] at hSw); go_simp; try with_reducible rfl)
        try simp only [Act.put, sa7, sb7, sc7]
        refine wpAnyH_ready (rs := [8]) (by kernel_rfl) (by simp) ?rdy109
        refine AllReadyH.cons (ga7 rfl) (fun K hK => ?stp109) AllReadyH.nil
        go_simp
        go_wp2_with fail
        (refine (O1.out _).mono ?_; rintro e w4 ⟨rfl, hb4⟩)
        go_wp2_with fail
        refine hK.out _ _ ?hSn109 (fun hHeld2 => ?rest109)
        case hSn109 => (first | with_reducible exact X0.drew | with_reducible exact hHeld.below hb4 (fun z => z.below hb4))
        clear hK K hHeld
        have hHeld := hHeld2
        clear hHeld2
        try simp only [Act.put, sa7, sb7, sc7]
        refine wtk7 (i := 9) (v := ?v110) (ga7 rfl) (by kernel_rfl) (fun _ _ _ h => h) ⟨by rfl, ?hy110⟩ (by assumption) ?rest110
        case hy110 => (intro wq hSw; (try simp only [Two, RX] at hSw); go_simp; try with_reducible rfl)
        try simp only [Act.put, sa7, sb7, sc7]
        refine wpAnyH_done (by kernel_rfl) ?fin100 _
        have Z2 : Hid (RZ v h l b k r gl cap gu n N (midF f f' (i + 1)) c w.heap.size u qh ql cq w w4) := by show RZ _ _ _ _ _ _ _ _ _ _ _ _ _ _ _ _ _ _ _ _; rw [e1.out]; exact hHeld.2.out
        clear hHeld X0 O1 hb4 e1
        go_wp2
        go_roundw
        case rel => exact ⟨i + 1, q, s, by omega, by omega, by go_num, rfl, rfl, e2, e3, Z2⟩
        case measure => simp [intOf]; omega
      · rw [hoi] at O1 fv
        have e1 : Hid (midF f f' (i + 1) = upd (midF f f' i) i true) := midF_put (by rw [fv]; rfl)
        have e3 : Hid (∃ p, p < i + 1 ∧ o p = true) := ⟨i, by omega, hoi⟩
        have fv : f' i = true := by rw [fv]; rfl
        cases hfi : f i
        · have X0 := RX.of Z.out hlt (mf.trans hfi) hrh hrl
          have e2 : Hid (cnt (fun p => f p != f' p) (i + 1) = q + 1) := by
            show _ = _
            first
              | rw [cnt_step (q := fun p => f p != f' p) (by show (f i != f' i) = true; rw [hfi, fv]; rfl), hc.out]
              | rw [cnt_skip (q := fun p => f p != f' p) (by show (f i != f' i) = false; rw [hfi, fv]; rfl), hc.out]
          clear hrh hrl mf hc hs hoi fv hfi Z y0 y1 y2 y3 y4 y6 y7
          go_wp2_with fail
          refine wp_region_held_drew (S := (RX r v h l b k gl cap gu N c i rh rl w.heap.size u qh ql cq false (RZ v h l b k r gl cap gu n N (midF f f' i) c w.heap.size u qh ql cq w))) (by kernel_rfl) ?hS200 (fun hHeld => ?rest200)
          case hS200 => (first | with_reducible exact X0.drew | with_reducible exact hHeld.below hb4 (fun z => z.below hb4))
          refine wtk7 (i := 0) (v := ?v201) (ga7 rfl) (by kernel_rfl) (fun _ _ _ h => h) ⟨by rfl, ?hy201⟩ (by assumption) ?rest201
          case hy201 => (intro wq hSw; (try simp only [Two, RX] at hSw); go_simp; try with_reducible rfl)
          try simp only [Act.put, sa7, sb7, sc7]
          refine wtk7 (i := 1) (v := ?v202) (ga7 rfl) (by kernel_rfl) (fun _ _ _ h => h) ⟨by rfl, ?hy202⟩ (by assumption) ?rest202
          case hy202 => (intro wq hSw; (try simp only [Two, RX] at hSw); go_simp; try with_reducible rfl)
          try simp only [Act.put, sa7, sb7, sc7]
          refine wtk7 (i := 2) (v := ?v203) (ga7 rfl) (by kernel_rfl) (fun _ _ _ h => h) ⟨by rfl, ?hy203⟩ (by assumption) ?rest203
          case hy203 => (intro wq hSw; (try simp only [Two, RX] at hSw); go_simp; try with_reducible rfl)
          try simp only [Act.put, sa7, sb7, sc7]
          refine wtk7 (i := 3) (v := ?v204) (ga7 rfl) (by kernel_rfl) (fun _ _ _ h => h) ⟨by rfl, ?hy204⟩ (by assumption) ?rest204
          case hy204 => (intro wq hSw; (try simp only [Two, RX] at hSw); go_simp; try with_reducible rfl)
          try simp only [Act.put, sa7, sb7, sc7]
          refine wtk7 (i := 4) (v := ?v205) (ga7 rfl) (by kernel_rfl) (fun _ _ _ h => h) ⟨by rfl, ?hy205⟩ (by assumption) ?rest205
          case hy205 => (intro wq hSw; (try simp only [Two, RX] at hSw); go_simp; try with_reducible rfl)
          try simp only [Act.put, sa7, sb7, sc7]
          refine wtk7 (i := 5) (v := ?v206) (ga7 rfl) (by kernel_rfl) (fun _ _ _ h => h) ⟨by rfl, ?hy206⟩ (by assumption) ?rest206
          case hy206 => (intro wq hSw; (try simp only [Two, RX] at hSw); go_simp; try with_reducible rfl)
          try simp only [Act.put, sa7, sb7, sc7]
          refine wtk7 (i := 6) (v := ?v207) (ga7 rfl) (by kernel_rfl) (fun _ _ _ h => h) ⟨by rfl, ?hy207⟩ (by assumption) ?rest207
          case hy207 => (intro wq hSw; (try simp only [Two, RX] at hSw); go_simp; try with_reducible rfl)
          try simp only [Act.put, sa7, sb7, sc7]
          refine wtk7 (i := 7) (v := ?v208) (ga7 rfl) (by kernel_rfl) (fun _ _ _ h => h) ⟨by rfl, ?hy208⟩ (by assumption) ?rest208
          case hy208 => (intro wq hSw; (try simp only [Two, RX] at hSw); go_simp; try with_reducible rfl)
          try simp only [Act.put, sa7, sb7, sc7]
          refine wpAnyH_ready (rs := [8]) (by kernel_rfl) (by simp) ?rdy209
          refine AllReadyH.cons (ga7 rfl) (fun K hK => ?stp209) AllReadyH.nil
          go_simp
          go_wp2_with fail
          (refine (O1.out _).mono ?_; rintro e w4 ⟨rfl, hb4⟩)
          go_wp2_with fail
          refine hK.out _ _ ?hSn209 (fun hHeld2 => ?rest209)
          case hSn209 => (first | with_reducible exact X0.drew | with_reducible exact hHeld.below hb4 (fun z => z.below hb4))
          clear hK K hHeld
          have hHeld := hHeld2
          clear hHeld2
          try simp only [Act.put, sa7, sb7, sc7]
          refine wtk7 (i := 9) (v := ?v210) (ga7 rfl) (by kernel_rfl) (fun _ _ _ h => h) ⟨by rfl, ?hy210⟩ (by assumption) ?rest210
          case hy210 => (intro wq hSw; (try simp only [Two, RX] at hSw); go_simp; try with_reducible rfl)
          try simp only [Act.put, sa7, sb7, sc7]
          refine wpAnyH_done (by kernel_rfl) ?fin200 _
          obtain ⟨⟨_, _, z6, _, _, _, _, zt, _, _, _, _⟩, z2⟩ := hHeld
          have zf := z2.out.1.used.frozen i
          have zr := z2.out.1.hd.lt
          have z5 := z2.out.1.hd.cell 5
          have zn := z2.out.1.ne
          have Z2 : Hid (RZ v h l b k r gl cap gu n N (midF f f' (i + 1)) c w.heap.size u qh ql cq w (w4.setCell ⟨gu, i, none⟩ (.bool true))) := by
            show RZ _ _ _ _ _ _ _ _ _ _ _ _ _ _ _ _ _ _ _ _
            rw [e1.out]
            exact ⟨z2.out.1.put i true, z2.out.2.1.far (fun c => by have := z2.out.2.1.ne z2.out.1.used (by decide); exact this c) i _, z2.out.2.2.trans ((But.putx gu i (.bool true) w4 w.heap.size).mono (Nat.le_refl _) (fun y hy _ => hy))⟩
          clear z2 X0 O1 hb4 e1
          go_wp2
          go_roundw
          case rel => exact ⟨i + 1, q + 1, true, by omega, by omega, by go_num, by first | rfl | go_num, rfl, e2, iff_of_true rfl e3.out, Z2⟩
          case measure => simp [intOf]; omega
        · have X0 := RX.of Z.out hlt (mf.trans hfi) hrh hrl
          have e2 : Hid (cnt (fun p => f p != f' p) (i + 1) = q) := by
            show _ = _
            first
              | rw [cnt_step (q := fun p => f p != f' p) (by show (f i != f' i) = true; rw [hfi, fv]; rfl), hc.out]
              | rw [cnt_skip (q := fun p => f p != f' p) (by show (f i != f' i) = false; rw [hfi, fv]; rfl), hc.out]
          clear hrh hrl mf hc hs hoi fv hfi Z y0 y1 y2 y3 y4 y6 y7
          go_wp2_with fail
          refine wp_region_held_drew (S := (RX r v h l b k gl cap gu N c i rh rl w.heap.size u qh ql cq true (RZ v h l b k r gl cap gu n N (midF f f' i) c w.heap.size u qh ql cq w))) (by kernel_rfl) ?hS300 (fun hHeld => ?rest300)
          case hS300 => (first | with_reducible exact X0.drew | with_reducible exact hHeld.below hb4 (fun z => z.below hb4))
          refine wtk7 (i := 0) (v := ?v301) (ga7 rfl) (by kernel_rfl) (fun _ _ _ h => h) ⟨by rfl, ?hy301⟩ (by assumption) ?rest301
          case hy301 => (intro wq hSw; (try simp only [Two, RX] at hSw); go_simp; try with_reducible rfl)
          try simp only [Act.put, sa7, sb7, sc7]
          refine wtk7 (i := 1) (v := ?v302) (ga7 rfl) (by kernel_rfl) (fun _ _ _ h => h) ⟨by rfl, ?hy302⟩ (by assumption) ?rest302
          case hy302 => (intro wq hSw; (try simp only [Two, RX] at hSw); go_simp; try with_reducible rfl)
          try simp only [Act.put, sa7, sb7, sc7]
          refine wtk7 (i := 2) (v := ?v303) (ga7 rfl) (by kernel_rfl) (fun _ _ _ h => h) ⟨by rfl, ?hy303⟩ (by assumption) ?rest303
          case hy303 => (intro wq hSw; (try simp only [Two, RX] at hSw); go_simp; try with_reducible rfl)
          try simp only [Act.put, sa7, sb7, sc7]
          refine wtk7 (i := 3) (v := ?v304) (ga7 rfl) (by kernel_rfl) (fun _ _ _ h => h) ⟨by rfl, ?hy304⟩ (by assumption) ?rest304
          case hy304 => (intro wq hSw; (try simp only [Two, RX] at hSw); go_simp; try with_reducible rfl)
          try simp only [Act.put, sa7, sb7, sc7]
          refine wtk7 (i := 4) (v := ?v305) (ga7 rfl) (by kernel_rfl) (fun _ _ _ h => h) ⟨by rfl, ?hy305⟩ (by assumption) ?rest305
          case hy305 => (intro wq hSw; (try simp only [Two, RX] at hSw); go_simp; try with_reducible rfl)
          try simp only [Act.put, sa7, sb7, sc7]
          refine wtk7 (i := 5) (v := ?v306) (ga7 rfl) (by kernel_rfl) (fun _ _ _ h => h) ⟨by rfl, ?hy306⟩ (by assumption) ?rest306
          case hy306 => (intro wq hSw; (try simp only [Two, RX] at hSw); go_simp; try with_reducible rfl)
          try simp only [Act.put, sa7, sb7, sc7]
          refine wtk7 (i := 6) (v := ?v307) (ga7 rfl) (by kernel_rfl) (fun _ _ _ h => h) ⟨by rfl, ?hy307⟩ (by assumption) ?rest307
          case hy307 => (intro wq hSw; (try simp only [Two, RX] at hSw); go_simp; try with_reducible rfl)
          try simp only [Act.put, sa7, sb7, sc7]
          refine wtk7 (i := 7) (v := ?v308) (ga7 rfl) (by kernel_rfl) (fun _ _ _ h => h) ⟨by rfl, ?hy308⟩ (by assumption) ?rest308
          case hy308 => (intro wq hSw; (try simp only [Two, RX] at hSw); go_simp; try with_reducible rfl)
          try simp only [Act.put, sa7, sb7, sc7]
          refine wpAnyH_ready (rs := [8]) (by kernel_rfl) (by simp) ?rdy309
          refine AllReadyH.cons (ga7 rfl) (fun K hK => ?stp309) AllReadyH.nil
          go_simp
          go_wp2_with fail
          (refine (O1.out _).mono ?_; rintro e w4 ⟨rfl, hb4⟩)
          go_wp2_with fail
          refine hK.out _ _ ?hSn309 (fun hHeld2 => ?rest309)
          case hSn309 => (first | with_reducible exact X0.drew | with_reducible exact hHeld.below hb4 (fun z => z.below hb4))
          clear hK K hHeld
          have hHeld := hHeld2
          clear hHeld2
          try simp only [Act.put, sa7, sb7, sc7]
          refine wtk7 (i := 9) (v := ?v310) (ga7 rfl) (by kernel_rfl) (fun _ _ _ h => h) ⟨by rfl, ?hy310⟩ (by assumption) ?rest310
          case hy310 => (intro wq hSw; (try simp only [Two, RX] at hSw); go_simp; try with_reducible rfl)
          try simp only [Act.put, sa7, sb7, sc7]
          refine wpAnyH_done (by kernel_rfl) ?fin300 _
          obtain ⟨⟨_, _, z6, _, _, _, _, zt, _, _, _, _⟩, z2⟩ := hHeld
          have zf := z2.out.1.used.frozen i
          have zr := z2.out.1.hd.lt
          have z5 := z2.out.1.hd.cell 5
          have zn := z2.out.1.ne
          have Z2 : Hid (RZ v h l b k r gl cap gu n N (midF f f' (i + 1)) c w.heap.size u qh ql cq w (w4.setCell ⟨gu, i, none⟩ (.bool true))) := by
            show RZ _ _ _ _ _ _ _ _ _ _ _ _ _ _ _ _ _ _ _ _
            rw [e1.out]
            exact ⟨z2.out.1.put i true, z2.out.2.1.far (fun c => by have := z2.out.2.1.ne z2.out.1.used (by decide); exact this c) i _, z2.out.2.2.trans ((But.putx gu i (.bool true) w4 w.heap.size).mono (Nat.le_refl _) (fun y hy _ => hy))⟩
          clear z2 X0 O1 hb4 e1
          go_wp2
          go_roundw
          case rel => exact ⟨i + 1, q, true, by omega, by omega, by go_num, by first | rfl | go_num, rfl, e2, iff_of_true rfl e3.out, Z2⟩
          case measure => simp [intOf]; omega
    · obtain rfl : i = N := by omega
      have hlt' : ¬ (i : Int) < i := by omega
      have RF : Hid (RAt wr v h l b k r gl cap gu n i f' c) := Z.out.1.cast (fun p hp => by unfold midF; rw [if_pos hp])
      have BF := hide Z.out.2.2
      have hC : C = (q : Int) := by rw [CC.out, hc.out]
      have hst := hs.out
      rw [SO.out] at hst
      cases s
      · have e : overB v n b u m cq = false := by
          cases e : overB v n b u m cq
          · rfl
          · exact absurd (hst.2 e) (by decide)
        have hE : E = 12 := by rw [EQ.out, e]; rfl
        have c0 : q = 0 := by
          rw [← hc.out]
          exact cnt_zero (fun p hp => by
            have : o p = false := by
              cases e : o p
              · rfl
              · exact absurd (hs.out.2 ⟨p, hp, e⟩) (by decide)
            rw [FV.out p, this]
            simp)
        have hC : C = 0 := by rw [hC, c0]; rfl
        subst hC hE
        clear hc hs hst c0 Z OV SO FO FV EQ CC
        go_wp2
        go_ret2
        exact ⟨by first | rfl | simp, RF.out, BF.out⟩
      · have e : overB v n b u m cq = true := hst.1 rfl
        have hE : E = 0 := by rw [EQ.out, e]; rfl
        subst hC hE
        clear hc hs hst Z OV SO FO FV EQ CC
        go_wp2
        go_ret2
        exact ⟨by first | rfl | simp, RF.out, BF.out⟩

set_option maxRecDepth 100000 in
set_option maxHeartbeats 3200000 in
theorem rset7_f {v u : Bool} {h l b k qh ql cq C E : Int} {r gl cap gu n m N c : Nat} {f f' : Nat → Bool} (O : SetOf v h l b k n N) (hq : IsNum qh ql m) (hq0 : okP u m cq = true) (hf : setO v n k N u m cq false f = f') (hC : cntO f f' = C) (hE : qE v n b u m cq = E) (w : World) (R : RAt w v h l b k r gl cap gu n N f c) :
    Calls Tryz.prog 83 #[.pointer (some ⟨r, 0, none⟩), pv u qh ql cq, .bool false] w fun e w' => e = .returned (.tuple #[.int .i64 C, .int .i64 E]) ∧ RAt w' v h l b k r gl cap gu n N f' c ∧ But [gu] w.heap.size w w' := by
  have bl : Below w.heap.size w (w.alloc (.cells #[.bool u, .int .u64 qh, .int .u64 ql, .int .i64 cq] 28)) := by repeat (first | with_reducible exact Below.refl _ _ | with_reducible refine Below.drew ?_ | with_reducible refine Below.alloc ?_ (by first | omega | (simp <;> omega)) _ | with_reducible refine Below.setCell ?_ (by first | omega | (simp <;> omega)) _)
  have Z0 : Hid (RZ v h l b k r gl cap gu n N (midF f f' 0) c w.heap.size u qh ql cq w (w.alloc (.cells #[.bool u, .int .u64 qh, .int .u64 ql, .int .i64 cq] 28))) := by
    show RZ _ _ _ _ _ _ _ _ _ _ _ _ _ _ _ _ _ _ _ _
    rw [midF_zero]
    exact ⟨R.below bl, Blk.new _ _ _, But.of bl (Nat.le_refl _)⟩
  have RT := hide (fun w' => rpright_c (v := u) (b := cq) hq w')
  rw [hq0] at RT
  have OV := hide (fun (i : Nat) (hi : i < N) (rh rl : Int) (hrh : ((blkN v n k i / 18446744073709551616 : Nat) : Int) = rh) (hrl : ((blkN v n k i % 18446744073709551616 : Nat) : Int) = rl) w' => rover_c (v := v) (u := u) (b := k) (c := cq) (hrl ▸ hrh ▸ num_parts7 (blk_ok O.cut O.num.lt (by rw [O.len]; exact hi)).2) hq w')
  have hN := O.small
  have SO := hide (some_over O hq hq0)
  have FO : Hid (∀ i, i < N → overB v (blkN v n k i) k u m cq = ovP v n k N u m cq i) := fun i hi => by unfold ovP; rw [decide_eq_true hi, Bool.true_and]
  have FV : Hid (∀ i, f' i = if ovP v n k N u m cq i then false else f i) := fun i => by rw [← hf]; rfl
  have CZ : Hid (∀ M, N ≤ M → cnt (fun p => f p != f' p) M = cnt (fun p => f p != f' p) N) := fun M hM => cnt_more hM (fun p h1 h2 => by
    have : ovP v n k N u m cq p = false := by unfold ovP; rw [decide_eq_false (by omega), Bool.false_and]
    rw [FV.out p, this]
    simp)
  have EQ : Hid (E = if overB v n b u m cq then 0 else 12) := by show _ = _; rw [← hE]; unfold qE; rw [hq0]; rfl
  have CC : Hid (C = ((cnt (fun p => f p != f' p) N : Nat) : Int)) := by show _ = _; rw [← hC]; unfold cntO; rw [CZ.out 65536 hN]
  obtain ⟨o, ho⟩ : ∃ o, ovP v n k N u m cq = o := ⟨_, rfl⟩
  rw [ho] at SO FO FV
  have x5 := R.hd.cell 5
  have xl := R.hd.lt
  clear O hq hq0 hf hC hE R bl CZ ho
  go_enter Tryz.func83, Tryz.ntmps83
  go_wp2_with fail
  refine (RT.out _).mono ?_
  rintro e w1 ⟨rfl, hb⟩
  have Z1 := hide (Z0.out.below hb)
  clear RT hb Z0 x5
  go_wp2_with fail
  go_loopw [8, 9, 10] (fun mv sv iv wr => ∃ (i q : Nat) (s : Bool), i ≤ N ∧ q ≤ i ∧ iv = .int .i64 i ∧ mv = .int .i64 q ∧ sv = .bool s ∧ Hid (cnt (fun p => f p != f' p) i = q) ∧ Hid (s = true ↔ ∃ p, p < i ∧ o p = true) ∧ Hid (RZ v h l b k r gl cap gu n N (midF f f' i) c w.heap.size u qh ql cq w wr)) (fun _ _ iv _ => N - (intOf iv).toNat)
  case atStart => exact ⟨0, 0, false, by omega, by omega, rfl, rfl, rfl, rfl, ⟨fun h => (by cases h), fun ⟨p, h1, _⟩ => absurd h1 (by omega)⟩, Z1⟩
  case round =>
    clear Z1
    obtain ⟨i, q, s, hi, hqi, rfl, rfl, rfl, hc, hs, Z⟩ := hrel
    obtain ⟨y0, y1, y2, y3, y4, y5, y6, y7, yl⟩ := Z.out.1.hd.eight
    by_cases hlt : i < N
    · have hlt' : (i : Int) < N := by omega
      obtain ⟨rh, hrh⟩ : ∃ rh : Int, ((blkN v n k i / 18446744073709551616 : Nat) : Int) = rh := ⟨_, rfl⟩
      obtain ⟨rl, hrl⟩ : ∃ rl : Int, ((blkN v n k i % 18446744073709551616 : Nat) : Int) = rl := ⟨_, rfl⟩
      have mf : midF f f' i i = f i := by unfold midF; rw [if_neg (by omega)]
      have O1 := hide (OV.out i hlt rh rl hrh hrl)
      rw [FO.out i hlt] at O1
      have fv := FV.out i
      cases hoi : o i
      · rw [hoi] at O1 fv
        have X0 := RX.of Z.out hlt (t := f i) mf hrh hrl
        have e1 : Hid (midF f f' (i + 1) = midF f f' i) := midF_skip (by rw [fv]; rfl)
        have e2 : Hid (cnt (fun p => f p != f' p) (i + 1) = q) := by show _ = _; rw [cnt_skip (by rw [fv]; simp), hc.out]
        have e3 : Hid (s = true ↔ ∃ p, p < i + 1 ∧ o p = true) := by
          show _ ↔ _
          rw [hs.out]
          constructor
          · rintro ⟨p, h1, h2⟩; exact ⟨p, by omega, h2⟩
          · rintro ⟨p, h1, h2⟩
            refine ⟨p, ?_, h2⟩
            apply Classical.byContradiction
            intro c
            obtain rfl : p = i := by omega
            rw [hoi] at h2
            cases h2
        clear hrh hrl mf hc hs hoi fv Z y0 y1 y2 y3 y4 y6 y7
        go_wp2_with fail
        refine wp_region_held_drew (S := (RX r v h l b k gl cap gu N c i rh rl w.heap.size u qh ql cq (f i) (RZ v h l b k r gl cap gu n N (midF f f' i) c w.heap.size u qh ql cq w))) (by kernel_rfl) ?hS400 (fun hHeld => ?rest400)
        case hS400 => (first | with_reducible exact X0.drew | with_reducible exact hHeld.below hb4 (fun z => z.below hb4))
        refine wtk7 (i := 0) (v := ?v401) (ga7 rfl) (by kernel_rfl) (fun _ _ _ h => h) ⟨by rfl, ?hy401⟩ (by assumption) ?rest401
        case hy401 => (intro wq hSw; (try simp only [Two, RX] at hSw); go_simp; try with_reducible rfl)
        try simp only [Act.put, sa7, sb7, sc7]
        refine wtk7 (i := 1) (v := ?v402) (ga7 rfl) (by kernel_rfl) (fun _ _ _ h => h) ⟨by rfl, ?hy402⟩ (by assumption) ?rest402
        case hy402 => (intro wq hSw; (try simp only [Two, RX] at hSw); go_simp; try with_reducible rfl)
        try simp only [Act.put, sa7, sb7, sc7]
        refine wtk7 (i := 2) (v := ?v403) (ga7 rfl) (by kernel_rfl) (fun _ _ _ h => h) ⟨by rfl, ?hy403⟩ (by assumption) ?rest403
        case hy403 => (intro wq hSw; (try simp only [Two, RX] at hSw); go_simp; try with_reducible rfl)
        try simp only [Act.put, sa7, sb7, sc7]
        refine wtk7 (i := 3) (v := ?v404) (ga7 rfl) (by kernel_rfl) (fun _ _ _ h => h) ⟨by rfl, ?hy404⟩ (by assumption) ?rest404
        case hy404 => (intro wq hSw; (try simp only [Two, RX] at hSw); go_simp; try with_reducible rfl)
        try simp only [Act.put, sa7, sb7, sc7]
        refine wtk7 (i := 4) (v := ?v405) (ga7 rfl) (by kernel_rfl) (fun _ _ _ h => h) ⟨by rfl, ?hy405⟩ (by assumption) ?rest405
        case hy405 => (intro wq hSw; (try simp only [Two, RX] at hSw); go_simp; try with_reducible rfl)
        try simp only [Act.put, sa7, sb7, sc7]
        refine wtk7 (i := 5) (v := ?v406) (ga7 rfl) (by kernel_rfl) (fun _ _ _ h => h) ⟨by rfl, ?hy406⟩ (by assumption) ?rest406
        case hy406 => (intro wq hSw; (try simp only [Two, RX] at hSw); go_simp; try with_reducible rfl)
        try simp only [Act.put, sa7, sb7, sc7]
        refine wtk7 (i := 6) (v := ?v407) (ga7 rfl) (by kernel_rfl) (fun _ _ _ h => h) ⟨by rfl, ?hy407⟩ (by assumption) ?rest407
        case hy407 => (intro wq hSw; (try simp only [Two, RX] at hSw); go_simp; try with_reducible rfl)
        try simp only [Act.put, sa7, sb7, sc7]
        refine wtk7 (i := 7) (v := ?v408) (ga7 rfl) (by kernel_rfl) (fun _ _ _ h => h) ⟨by rfl, ?hy408⟩ (by assumption) ?rest408
        case hy408 => (intro wq hSw; (try simp only [Two, RX] at hSw); go_simp; try with_reducible rfl)
        try simp only [Act.put, sa7, sb7, sc7]
        refine wpAnyH_ready (rs := [8]) (by kernel_rfl) (by simp) ?rdy409
        refine AllReadyH.cons (ga7 rfl) (fun K hK => ?stp409) AllReadyH.nil
        go_simp
        go_wp2_with fail
        (refine (O1.out _).mono ?_; rintro e w4 ⟨rfl, hb4⟩)
        go_wp2_with fail
        refine hK.out _ _ ?hSn409 (fun hHeld2 => ?rest409)
        case hSn409 => (first | with_reducible exact X0.drew | with_reducible exact hHeld.below hb4 (fun z => z.below hb4))
        clear hK K hHeld
        have hHeld := hHeld2
        clear hHeld2
        try simp only [Act.put, sa7, sb7, sc7]
        refine wtk7 (i := 9) (v := ?v410) (ga7 rfl) (by kernel_rfl) (fun _ _ _ h => h) ⟨by rfl, ?hy410⟩ (by assumption) ?rest410
        case hy410 => (intro wq hSw; (try simp only [Two, RX] at hSw); go_simp; try with_reducible rfl)
        try simp only [Act.put, sa7, sb7, sc7]
        refine wpAnyH_done (by kernel_rfl) ?fin400 _
        have Z2 : Hid (RZ v h l b k r gl cap gu n N (midF f f' (i + 1)) c w.heap.size u qh ql cq w w4) := by show RZ _ _ _ _ _ _ _ _ _ _ _ _ _ _ _ _ _ _ _ _; rw [e1.out]; exact hHeld.2.out
        clear hHeld X0 O1 hb4 e1
        go_wp2
        go_roundw
        case rel => exact ⟨i + 1, q, s, by omega, by omega, by go_num, rfl, rfl, e2, e3, Z2⟩
        case measure => simp [intOf]; omega
      · rw [hoi] at O1 fv
        have e1 : Hid (midF f f' (i + 1) = upd (midF f f' i) i false) := midF_put (by rw [fv]; rfl)
        have e3 : Hid (∃ p, p < i + 1 ∧ o p = true) := ⟨i, by omega, hoi⟩
        have fv : f' i = false := by rw [fv]; rfl
        cases hfi : f i
        · have X0 := RX.of Z.out hlt (mf.trans hfi) hrh hrl
          have e2 : Hid (cnt (fun p => f p != f' p) (i + 1) = q) := by
            show _ = _
            first
              | rw [cnt_step (q := fun p => f p != f' p) (by show (f i != f' i) = true; rw [hfi, fv]; rfl), hc.out]
              | rw [cnt_skip (q := fun p => f p != f' p) (by show (f i != f' i) = false; rw [hfi, fv]; rfl), hc.out]
          clear hrh hrl mf hc hs hoi fv hfi Z y0 y1 y2 y3 y4 y6 y7
          go_wp2_with fail
          refine wp_region_held_drew (S := (RX r v h l b k gl cap gu N c i rh rl w.heap.size u qh ql cq false (RZ v h l b k r gl cap gu n N (midF f f' i) c w.heap.size u qh ql cq w))) (by kernel_rfl) ?hS500 (fun hHeld => ?rest500)
          case hS500 => (first | with_reducible exact X0.drew | with_reducible exact hHeld.below hb4 (fun z => z.below hb4))
          refine wtk7 (i := 0) (v := ?v501) (ga7 rfl) (by kernel_rfl) (fun _ _ _ h => h) ⟨by rfl, ?hy501⟩ (by assumption) ?rest501
          case hy501 => (intro wq hSw; (try simp only [Two, RX] at hSw); go_simp; try with_reducible rfl)
          try simp only [Act.put, sa7, sb7, sc7]
          refine wtk7 (i := 1) (v := ?v502) (ga7 rfl) (by kernel_rfl) (fun _ _ _ h => h) ⟨by rfl, ?hy502⟩ (by assumption) ?rest502
          case hy502 => (intro wq hSw; (try simp only [Two, RX] at hSw); go_simp; try with_reducible rfl)
          try simp only [Act.put, sa7, sb7, sc7]
          refine wtk7 (i := 2) (v := ?v503) (ga7 rfl) (by kernel_rfl) (fun _ _ _ h => h) ⟨by rfl, ?hy503⟩ (by assumption) ?rest503
          case hy503 => (intro wq hSw; (try simp only [Two, RX] at hSw); go_simp; try with_reducible rfl)
          try simp only [Act.put, sa7, sb7, sc7]
          refine wtk7 (i := 3) (v := ?v504) (ga7 rfl) (by kernel_rfl) (fun _ _ _ h => h) ⟨by rfl, ?hy504⟩ (by assumption) ?rest504
          case hy504 => (intro wq hSw; (try simp only [Two, RX] at hSw); go_simp; try with_reducible rfl)
          try simp only [Act.put, sa7, sb7, sc7]
          refine wtk7 (i := 4) (v := ?v505) (ga7 rfl) (by kernel_rfl) (fun _ _ _ h => h) ⟨by rfl, ?hy505⟩ (by assumption) ?rest505
          case hy505 => (intro wq hSw; (try simp only [Two, RX] at hSw); go_simp; try with_reducible rfl)
          try simp only [Act.put, sa7, sb7, sc7]
          refine wtk7 (i := 5) (v := ?v506) (ga7 rfl) (by kernel_rfl) (fun _ _ _ h => h) ⟨by rfl, ?hy506⟩ (by assumption) ?rest506
          case hy506 => (intro wq hSw; (try simp only [Two, RX] at hSw); go_simp; try with_reducible rfl)
          try simp only [Act.put, sa7, sb7, sc7]
          refine wtk7 (i := 6) (v := ?v507) (ga7 rfl) (by kernel_rfl) (fun _ _ _ h => h) ⟨by rfl, ?hy507⟩ (by assumption) ?rest507
          case hy507 => (intro wq hSw; (try simp only [Two, RX] at hSw); go_simp; try with_reducible rfl)
          try simp only [Act.put, sa7, sb7, sc7]
          refine wtk7 (i := 7) (v := ?v508) (ga7 rfl) (by kernel_rfl) (fun _ _ _ h => h) ⟨by rfl, ?hy508⟩ (by assumption) ?rest508
          case hy508 => (intro wq hSw; (try simp only [Two, RX] at hSw); go_simp; try with_reducible rfl)
          try simp only [Act.put, sa7, sb7, sc7]
          refine wpAnyH_ready (rs := [8]) (by kernel_rfl) (by simp) ?rdy509
          refine AllReadyH.cons (ga7 rfl) (fun K hK => ?stp509) AllReadyH.nil
          go_simp
          go_wp2_with fail
          (refine (O1.out _).mono ?_; rintro e w4 ⟨rfl, hb4⟩)
          go_wp2_with fail
          refine hK.out _ _ ?hSn509 (fun hHeld2 => ?rest509)
          case hSn509 => (first | with_reducible exact X0.drew | with_reducible exact hHeld.below hb4 (fun z => z.below hb4))
          clear hK K hHeld
          have hHeld := hHeld2
          clear hHeld2
          try simp only [Act.put, sa7, sb7, sc7]
          refine wtk7 (i := 9) (v := ?v510) (ga7 rfl) (by kernel_rfl) (fun _ _ _ h => h) ⟨by rfl, ?hy510⟩ (by assumption) ?rest510
          case hy510 => (intro wq hSw; (try simp only [Two, RX] at hSw); go_simp; try with_reducible rfl)
          try simp only [Act.put, sa7, sb7, sc7]
          refine wpAnyH_done (by kernel_rfl) ?fin500 _
          obtain ⟨⟨_, _, z6, _, _, _, _, zt, _, _, _, _⟩, z2⟩ := hHeld
          have zf := z2.out.1.used.frozen i
          have zr := z2.out.1.hd.lt
          have z5 := z2.out.1.hd.cell 5
          have zn := z2.out.1.ne
          have Z2 : Hid (RZ v h l b k r gl cap gu n N (midF f f' (i + 1)) c w.heap.size u qh ql cq w (w4.setCell ⟨gu, i, none⟩ (.bool false))) := by
            show RZ _ _ _ _ _ _ _ _ _ _ _ _ _ _ _ _ _ _ _ _
            rw [e1.out]
            exact ⟨z2.out.1.put i false, z2.out.2.1.far (fun c => by have := z2.out.2.1.ne z2.out.1.used (by decide); exact this c) i _, z2.out.2.2.trans ((But.putx gu i (.bool false) w4 w.heap.size).mono (Nat.le_refl _) (fun y hy _ => hy))⟩
          clear z2 X0 O1 hb4 e1
          go_wp2
          go_roundw
          case rel => exact ⟨i + 1, q, true, by omega, by omega, by go_num, by first | rfl | go_num, rfl, e2, iff_of_true rfl e3.out, Z2⟩
          case measure => simp [intOf]; omega
        · have X0 := RX.of Z.out hlt (mf.trans hfi) hrh hrl
          have e2 : Hid (cnt (fun p => f p != f' p) (i + 1) = q + 1) := by
            show _ = _
            first
              | rw [cnt_step (q := fun p => f p != f' p) (by show (f i != f' i) = true; rw [hfi, fv]; rfl), hc.out]
              | rw [cnt_skip (q := fun p => f p != f' p) (by show (f i != f' i) = false; rw [hfi, fv]; rfl), hc.out]
          clear hrh hrl mf hc hs hoi fv hfi Z y0 y1 y2 y3 y4 y6 y7
          go_wp2_with fail
          refine wp_region_held_drew (S := (RX r v h l b k gl cap gu N c i rh rl w.heap.size u qh ql cq true (RZ v h l b k r gl cap gu n N (midF f f' i) c w.heap.size u qh ql cq w))) (by kernel_rfl) ?hS600 (fun hHeld => ?rest600)
          case hS600 => (first | with_reducible exact X0.drew | with_reducible exact hHeld.below hb4 (fun z => z.below hb4))
          refine wtk7 (i := 0) (v := ?v601) (ga7 rfl) (by kernel_rfl) (fun _ _ _ h => h) ⟨by rfl, ?hy601⟩ (by assumption) ?rest601
          case hy601 => (intro wq hSw; (try simp only [Two, RX] at hSw); go_simp; try with_reducible rfl)
          try simp only [Act.put, sa7, sb7, sc7]
          refine wtk7 (i := 1) (v := ?v602) (ga7 rfl) (by kernel_rfl) (fun _ _ _ h => h) ⟨by rfl, ?hy602⟩ (by assumption) ?rest602
          case hy602 => (intro wq hSw; (try simp only [Two, RX] at hSw); go_simp; try with_reducible rfl)
          try simp only [Act.put, sa7, sb7, sc7]
          refine wtk7 (i := 2) (v := ?v603) (ga7 rfl) (by kernel_rfl) (fun _ _ _ h => h) ⟨by rfl, ?hy603⟩ (by assumption) ?rest603
          case hy603 => (intro wq hSw; (try simp only [Two, RX] at hSw); go_simp; try with_reducible rfl)
          try simp only [Act.put, sa7, sb7, sc7]
          refine wtk7 (i := 3) (v := ?v604) (ga7 rfl) (by kernel_rfl) (fun _ _ _ h => h) ⟨by rfl, ?hy604⟩ (by assumption) ?rest604
          case hy604 => (intro wq hSw; (try simp only [Two, RX] at hSw); go_simp; try with_reducible rfl)
          try simp only [Act.put, sa7, sb7, sc7]
          refine wtk7 (i := 4) (v := ?v605) (ga7 rfl) (by kernel_rfl) (fun _ _ _ h => h) ⟨by rfl, ?hy605⟩ (by assumption) ?rest605
          case hy605 => (intro wq hSw; (try simp only [Two, RX] at hSw); go_simp; try with_reducible rfl)
          try simp only [Act.put, sa7, sb7, sc7]
          refine wtk7 (i := 5) (v := ?v606) (ga7 rfl) (by kernel_rfl) (fun _ _ _ h => h) ⟨by rfl, ?hy606⟩ (by assumption) ?rest606
          case hy606 => (intro wq hSw; (try simp only [Two, RX] at hSw); go_simp; try with_reducible rfl)
          try simp only [Act.put, sa7, sb7, sc7]
          refine wtk7 (i := 6) (v := ?v607) (ga7 rfl) (by kernel_rfl) (fun _ _ _ h => h) ⟨by rfl, ?hy607⟩ (by assumption) ?rest607
          case hy607 => (intro wq hSw; (try simp only [Two, RX] at hSw); go_simp; try with_reducible rfl)
          try simp only [Act.put, sa7, sb7, sc7]
          refine wtk7 (i := 7) (v := ?v608) (ga7 rfl) (by kernel_rfl) (fun _ _ _ h => h) ⟨by rfl, ?hy608⟩ (by assumption) ?rest608
          case hy608 => (intro wq hSw; (try simp only [Two, RX] at hSw); go_simp; try with_reducible rfl)
          try simp only [Act.put, sa7, sb7, sc7]
          refine wpAnyH_ready (rs := [8]) (by kernel_rfl) (by simp) ?rdy609
          refine AllReadyH.cons (ga7 rfl) (fun K hK => ?stp609) AllReadyH.nil
          go_simp
          go_wp2_with fail
          (refine (O1.out _).mono ?_; rintro e w4 ⟨rfl, hb4⟩)
          go_wp2_with fail
          refine hK.out _ _ ?hSn609 (fun hHeld2 => ?rest609)
          case hSn609 => (first | with_reducible exact X0.drew | with_reducible exact hHeld.below hb4 (fun z => z.below hb4))
          clear hK K hHeld
          have hHeld := hHeld2
          clear hHeld2
          try simp only [Act.put, sa7, sb7, sc7]
          refine wtk7 (i := 9) (v := ?v610) (ga7 rfl) (by kernel_rfl) (fun _ _ _ h => h) ⟨by rfl, ?hy610⟩ (by assumption) ?rest610
          case hy610 => (intro wq hSw; (try simp only [Two, RX] at hSw); go_simp; try with_reducible rfl)
          try simp only [Act.put, sa7, sb7, sc7]
          refine wpAnyH_done (by kernel_rfl) ?fin600 _
          obtain ⟨⟨_, _, z6, _, _, _, _, zt, _, _, _, _⟩, z2⟩ := hHeld
          have zf := z2.out.1.used.frozen i
          have zr := z2.out.1.hd.lt
          have z5 := z2.out.1.hd.cell 5
          have zn := z2.out.1.ne
          have Z2 : Hid (RZ v h l b k r gl cap gu n N (midF f f' (i + 1)) c w.heap.size u qh ql cq w (w4.setCell ⟨gu, i, none⟩ (.bool false))) := by
            show RZ _ _ _ _ _ _ _ _ _ _ _ _ _ _ _ _ _ _ _ _
            rw [e1.out]
            exact ⟨z2.out.1.put i false, z2.out.2.1.far (fun c => by have := z2.out.2.1.ne z2.out.1.used (by decide); exact this c) i _, z2.out.2.2.trans ((But.putx gu i (.bool false) w4 w.heap.size).mono (Nat.le_refl _) (fun y hy _ => hy))⟩
          clear z2 X0 O1 hb4 e1
          go_wp2
          go_roundw
          case rel => exact ⟨i + 1, q + 1, true, by omega, by omega, by go_num, by first | rfl | go_num, rfl, e2, iff_of_true rfl e3.out, Z2⟩
          case measure => simp [intOf]; omega
    · obtain rfl : i = N := by omega
      have hlt' : ¬ (i : Int) < i := by omega
      have RF : Hid (RAt wr v h l b k r gl cap gu n i f' c) := Z.out.1.cast (fun p hp => by unfold midF; rw [if_pos hp])
      have BF := hide Z.out.2.2
      have hC : C = (q : Int) := by rw [CC.out, hc.out]
      have hst := hs.out
      rw [SO.out] at hst
      cases s
      · have e : overB v n b u m cq = false := by
          cases e : overB v n b u m cq
          · rfl
          · exact absurd (hst.2 e) (by decide)
        have hE : E = 12 := by rw [EQ.out, e]; rfl
        have c0 : q = 0 := by
          rw [← hc.out]
          exact cnt_zero (fun p hp => by
            have : o p = false := by
              cases e : o p
              · rfl
              · exact absurd (hs.out.2 ⟨p, hp, e⟩) (by decide)
            rw [FV.out p, this]
            simp)
        have hC : C = 0 := by rw [hC, c0]; rfl
        subst hC hE
        clear hc hs hst c0 Z OV SO FO FV EQ CC
        go_wp2
        go_ret2
        exact ⟨by first | rfl | simp, RF.out, BF.out⟩
      · have e : overB v n b u m cq = true := hst.1 rfl
        have hE : E = 0 := by rw [EQ.out, e]; rfl
        subst hC hE
        clear hc hs hst Z OV SO FO FV EQ CC
        go_wp2
        go_ret2
        exact ⟨by first | rfl | simp, RF.out, BF.out⟩

end Go.Proofs.YtllidkflgjjkfaaGreatDoor

namespace Go.Proofs.YtllidkflgjjkfaaGreatDoor
open Go.ChangeShapes Go.WideShapes Go.ChangeAt Go.RowKit
set_option linter.unusedVariables false
set_option linter.unusedSimpArgs false

theorem Blks.but2 {W W' : World} {g x : Nat} (k : But [g, x] W.heap.size W W') : ∀ {L : List (Nat × List Value × TypeId)}, Off g L → Off x L → Blks W L → Blks W' L
  | [], _, _, _ => trivial
  | e :: r, o, o2, h => ⟨k.blk h.1 h.1.lt (by simp; exact ⟨o.1, o2.1⟩), Blks.but2 k o.2 o2.2 h.2⟩

/-- A set and the law's own blocks. -/
structure HSt (w : World) (L : List (Nat × List Value × TypeId)) (v : Bool) (h l b k : Int) (x a g N : Nat) (f : Nat → Bool) (c : Nat) (W : World) : Prop where
  kn : Kn w L W
  p : SetAt W v h l b k x a g N f c
  og : Off g L
  ox : Off x L
  hg : w.heap.size ≤ g
  hx : w.heap.size ≤ x

theorem but_to2 {w W W' : World} {g x : Nat} (q : But [g, x] W.heap.size W W') (b : Below w.heap.size w W) (hg : w.heap.size ≤ g) (hx : w.heap.size ≤ x) : Below w.heap.size w W' :=
  b.trans (But.below (q.mono b.size (fun y hy hl => by simp at hy; omega)))

theorem HSt.turn {w W W' : World} {L : List (Nat × List Value × TypeId)} {v : Bool} {h l b k : Int} {x a g N c c' : Nat} {f f' : Nat → Bool} (S : HSt w L v h l b k x a g N f c W) (P' : SetAt W' v h l b k x a g N f' c') (q : But [g, x] W.heap.size W W') : HSt w L v h l b k x a g N f' c' W' :=
  ⟨Kn.of (Blks.but2 q S.og S.ox S.kn.2.1) (but_to2 q S.kn.bel S.hg S.hx), P', S.og, S.ox, S.hg, S.hx⟩

theorem HSt.push {w W : World} {L : List (Nat × List Value × TypeId)} {v : Bool} {h l b k : Int} {x a g N c : Nat} {f : Nat → Bool} (S : HSt w L v h l b k x a g N f c W) (cs : List Value) (t : TypeId) : HSt w ((W.heap.size, cs, t) :: L) v h l b k x a g N f c (W.alloc (.cells cs.toArray t)) :=
  have bl : Below W.heap.size W (W.alloc (.cells cs.toArray t)) := by repeat (first | with_reducible exact Below.refl _ _ | with_reducible refine Below.drew ?_ | with_reducible refine Below.alloc ?_ (by first | omega | (simp <;> omega)) _ | with_reducible refine Below.setCell ?_ (by first | omega | (simp <;> omega)) _)
  ⟨S.kn.push rfl, S.p.below bl, ⟨by show W.heap.size ≠ g; have := S.p.lt; omega, S.og⟩, ⟨by show W.heap.size ≠ x; have := S.p.lt; omega, S.ox⟩, S.hg, S.hx⟩

theorem occ_h {w W : World} {L : List (Nat × List Value × TypeId)} {v u : Bool} {h l b k qh ql c : Int} {x a g n m N cu : Nat} {f f' : Nat → Bool} {C E : Int} (O : SetOf v h l b k n N) (hq : IsNum qh ql m) (hf : setO v n k N u m c true f = f') (hC : cntO f f' = C) (hE : qE v n b u m c = E) (S : HSt w L v h l b k x a g N f cu W) :
    Calls Tryz.prog 43 #[.pointer (some ⟨x, 0, none⟩), pv u qh ql c] W fun e W' => e = .returned (.tuple #[.int .i64 C, .int .i64 E]) ∧ HSt w L v h l b k x a g N f' cu W' := by
  subst hf hC hE
  refine (occ_c O hq rfl rfl rfl W S.p).mono ?_
  rintro e W' ⟨rfl, hP, hK⟩
  exact ⟨rfl, S.turn hP (hK.mono (Nat.le_refl _) (fun y hy _ => by simp at hy ⊢; exact Or.inl hy))⟩

theorem next_h {w W : World} {L : List (Nat × List Value × TypeId)} {v : Bool} {h l b k rh rl : Int} {x a g n N cu i : Nat} {f : Nat → Bool} (O : SetOf v h l b k n N) (hT : TB w) (hi : nextF f N cu = some i) (hr : IsNum rh rl (blkN v n k i)) (S : HSt w L v h l b k x a g N f cu W) :
    Calls Tryz.prog 46 #[.pointer (some ⟨x, 0, none⟩)] W fun e W' => e = .returned (.tuple #[pv v rh rl k, .int .i64 0]) ∧ HSt w L v h l b k x a g N (upd f i true) ((i + 1) % N) W' := by
  refine (snext_ok O hi hr W (hT.below S.kn.bel) S.p).mono ?_
  rintro e W' ⟨rfl, hP, hK⟩
  exact ⟨rfl, S.turn hP hK⟩

end Go.Proofs.YtllidkflgjjkfaaGreatDoor
