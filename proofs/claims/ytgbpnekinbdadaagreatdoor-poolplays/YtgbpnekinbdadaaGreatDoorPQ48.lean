/-
  Texts PoR7, PoA, PoPl, PoP1, PoP2, PoP3, PoD, PoD2, PoD3, PoE, PoP4, PoP5 of the proof.
-/
import Derived.Test.YtgbpnekinbdadaaGreatDoorPQ41
import Derived.Test.YtgbpnekinbdadaaGreatDoorPQ42
import Derived.Test.YtgbpnekinbdadaaGreatDoorPQ39
import Derived.Test.YtgbpnekinbdadaaGreatDoorPQ47
import Derived.Test.YtgbpnekinbdadaaGreatDoorPQ16
import Derived.Test.YtgbpnekinbdadaaGreatDoorPQ0

namespace Go.Proofs.YtgbpnekinbdadaaGreatDoor
open Go.ChangeShapes Go.WideShapes Go.ChangeAt Go.RowKit
set_option linter.unusedVariables false
set_option linter.unusedSimpArgs false

/-- Three cells that are read. -/
def Pb3 (a r g j : Nat) (x y z : Value) (W : World) : Prop := W.cell? ⟨a, 0, none⟩ = some x ∧ W.cell? ⟨r, 5, none⟩ = some y ∧ W.cell? ⟨g, j, none⟩ = some z

theorem Pb3.drew {W : World} {a r g j : Nat} {x y z : Value} (s : Pb3 a r g j x y z W) : Pb3 a r g j x y z W.drew := s

set_option maxRecDepth 100000 in
set_option maxHeartbeats 3200000 in
theorem rpbytes_any {v : Bool} {h l b : Int} {base r N : Nat} {us : List Nat} {A : ByteArray} (hN6 : N ≤ 65536) (hus : us.length ≤ 1000) (hlt : ∀ i ∈ us, i < N) (hA : A.size ≤ 3000) (w : World) (P : RpAt w base v h l b r N us)
  (PR : Hid (∀ w', Calls Tryz.prog 9 #[pv v h l b] w' fun e w1 => e = .returned (.string A) ∧ Below w'.heap.size w' w1)) :
  Calls Tryz.prog 27 #[.pointer (some ⟨r, 0, none⟩)] w fun e w' => e = .returned (.string (A ++ ⟨#[0]⟩ ++ bytesS N (fun p => decide (p ∈ us)))) ∧ Below w.heap.size w w' := by
 have NB := hide (rnew_c N hN6 w)
 have s2 := bytesS_size N (fun p => decide (p ∈ us))
 have bn : bytesN N ≤ 8196 := by unfold bytesN; omega
 have RB := hide (fun bb gg w' (R' : RefAt w' bb gg N (fun p => decide (p ∈ us))) => rbytes_ok bb gg N (fun p => decide (p ∈ us)) (fun p hp => decide_eq_false (fun c => by have := hlt p c; omega)) w' R')
 obtain ⟨D, hD⟩ : ∃ D, bytesS N (fun p => decide (p ∈ us)) = D := ⟨_, rfl⟩
 rw [hD] at s2 ⊢
 have s3 : D.size ≤ 8196 := by omega
 rw [hD] at RB
 obtain ⟨sv, hb, ho⟩ := P.is
 obtain ⟨r0, r1, r2, r3, r4, r5, rl⟩ := hb.six
 have HB := hide hb
 obtain ⟨L, hL⟩ : ∃ L, us.length = L := ⟨_, rfl⟩
 have HL := hide hL
 rw [hL] at hus ho
 obtain ⟨q, cap, hs, hc⟩ : ∃ (q : Option Addr) (cap : Nat), sv = .slice q L cap ∧ (0 < L → ∃ g, q = some ⟨g, 0, none⟩ ∧ g < w.heap.size ∧ ∀ j (x : Nat), us[j]? = some x → w.cell? ⟨g, j, none⟩ = some (.int .i64 x)) := by
  rcases ho.2 with ⟨h1, h0⟩ | ⟨g, cap, cur, h1, _, h3, _⟩
  ·exact ⟨none, 0, by rw [h1, h0], fun h => by omega⟩
  ·refine ⟨some ⟨g, 0, none⟩, cap, h1, fun _ => ⟨g, rfl, (Array.getElem?_eq_some_iff.1 h3).1, fun j x hx => ?_⟩⟩
   have := ho.cells (g := g) (by rw [h1]; rfl) j (.int .i64 x) (by rw [List.getElem?_map, hx]; rfl)
   rw [add_none0] at this
   exact this
 subst hs
 have HC := hide hc
 have HLT := hide hlt
 clear P hb ho hL hc hD s2 bn hlt
 go_enter Tryz.func27, Tryz.ntmps27
 go_wp2_with fail
 refine NB.out.mono ?_
 rintro e w1 ⟨rfl, RA, hb1, hsz⟩
 have R0 : Hid (RefAt w1 (w.heap.size + 1) w.heap.size N (fun p => decide (p ∈ us.take 0))) := RA.cast (fun p _ => by simp)
 have B0 := hide hb1
 clear NB RA hb1 r0 r1 r2 r3 r4 r5 hsz
 go_wp2_with fail
 go_loopw [5] (fun kv wr => ∃ j : Nat, j ≤ L ∧ kv = .int .i64 j ∧ Hid (RefAt wr (w.heap.size + 1) w.heap.size N (fun p => decide (p ∈ us.take j))) ∧ Hid (Below w.heap.size w wr)) (fun kv _ => L - (intOf kv).toNat)
 case atStart => exact ⟨0, by omega, rfl, R0, B0⟩
 case round =>
  clear R0 B0
  obtain ⟨j, hj, rfl, R, B⟩ := hrel
  obtain ⟨x0, x1, x2, x3, x4, x5, xl⟩ := (HB.out.below B.out).six
  by_cases hlt : j < L
  ·have hlt' : (j : Int) < L := by omega
   obtain ⟨y, hy⟩ : ∃ y, us[j]? = some y := ⟨_, List.getElem?_eq_getElem (by rw [HL.out]; exact hlt)⟩
   obtain ⟨g, rfl, gl, hg⟩ := HC.out (by omega)
   have yN : y < N := HLT.out y (List.mem_of_getElem? hy)
   have yN' : (y : Int) < (N : Int) := by omega
   have S0 : Pb3 (w.heap.size + 1) r g j (.slice (some ⟨w.heap.size, 0, none⟩) N N) (.slice (some ⟨g, 0, none⟩) L cap) (.int .i64 (y : Int)) wr := ⟨R.out.slice, x5, (B.out.cell (p := ⟨g, j, none⟩) gl).trans (hg j y hy)⟩
   have R1 := R.out.put y true
   have B1 := B.out.setCell (p := ⟨w.heap.size, y, none⟩) (Nat.le_refl _) (.bool true)
   have S1 : Pb3 (w.heap.size + 1) r g j (.slice (some ⟨w.heap.size, 0, none⟩) N N) (.slice (some ⟨g, 0, none⟩) L cap) (.int .i64 (y : Int)) (wr.setCell ⟨w.heap.size, y, none⟩ (.bool true)) := ⟨R1.slice, (HB.out.below B1).cell 5, (B1.cell (p := ⟨g, j, none⟩) gl).trans (hg j y hy)⟩
   have tk : us.take (j + 1) = us.take j ++ [y] := by rw [List.take_add_one, hy]; rfl
   have R2 : Hid (RefAt (wr.setCell ⟨w.heap.size, y, none⟩ (.bool true)) (w.heap.size + 1) w.heap.size N (fun p => decide (p ∈ us.take (j + 1)))) := R1.cast (fun p _ => by
    rw [tk]
    unfold upd
    by_cases e : p = y
    ·subst e; simp
    ·simp [e])
   have B2 := hide B1
   have fz := R.out.row.frozen y
   obtain ⟨ov, cy⟩ : ∃ ov, wr.cell? ⟨w.heap.size, y, none⟩ = some ov := ⟨_, R.out.get yN⟩
   have R3 : Hid (RefAt (wr.setCell ⟨w.heap.size, y, none⟩ (.bool true)).drew (w.heap.size + 1) w.heap.size N (fun p => decide (p ∈ us.take (j + 1)))) := R2.out.below (Below.drew (Below.refl _ _))
   have B3 : Hid (Below w.heap.size w (wr.setCell ⟨w.heap.size, y, none⟩ (.bool true)).drew) := B2.out.drew
   have yl2 := R.out.row.lt
   clear hy hg tk R1 B1 R B
   go_upto_region 5 with fail
   refine wp_region_held_drew (S := (Pb3 (w.heap.size + 1) r g j (.slice (some ⟨w.heap.size, 0, none⟩) N N) (.slice (some ⟨g, 0, none⟩) L cap) (.int .i64 (y : Int)))) (by kernel_rfl) ?hS5001 (fun hHeld => ?rest5001)
   case hS5001 => (first | with_reducible exact S0.drew | exact S1.drew | exact S1)
   refine w8 0 ?_ (ga7 rfl) (by kernel_rfl) (fun _ _ _ h => h) ⟨by rfl, ?y5002⟩ hHeld ?_
   case y5002 => (intro wq hSw; (try simp only [Pb3] at hSw); go_simp; try with_reducible rfl)
   try simp only [Act.put, a7, b7, c7]
   refine w8 1 ?_ (ga7 rfl) (by kernel_rfl) (fun _ _ _ h => h) ⟨by rfl, ?y5003⟩ hHeld ?_
   case y5003 => (intro wq hSw; (try simp only [Pb3] at hSw); go_simp; try with_reducible rfl)
   try simp only [Act.put, a7, b7, c7]
   refine w8 2 ?_ (ga7 rfl) (by kernel_rfl) (fun _ _ _ h => h) ⟨by rfl, ?y5004⟩ hHeld ?_
   case y5004 => (intro wq hSw; (try simp only [Pb3] at hSw); go_simp; try with_reducible rfl)
   try simp only [Act.put, a7, b7, c7]
   refine w8 3 ?_ (ga7 rfl) (by kernel_rfl) (fun _ _ _ h => h) ⟨by rfl, ?y5005⟩ hHeld ?_
   case y5005 => (intro wq hSw; (try simp only [Pb3] at hSw); go_simp; try with_reducible rfl)
   try simp only [Act.put, a7, b7, c7]
   refine w8 4 ?_ (ga7 rfl) (by kernel_rfl) (fun _ _ _ h => h) ⟨by rfl, ?y5006⟩ hHeld ?_
   case y5006 => (intro wq hSw; (try simp only [Pb3] at hSw); go_simp; try with_reducible rfl)
   try simp only [Act.put, a7, b7, c7]
   refine w8 5 ?_ (ga7 rfl) (by kernel_rfl) (fun _ _ _ h => h) ⟨by rfl, ?y5007⟩ hHeld ?_
   case y5007 => (intro wq hSw; (try simp only [Pb3] at hSw); go_simp; try with_reducible rfl)
   try simp only [Act.put, a7, b7, c7]
   refine w8 6 ?_ (ga7 rfl) (by kernel_rfl) (fun _ _ _ h => h) ⟨by rfl, ?y5008⟩ hHeld ?_
   case y5008 => (intro wq hSw; (try simp only [Pb3] at hSw); go_simp; try with_reducible rfl)
   try simp only [Act.put, a7, b7, c7]
   refine w8 7 ?_ (ga7 rfl) (by kernel_rfl) (fun _ _ _ h => h) ⟨by rfl, ?y5009⟩ hHeld ?_
   case y5009 => (intro wq hSw; (try simp only [Pb3] at hSw); go_simp; try with_reducible rfl)
   try simp only [Act.put, a7, b7, c7]
   refine w8 8 ?_ (ga7 rfl) (by kernel_rfl) (fun _ _ _ h => h) ⟨by rfl, ?y5010⟩ hHeld ?_
   case y5010 => (intro wq hSw; (try simp only [Pb3] at hSw); go_simp; try with_reducible rfl)
   try simp only [Act.put, a7, b7, c7]
   refine w8 9 ?_ (ga7 rfl) (by kernel_rfl) (fun _ _ _ h => h) ⟨by rfl, ?y5011⟩ hHeld ?_
   case y5011 => (intro wq hSw; (try simp only [Pb3] at hSw); go_simp; try with_reducible rfl)
   try simp only [Act.put, a7, b7, c7]
   refine w8 10 ?_ (ga7 rfl) (by kernel_rfl) (fun _ _ _ h => h) ⟨by rfl, ?y5012⟩ hHeld ?_
   case y5012 => (intro wq hSw; (try simp only [Pb3] at hSw); go_simp; try with_reducible rfl)
   try simp only [Act.put, a7, b7, c7]
   refine w8 11 ?_ (ga7 rfl) (by kernel_rfl) (fun _ _ _ h => h) ⟨by rfl, ?y5013⟩ hHeld ?_
   case y5013 => (intro wq hSw; (try simp only [Pb3] at hSw); go_simp; try with_reducible rfl)
   try simp only [Act.put, a7, b7, c7]
   refine wpAnyH_ready (rs := [12]) (by kernel_rfl) (by simp) ?rdy5014
   refine (AllReadyH.cons (ga7 rfl) (fun K hK => ?stp5014_12) AllReadyH.nil)
   case stp5014_12 =>
    go_simp
    go_wp2_with fail
    refine hK.out _ _ ?hSn5015 (fun hHeld2 => ?rest5015)
    case hSn5015 => (first | with_reducible exact S0.drew | exact S1.drew | exact S1)
    clear hK K hHeld
    have hHeld := hHeld2
    clear hHeld2
    try simp only [Act.put, a7, b7, c7]
    refine wpAnyH_done (by kernel_rfl) ?_ _
    go_wp2
    go_roundw
    case rel => exact ⟨j + 1, by omega, by go_num, (by first | exact R3 | exact R2), (by first | exact B3 | exact B2)⟩
    case measure => (simp [intOf]; omega)
  ·obtain rfl : j = L := by omega
   have hlt' : ¬ (j : Int) < j := by omega
   have ta : us.take j = us := List.take_of_length_le (by rw [HL.out]; exact Nat.le_refl _)
   have R1 := R.out
   rw [ta] at R1
   have R2 := hide R1
   clear R R1 ta HC HB
   go_wp2_with fail
   refine (PR.out _).mono ?_
   rintro e w5 ⟨rfl, hb5⟩
   have R5 := hide (RB.out _ _ _ (R2.out.below hb5))
   have B5 := hide (B.out.trans (hb5.mono B.out.size))
   clear hb5 R2 B PR x0 x1 x2 x3 x4 x5
   go_wp2_with fail
   refine R5.out.mono ?_
   rintro e w6 ⟨rfl, hb6⟩
   have B6 := hide (B5.out.trans (hb6.mono B5.out.size))
   clear hb6 R5 B5 RB
   go_wp2
   go_ret
   exact ⟨rfl, B6.out⟩


theorem aim6_start {v u : Bool} {h l b K qh ql A M : Int} {r N : Nat} {sv : Value} (w : World) (hd : Blk w r #[.bool v, .int .u64 h, .int .u64 l, .int .i64 b, .int .i64 N, sv] 59) : Kn w [(w.heap.size + 1, [.bool false, .int .u64 0, .int .u64 0], 26), (w.heap.size, [.int .i64 K, .bool u, .int .u64 qh, .int .u64 ql, .int .i64 A, .int .i64 M], 49), (r, [.bool v, .int .u64 h, .int .u64 l, .int .i64 b, .int .i64 N, sv], 59)] ((w.alloc (.cells #[.int .i64 K, .bool u, .int .u64 qh, .int .u64 ql, .int .i64 A, .int .i64 M] 49)).alloc (.cells #[.bool false, .int .u64 0, .int .u64 0] 26)) :=
 (((Kn.nil w).cons hd).push rfl).push (by simp)

set_option maxRecDepth 100000 in
set_option maxHeartbeats 1600000 in
theorem aim6_zero {v u : Bool} {h l b K qh ql A M : Int} {base r m N : Nat} {us : List Nat} (hq : IsNum qh ql m) (hA : ¬ A > 0) (w : World) (P : RpAt w base v h l b r N us) :
  Calls Tryz.prog 20 #[.pointer (some ⟨r, 0, none⟩), .agg #[.int .i64 K, .bool u, .int .u64 qh, .int .u64 ql, .int .i64 A, .int .i64 M]] w fun e w' => e = .returned (av u qh ql) ∧ Below w.heap.size w w' := by
 obtain ⟨sv, hd, _⟩ := P.is
 have K0 := aim6_start (K := K) (u := u) (qh := qh) (ql := ql) (A := A) (M := M) w hd
 clear P hd
 go_enter Tryz.func20, Tryz.ntmps20
 go_upto_region 1 with fail
 refine wp_region_held_drew (S := (Kn w [(w.heap.size + 1, [.bool false, .int .u64 0, .int .u64 0], 26), (w.heap.size, [.int .i64 K, .bool u, .int .u64 qh, .int .u64 ql, .int .i64 A, .int .i64 M], 49), (r, [.bool v, .int .u64 h, .int .u64 l, .int .i64 b, .int .i64 N, sv], 59)])) (by kernel_rfl) ?hS100 (fun hHeld => ?rest100)
 case hS100 => (first | with_reducible exact K0.drew)
 refine w8 0 ?_ (ga7 rfl) (by kernel_rfl) (fun _ _ _ h => h) ⟨by rfl, ?y101⟩ hHeld ?_
 case y101 => (intro wq hSw; (try simp only [Two, Kn, Facts, CellsAt] at hSw); go_simp; try with_reducible rfl)
 try simp only [Act.put, a7, b7, c7]
 refine w8 1 ?_ (ga7 rfl) (by kernel_rfl) (fun _ _ _ h => h) ⟨by rfl, ?y102⟩ hHeld ?_
 case y102 => (intro wq hSw; (try simp only [Two, Kn, Facts, CellsAt] at hSw); go_simp; try with_reducible rfl)
 try simp only [Act.put, a7, b7, c7]
 refine w8 2 ((Value.bool false)) (ga7 rfl) (by kernel_rfl) (fun _ _ _ h => h) ⟨by rfl, ?y103⟩ hHeld ?_
 case y103 => (intro wq hSw; (try simp only [Two, Kn, Facts, CellsAt] at hSw); go_simp; (all_goals (first | rfl | (simp; omega) | (simp; done) | omega)))
 try simp only [Act.put, a7, b7, c7]
 refine w8 3 ?_ (ga7 rfl) (by kernel_rfl) (fun _ _ _ h => h) ⟨by rfl, ?y104⟩ hHeld ?_
 case y104 => (intro wq hSw; (try simp only [Two, Kn, Facts, CellsAt] at hSw); go_simp; try with_reducible rfl)
 try simp only [Act.put, a7, b7, c7]
 refine wpAnyH_take (i := 4) (oi := _) (v := undef) (ga7 rfl) (by kernel_rfl) (by kernel_rfl) (by kernel_rfl) (fun _ _ _ h => h) (Or.inr ⟨by rfl, rfl⟩) (by assumption) ?rest105
 try simp only [Act.put, a7, b7, c7]
 refine wpAnyH_take (i := 5) (oi := _) (v := undef) (ga7 rfl) (by kernel_rfl) (by kernel_rfl) (by kernel_rfl) (fun _ _ _ h => h) (Or.inr ⟨by rfl, rfl⟩) (by assumption) ?rest106
 try simp only [Act.put, a7, b7, c7]
 refine wpAnyH_take (i := 6) (oi := _) (v := undef) (ga7 rfl) (by kernel_rfl) (by kernel_rfl) (by kernel_rfl) (fun _ _ _ h => h) (Or.inr ⟨by rfl, rfl⟩) (by assumption) ?rest107
 try simp only [Act.put, a7, b7, c7]
 refine wpAnyH_take (i := 7) (oi := _) (v := undef) (ga7 rfl) (by kernel_rfl) (by kernel_rfl) (by kernel_rfl) (fun _ _ _ h => h) (Or.inr ⟨by rfl, rfl⟩) (by assumption) ?rest108
 try simp only [Act.put, a7, b7, c7]
 refine wpAnyH_take (i := 8) (oi := _) (v := undef) (ga7 rfl) (by kernel_rfl) (by kernel_rfl) (by kernel_rfl) (fun _ _ _ h => h) (Or.inr ⟨by rfl, rfl⟩) (by assumption) ?rest109
 try simp only [Act.put, a7, b7, c7]
 refine wpAnyH_take (i := 9) (oi := _) (v := undef) (ga7 rfl) (by kernel_rfl) (by kernel_rfl) (by kernel_rfl) (fun _ _ _ h => h) (Or.inr ⟨by rfl, rfl⟩) (by assumption) ?rest110
 try simp only [Act.put, a7, b7, c7]
 refine wpAnyH_take (i := 10) (oi := _) (v := undef) (ga7 rfl) (by kernel_rfl) (by kernel_rfl) (by kernel_rfl) (fun _ _ _ h => h) (Or.inr ⟨by rfl, rfl⟩) (by assumption) ?rest111
 try simp only [Act.put, a7, b7, c7]
 refine w8 11 ?_ (ga7 rfl) (by kernel_rfl) (fun _ _ _ h => h) ⟨by rfl, ?y112⟩ hHeld ?_
 case y112 => (intro wq hSw; (try simp only [Two, Kn, Facts, CellsAt] at hSw); go_simp; try with_reducible rfl)
 try simp only [Act.put, a7, b7, c7]
 refine wpAnyH_done (by kernel_rfl) ?fin100 _
 have F := hHeld.1
 simp only [Facts, CellsAt] at F
 obtain ⟨z0, z1, z2, z3, z4, z5, z6⟩ := hHeld.2.1.1.three
 have B := hide hHeld.bel
 have bs := B.out.size
 clear hHeld K0
 go_wp2
 refine bodyPost_ret (v := av u qh ql) (by simp [results, Tryz.results20, go_sem, World.cell?_setCell_same', World.cell?_setCell_other, *]) rfl ⟨rfl, by repeat (first | with_reducible exact Below.refl _ _ | with_reducible refine Below.drew ?_ | with_reducible refine Below.alloc ?_ (by first | omega | (simp <;> omega)) _ | with_reducible refine Below.setCell ?_ (by first | omega | (simp <;> omega)) _ | with_reducible refine Below.trans ?_ (Below.mono B.out (by first | omega | (simp <;> omega))))⟩

set_option maxRecDepth 100000 in
set_option maxHeartbeats 1600000 in
theorem aim6_out {v u : Bool} {h l b K qh ql A M : Int} {base r m N : Nat} {us : List Nat} (hq : IsNum qh ql m) (hA : A > 0) (hN : ¬ A ≤ (N : Int)) (w : World) (P : RpAt w base v h l b r N us) :
  Calls Tryz.prog 20 #[.pointer (some ⟨r, 0, none⟩), .agg #[.int .i64 K, .bool u, .int .u64 qh, .int .u64 ql, .int .i64 A, .int .i64 M]] w fun e w' => e = .returned (av u qh ql) ∧ Below w.heap.size w w' := by
 obtain ⟨sv, hd, _⟩ := P.is
 have K0 := aim6_start (K := K) (u := u) (qh := qh) (ql := ql) (A := A) (M := M) w hd
 clear P hd
 go_enter Tryz.func20, Tryz.ntmps20
 go_upto_region 1 with fail
 refine wp_region_held_drew (S := (Kn w [(w.heap.size + 1, [.bool false, .int .u64 0, .int .u64 0], 26), (w.heap.size, [.int .i64 K, .bool u, .int .u64 qh, .int .u64 ql, .int .i64 A, .int .i64 M], 49), (r, [.bool v, .int .u64 h, .int .u64 l, .int .i64 b, .int .i64 N, sv], 59)])) (by kernel_rfl) ?hS200 (fun hHeld => ?rest200)
 case hS200 => (first | with_reducible exact K0.drew)
 refine w8 0 ?_ (ga7 rfl) (by kernel_rfl) (fun _ _ _ h => h) ⟨by rfl, ?y201⟩ hHeld ?_
 case y201 => (intro wq hSw; (try simp only [Two, Kn, Facts, CellsAt] at hSw); go_simp; try with_reducible rfl)
 try simp only [Act.put, a7, b7, c7]
 refine w8 1 ?_ (ga7 rfl) (by kernel_rfl) (fun _ _ _ h => h) ⟨by rfl, ?y202⟩ hHeld ?_
 case y202 => (intro wq hSw; (try simp only [Two, Kn, Facts, CellsAt] at hSw); go_simp; try with_reducible rfl)
 try simp only [Act.put, a7, b7, c7]
 refine w8 2 ((Value.bool true)) (ga7 rfl) (by kernel_rfl) (fun _ _ _ h => h) ⟨by rfl, ?y203⟩ hHeld ?_
 case y203 => (intro wq hSw; (try simp only [Two, Kn, Facts, CellsAt] at hSw); go_simp; (all_goals (first | rfl | (simp; omega) | (simp; done) | omega)))
 try simp only [Act.put, a7, b7, c7]
 refine w8 3 ?_ (ga7 rfl) (by kernel_rfl) (fun _ _ _ h => h) ⟨by rfl, ?y204⟩ hHeld ?_
 case y204 => (intro wq hSw; (try simp only [Two, Kn, Facts, CellsAt] at hSw); go_simp; try with_reducible rfl)
 try simp only [Act.put, a7, b7, c7]
 refine w8 4 ?_ (ga7 rfl) (by kernel_rfl) (fun _ _ _ h => h) ⟨by rfl, ?y205⟩ hHeld ?_
 case y205 => (intro wq hSw; (try simp only [Two, Kn, Facts, CellsAt] at hSw); go_simp; try with_reducible rfl)
 try simp only [Act.put, a7, b7, c7]
 refine w8 5 ?_ (ga7 rfl) (by kernel_rfl) (fun _ _ _ h => h) ⟨by rfl, ?y206⟩ hHeld ?_
 case y206 => (intro wq hSw; (try simp only [Two, Kn, Facts, CellsAt] at hSw); go_simp; try with_reducible rfl)
 try simp only [Act.put, a7, b7, c7]
 refine w8 6 ?_ (ga7 rfl) (by kernel_rfl) (fun _ _ _ h => h) ⟨by rfl, ?y207⟩ hHeld ?_
 case y207 => (intro wq hSw; (try simp only [Two, Kn, Facts, CellsAt] at hSw); go_simp; try with_reducible rfl)
 try simp only [Act.put, a7, b7, c7]
 refine w8 7 ?_ (ga7 rfl) (by kernel_rfl) (fun _ _ _ h => h) ⟨by rfl, ?y208⟩ hHeld ?_
 case y208 => (intro wq hSw; (try simp only [Two, Kn, Facts, CellsAt] at hSw); go_simp; try with_reducible rfl)
 try simp only [Act.put, a7, b7, c7]
 refine w8 8 ?_ (ga7 rfl) (by kernel_rfl) (fun _ _ _ h => h) ⟨by rfl, ?y209⟩ hHeld ?_
 case y209 => (intro wq hSw; (try simp only [Two, Kn, Facts, CellsAt] at hSw); go_simp; try with_reducible rfl)
 try simp only [Act.put, a7, b7, c7]
 refine w8 9 ?_ (ga7 rfl) (by kernel_rfl) (fun _ _ _ h => h) ⟨by rfl, ?y210⟩ hHeld ?_
 case y210 => (intro wq hSw; (try simp only [Two, Kn, Facts, CellsAt] at hSw); go_simp; try with_reducible rfl)
 try simp only [Act.put, a7, b7, c7]
 refine w8 10 ((Value.bool false)) (ga7 rfl) (by kernel_rfl) (fun _ _ _ h => h) ⟨by rfl, ?y211⟩ hHeld ?_
 case y211 => (intro wq hSw; (try simp only [Two, Kn, Facts, CellsAt] at hSw); go_simp; (all_goals (first | rfl | (simp; omega) | (simp; done) | omega)))
 try simp only [Act.put, a7, b7, c7]
 refine w8 11 ?_ (ga7 rfl) (by kernel_rfl) (fun _ _ _ h => h) ⟨by rfl, ?y212⟩ hHeld ?_
 case y212 => (intro wq hSw; (try simp only [Two, Kn, Facts, CellsAt] at hSw); go_simp; try with_reducible rfl)
 try simp only [Act.put, a7, b7, c7]
 refine wpAnyH_done (by kernel_rfl) ?fin200 _
 have F := hHeld.1
 simp only [Facts, CellsAt] at F
 obtain ⟨z0, z1, z2, z3, z4, z5, z6⟩ := hHeld.2.1.1.three
 have B := hide hHeld.bel
 have bs := B.out.size
 clear hHeld K0
 go_wp2
 refine bodyPost_ret (v := av u qh ql) (by simp [results, Tryz.results20, go_sem, World.cell?_setCell_same', World.cell?_setCell_other, *]) rfl ⟨rfl, by repeat (first | with_reducible exact Below.refl _ _ | with_reducible refine Below.drew ?_ | with_reducible refine Below.alloc ?_ (by first | omega | (simp <;> omega)) _ | with_reducible refine Below.setCell ?_ (by first | omega | (simp <;> omega)) _ | with_reducible refine Below.trans ?_ (Below.mono B.out (by first | omega | (simp <;> omega))))⟩

set_option maxRecDepth 100000 in
set_option maxHeartbeats 1600000 in
theorem aim6_in {v u : Bool} {h l b K qh ql M rh rl : Int} {base r N i : Nat} {us : List Nat} (hi : i < N) (hN : N ≤ 65536) (w : World) (P : RpAt w base v h l b r N us)
  (AD : Hid (∀ w', RpAt w' base v h l b r N us → Calls Tryz.prog 58 #[.pointer (some ⟨r, 0, none⟩), .int .i64 (i : Int)] w' fun e w1 => e = .returned (av v rh rl) ∧ Below w'.heap.size w' w1)) :
  Calls Tryz.prog 20 #[.pointer (some ⟨r, 0, none⟩), .agg #[.int .i64 K, .bool u, .int .u64 qh, .int .u64 ql, .int .i64 ((i : Int) + 1), .int .i64 M]] w fun e w' => e = .returned (av v rh rl) ∧ Below w.heap.size w w' := by
 obtain ⟨sv, hd, _⟩ := P.is
 have K0 := aim6_start (K := K) (u := u) (qh := qh) (ql := ql) (A := (i : Int) + 1) (M := M) w hd
 have PH := hide P
 have c1 : (i : Int) + 1 > 0 := by omega
 have c2 : (i : Int) + 1 ≤ (N : Int) := by omega
 have hw : IntKind.i64.wrap (i : Int) = (i : Int) := by simp [IntKind.wrap, IntKind.bits, IntKind.signed]; omega
 have hiN : (i : Int) < (N : Int) := by omega
 clear P hd
 go_enter Tryz.func20, Tryz.ntmps20
 go_upto_region 1 with fail
 refine wp_region_held_drew (S := (Kn w [(w.heap.size + 1, [.bool false, .int .u64 0, .int .u64 0], 26), (w.heap.size, [.int .i64 K, .bool u, .int .u64 qh, .int .u64 ql, .int .i64 ((i : Int) + 1), .int .i64 M], 49), (r, [.bool v, .int .u64 h, .int .u64 l, .int .i64 b, .int .i64 N, sv], 59)])) (by kernel_rfl) ?hS300 (fun hHeld => ?rest300)
 case hS300 => (first | with_reducible exact K0.drew)
 refine w8 0 ?_ (ga7 rfl) (by kernel_rfl) (fun _ _ _ h => h) ⟨by rfl, ?y301⟩ hHeld ?_
 case y301 => (intro wq hSw; (try simp only [Two, Kn, Facts, CellsAt] at hSw); go_simp; try with_reducible rfl)
 try simp only [Act.put, a7, b7, c7]
 refine w8 1 ?_ (ga7 rfl) (by kernel_rfl) (fun _ _ _ h => h) ⟨by rfl, ?y302⟩ hHeld ?_
 case y302 => (intro wq hSw; (try simp only [Two, Kn, Facts, CellsAt] at hSw); go_simp; try with_reducible rfl)
 try simp only [Act.put, a7, b7, c7]
 refine w8 2 ((Value.bool true)) (ga7 rfl) (by kernel_rfl) (fun _ _ _ h => h) ⟨by rfl, ?y303⟩ hHeld ?_
 case y303 => (intro wq hSw; (try simp only [Two, Kn, Facts, CellsAt] at hSw); go_simp; (all_goals (first | rfl | (simp; omega) | (simp; done) | omega)))
 try simp only [Act.put, a7, b7, c7]
 refine w8 3 ?_ (ga7 rfl) (by kernel_rfl) (fun _ _ _ h => h) ⟨by rfl, ?y304⟩ hHeld ?_
 case y304 => (intro wq hSw; (try simp only [Two, Kn, Facts, CellsAt] at hSw); go_simp; try with_reducible rfl)
 try simp only [Act.put, a7, b7, c7]
 refine w8 4 ?_ (ga7 rfl) (by kernel_rfl) (fun _ _ _ h => h) ⟨by rfl, ?y305⟩ hHeld ?_
 case y305 => (intro wq hSw; (try simp only [Two, Kn, Facts, CellsAt] at hSw); go_simp; try with_reducible rfl)
 try simp only [Act.put, a7, b7, c7]
 refine w8 5 ?_ (ga7 rfl) (by kernel_rfl) (fun _ _ _ h => h) ⟨by rfl, ?y306⟩ hHeld ?_
 case y306 => (intro wq hSw; (try simp only [Two, Kn, Facts, CellsAt] at hSw); go_simp; try with_reducible rfl)
 try simp only [Act.put, a7, b7, c7]
 refine w8 6 ?_ (ga7 rfl) (by kernel_rfl) (fun _ _ _ h => h) ⟨by rfl, ?y307⟩ hHeld ?_
 case y307 => (intro wq hSw; (try simp only [Two, Kn, Facts, CellsAt] at hSw); go_simp; try with_reducible rfl)
 try simp only [Act.put, a7, b7, c7]
 refine w8 7 ?_ (ga7 rfl) (by kernel_rfl) (fun _ _ _ h => h) ⟨by rfl, ?y308⟩ hHeld ?_
 case y308 => (intro wq hSw; (try simp only [Two, Kn, Facts, CellsAt] at hSw); go_simp; try with_reducible rfl)
 try simp only [Act.put, a7, b7, c7]
 refine w8 8 ?_ (ga7 rfl) (by kernel_rfl) (fun _ _ _ h => h) ⟨by rfl, ?y309⟩ hHeld ?_
 case y309 => (intro wq hSw; (try simp only [Two, Kn, Facts, CellsAt] at hSw); go_simp; try with_reducible rfl)
 try simp only [Act.put, a7, b7, c7]
 refine w8 9 ?_ (ga7 rfl) (by kernel_rfl) (fun _ _ _ h => h) ⟨by rfl, ?y310⟩ hHeld ?_
 case y310 => (intro wq hSw; (try simp only [Two, Kn, Facts, CellsAt] at hSw); go_simp; try with_reducible rfl)
 try simp only [Act.put, a7, b7, c7]
 refine w8 10 ((Value.bool true)) (ga7 rfl) (by kernel_rfl) (fun _ _ _ h => h) ⟨by rfl, ?y311⟩ hHeld ?_
 case y311 => (intro wq hSw; (try simp only [Two, Kn, Facts, CellsAt] at hSw); go_simp; (all_goals (first | rfl | (simp; omega) | (simp; done) | omega)))
 try simp only [Act.put, a7, b7, c7]
 refine w8 11 ?_ (ga7 rfl) (by kernel_rfl) (fun _ _ _ h => h) ⟨by rfl, ?y312⟩ hHeld ?_
 case y312 => (intro wq hSw; (try simp only [Two, Kn, Facts, CellsAt] at hSw); go_simp; try with_reducible rfl)
 try simp only [Act.put, a7, b7, c7]
 refine wpAnyH_done (by kernel_rfl) ?fin300 _
 have F := hHeld.1
 simp only [Facts, CellsAt] at F
 have K1 := hide hHeld
 clear hHeld K0
 go_wp2_with fail
 refine (AD.out _ (PH.out.below (by first | exact K1.out.bel | exact K1.out.bel.drew))).mono ?_
 rintro e w5 ⟨rfl, hb5⟩
 have K5 := hide (K1.out.below hb5)
 obtain ⟨z0, z1, z2, z3, z4, z5, z6⟩ := K5.out.2.1.1.three
 have B := hide K5.out.bel
 have bs := B.out.size
 clear K1 hb5 F AD PH
 go_wp2
 refine bodyPost_ret (v := av v rh rl) (by simp [results, Tryz.results20, go_sem, World.cell?_setCell_same', World.cell?_setCell_other, *]) rfl ⟨rfl, by repeat (first | with_reducible exact Below.refl _ _ | with_reducible refine Below.drew ?_ | with_reducible refine Below.alloc ?_ (by first | omega | (simp <;> omega)) _ | with_reducible refine Below.setCell ?_ (by first | omega | (simp <;> omega)) _ | with_reducible refine Below.trans ?_ (Below.mono B.out (by first | omega | (simp <;> omega))))⟩


/-- A list of used ones, as the calls leave it. -/
structure PU (lk : Bool) (N : Nat) (us : List Nat) : Prop where
 nd : us.Nodup
 lt : ∀ i ∈ us, i < N
 fr : ∀ i ∈ us, kpF lk N i = false

/-- A number that may be given. -/
def OkO (lk : Bool) (N : Nat) (o : Option Nat) : Prop := ∀ i, o = some i → i < N ∧ kpF lk N i = false

theorem us_at {lk : Bool} {N i : Nat} {us : List Nat} (h : kpF lk N i = false) : usF lk N us i = decide (i ∈ us) := by
 unfold usF
 rw [h, Bool.false_or]

theorem tkV_is {lk : Bool} {N : Nat} {us : List Nat} {o : Option Nat} (ho : OkO lk N o) : tkV (usF lk N us) o = tkE o us := by
 cases o with
 | none => rfl
 | some i =>
  show (if usF lk N us i = true then (14 : Int) else 0) = if i ∈ us then 14 else 0
  rw [us_at (ho i rfl).2]
  by_cases c : i ∈ us <;> simp [c]

theorem frV_is {lk : Bool} {N : Nat} {us : List Nat} {o : Option Nat} (ho : OkO lk N o) : frV (usF lk N us) o = frE o us := by
 cases o with
 | none => rfl
 | some i =>
  show (if usF lk N us i = true then (0 : Int) else 7) = if i ∈ us then 0 else 7
  rw [us_at (ho i rfl).2]
  by_cases c : i ∈ us <;> simp [c]

theorem us_more {lk : Bool} {N i : Nat} {us us' : List Nat} (h : ∀ p, p ∈ us' ↔ p ∈ us ∨ p = i) : usF lk N us' = upd (usF lk N us) i true := by
 funext p
 unfold usF upd
 by_cases e : p = i
 ·rw [if_pos e, decide_eq_true ((h p).2 (Or.inr e)), Bool.or_true]
 ·rw [if_neg e]
  congr 1
  exact decide_eq_decide.2 ⟨fun c => ((h p).1 c).resolve_right e, fun c => (h p).2 (Or.inl c)⟩

theorem tkF_is {lk : Bool} {N : Nat} {us : List Nat} {o : Option Nat} : tkF (usF lk N us) o = usF lk N (tkU o us) := by
 cases o with
 | none => rfl
 | some i =>
  show upd (usF lk N us) i true = usF lk N (if i ∈ us then us else us ++ [i])
  by_cases c : i ∈ us
  ·rw [if_pos c]
   exact (us_more (fun p => ⟨Or.inl, fun h => h.elim id (fun e => e ▸ c)⟩)).symm
  ·rw [if_neg c]
   exact (us_more (fun p => by simp)).symm

theorem frF_is {lk : Bool} {N : Nat} {us : List Nat} {o : Option Nat} (ho : OkO lk N o) : frF (usF lk N us) o = usF lk N (frU o us) := by
 cases o with
 | none => rfl
 | some i =>
  show upd (usF lk N us) i false = usF lk N (woF i us)
  funext p
  unfold usF upd woF
  by_cases e : p = i
  ·subst e
   rw [if_pos rfl, (ho p rfl).2]
   simp
  ·rw [if_neg e]
   have q : decide (p ∈ us) = decide (p ∈ us.filter fun y => decide (y ≠ i)) := decide_eq_decide.2 ⟨fun c => List.mem_filter.2 ⟨c, decide_eq_true e⟩, fun c => (List.mem_filter.1 c).1⟩
   show (kpF lk N p || decide (p ∈ us)) = _
   rw [q]

theorem PU.nil (lk : Bool) (N : Nat) : PU lk N [] := ⟨List.nodup_nil, fun i h => absurd h List.not_mem_nil, fun i h => absurd h List.not_mem_nil⟩

theorem PU.more {lk : Bool} {N i : Nat} {us : List Nat} (P : PU lk N us) (hi : i < N) (hk : kpF lk N i = false) (c : i ∉ us) : PU lk N (us ++ [i]) := by
 refine ⟨?_, fun p hp => ?_, fun p hp => ?_⟩
 ·rw [List.nodup_append]
  exact ⟨P.nd, by simp, fun a ha b hb => by simp at hb; subst hb; exact fun e => c (e ▸ ha)⟩
 ·rcases List.mem_append.1 hp with h | h
  ·exact P.lt p h
  ·simp at h; subst h; exact hi
 ·rcases List.mem_append.1 hp with h | h
  ·exact P.fr p h
  ·simp at h; subst h; exact hk

theorem PU.take {lk : Bool} {N : Nat} {us : List Nat} {o : Option Nat} (P : PU lk N us) (ho : OkO lk N o) : PU lk N (tkU o us) := by
 cases o with
 | none => exact P
 | some i =>
  show PU lk N (if i ∈ us then us else us ++ [i])
  by_cases c : i ∈ us
  ·rw [if_pos c]; exact P
  ·rw [if_neg c]
   exact P.more (ho i rfl).1 (ho i rfl).2 c

theorem PU.free {lk : Bool} {N : Nat} {us : List Nat} {o : Option Nat} (P : PU lk N us) : PU lk N (frU o us) := by
 cases o with
 | none => exact P
 | some i => exact ⟨P.nd.filter _, fun p hp => P.lt p (List.mem_filter.1 hp).1, fun p hp => P.fr p (List.mem_filter.1 hp).1⟩

theorem kp_cnt {lk : Bool} {N : Nat} (hN : 2 ≤ N) : cnt (kpF lk N) N = 1 + (if lk then 1 else 0) := by
 have e0 : kpF false N = upd (fun _ => false) 0 true := by
  funext p
  unfold kpF upd
  by_cases c : p = 0 <;> simp [c]
 have z : cnt (fun _ : Nat => false) N = 0 := cnt_zero (fun _ _ => rfl)
 have c0 : cnt (kpF false N) N = 1 := by rw [e0, cnt_put6 (by omega) rfl, z]
 cases lk
 ·rw [c0]; rfl
 ·have e1 : kpF true N = upd (kpF false N) (N - 1) true := by
   funext p
   unfold kpF upd
   by_cases c : p = N - 1 <;> simp [c]
  rw [e1, cnt_put6 (by omega) (by unfold kpF; simp; omega), c0]
  rfl

theorem kp_last {lk : Bool} {N : Nat} (hN : 2 ≤ N) : kpF lk N (N - 1) = lk := by
 unfold kpF
 rw [decide_eq_false (by omega : ¬ N - 1 = 0)]
 simp

theorem us_cnt {lk : Bool} {N : Nat} : ∀ {us : List Nat}, PU lk N us → cnt (usF lk N us) N = cnt (kpF lk N) N + us.length
 | [], _ => by
  have e : usF lk N [] = kpF lk N := by funext p; unfold usF; simp
  rw [e]; rfl
 | i :: us, P => by
  have nd := List.nodup_cons.1 P.nd
  have P' : PU lk N us := ⟨nd.2, fun p hp => P.lt p (List.mem_cons_of_mem _ hp), fun p hp => P.fr p (List.mem_cons_of_mem _ hp)⟩
  have ih := us_cnt P'
  rw [us_more (us := us) (i := i) (fun p => by simp [or_comm]), cnt_put6 (P.lt i (by simp)) (by rw [us_at (P.fr i (by simp))]; exact decide_eq_false nd.1), ih, List.length_cons]
  omega

/-- What is left, by both. -/
theorem left_is {lk : Bool} {N : Nat} {us : List Nat} (hN : 2 ≤ N) (P : PU lk N us) : (N : Int) - (cnt (usF lk N us) N : Nat) = (N : Int) - 1 - (us.length : Int) - (if kpF lk N (N - 1) then 1 else 0) := by
 rw [us_cnt P, kp_cnt hN, kp_last hN]
 cases lk
 ·simp; omega
 ·simp; omega


/-- No block of the list is a row of numbers. -/
def NoInt : List (Nat × List Value × TypeId) → Prop
 | [] => True
 | e :: r => 3 ≠ e.2.2 ∧ NoInt r

/-- Both, beside known blocks. -/
structure PPt (w : World) (L : List (Nat × List Value × TypeId)) (v : Bool) (h l b : Int) (x a g r base N : Nat) (f : Nat → Bool) (us : List Nat) (W : World) : Prop where
 kn : Kn w L W
 p : PoAt W v h l b x a g N f
 rr : RpAt W base v h l b r N us
 og : Off g L
 orr : Off r L
 ti : NoInt L
 fr : w.heap.size ≤ g ∧ w.heap.size ≤ base ∧ base ≤ r ∧ base ≤ W.heap.size

theorem RpAt.lt {W : World} {base : Nat} {v : Bool} {h l b : Int} {r N : Nat} {us : List Nat} (P : RpAt W base v h l b r N us) : r < W.heap.size := by
 obtain ⟨sv, h1, _⟩ := P.is
 exact h1.lt

theorem PPt.below {w W W' : World} {L : List (Nat × List Value × TypeId)} {v : Bool} {h l b : Int} {x a g r base N : Nat} {f : Nat → Bool} {us : List Nat} (S : PPt w L v h l b x a g r base N f us W) (q : Below W.heap.size W W') : PPt w L v h l b x a g r base N f us W' :=
 ⟨S.kn.below q, S.p.below q, S.rr.below q, S.og, S.orr, S.ti, S.fr.1, S.fr.2.1, S.fr.2.2.1, Nat.le_trans S.fr.2.2.2 q.size⟩

/-- Behind a call that changes the pool alone. -/
theorem PPt.turnP {w W W' : World} {L : List (Nat × List Value × TypeId)} {v : Bool} {h l b : Int} {x a g r base N : Nat} {f f' : Nat → Bool} {us : List Nat} (S : PPt w L v h l b x a g r base N f us W) (P' : PoAt W' v h l b x a g N f') (q : But [g] W.heap.size W W') : PPt w L v h l b x a g r base N f' us W' := by
 refine ⟨Kn.of (Blks.but q S.og S.kn.2.1) (q.to S.kn.bel S.fr.1 S.kn.bel.size), P', ?_, S.og, S.orr, S.ti, S.fr.1, S.fr.2.1, S.fr.2.2.1, Nat.le_trans S.fr.2.2.2 q.size⟩
 obtain ⟨sv, h1, h2⟩ := S.rr.is
 have nr := (S.p.m.neOf h1 (by decide) (by decide)).2
 obtain ⟨⟨ws, hm, _⟩, _⟩ := S.p.m
 have ng := own_ne h2 hm.row (by decide)
 refine ⟨sv, q.blk h1 h1.lt (by simpa using fun e => nr e.symm), h2.1, ?_⟩
 rcases h2.2 with h3 | ⟨g', cap, cur, h3, h4, h5, h6⟩
 ·exact Or.inl h3
 ·refine Or.inr ⟨g', cap, cur, h3, h4, (q.block g' (Array.getElem?_eq_some_iff.1 h5).1 ?_).trans h5, h6⟩
  have n2 : g' ≠ g := fun e => ng (by rw [h3]; subst e; rfl)
  simpa using n2

theorem Blks.keep {W W' : World} {r : Nat} (KP : ∀ c cs t, Blk W c cs t → 3 ≠ t → c ≠ r → Blk W' c cs t) : ∀ {L : List (Nat × List Value × TypeId)}, Off r L → NoInt L → Blks W L → Blks W' L
 | [], _, _, _ => trivial
 | e :: r, o, t, h => ⟨KP _ _ _ h.1 t.1 o.1, Blks.keep KP o.2 t.2 h.2⟩

/-- Behind a call that changes the reference's alone. -/
theorem PPt.turnR {w W W' : World} {L : List (Nat × List Value × TypeId)} {v : Bool} {h l b : Int} {x a g r base N : Nat} {f : Nat → Bool} {us us' : List Nat} (S : PPt w L v h l b x a g r base N f us W) (R' : RpAt W' base v h l b r N us') (B : Below base W W')
  (KP : ∀ c cs t, Blk W c cs t → 3 ≠ t → c ≠ r → Blk W' c cs t) : PPt w L v h l b x a g r base N f us' W' := by
 obtain ⟨sv, h1, _⟩ := S.rr.is
 have nr := S.p.m.neOf h1 (by decide) (by decide)
 have nx := S.p.hd.ne h1 (by decide)
 refine ⟨Kn.of (Blks.keep KP S.orr S.ti S.kn.2.1) (S.kn.bel.trans (B.mono S.fr.2.1)), ⟨KP _ _ _ S.p.hd (by decide) nx, ?_⟩, R', S.og, S.orr, S.ti, S.fr.1, S.fr.2.1, S.fr.2.2.1, Nat.le_trans S.fr.2.2.2 B.size⟩
 obtain ⟨⟨ws, hm, hb⟩, hbeh⟩ := S.p.m
 exact ⟨⟨ws, ⟨KP _ _ _ hm.head (by decide) nr.1, KP _ _ _ hm.row (by decide) nr.2, hm.len, hm.small, hm.word⟩, hb⟩, hbeh⟩

theorem take_p6 {w W : World} {L : List (Nat × List Value × TypeId)} {v s : Bool} {h l b ah al : Int} {x a g r base n m : Nat} {f f' : Nat → Bool} {us : List Nat} {V : Int} (hp : IsNum h l n) (ha : IsNum ah al m) (h0 : 0 < szP v n b) (hV : tkV f (nmP v n b s m) = V) (hF : tkF f (nmP v n b s m) = f') (S : PPt w L v h l b x a g r base (szP v n b) f us W) :
  Calls Tryz.prog 52 #[.pointer (some ⟨x, 0, none⟩), av s ah al] W fun e W' => e = .returned (.int .i64 V) ∧ PPt w L v h l b x a g r base (szP v n b) f' us W' := by
 subst hV hF
 refine (poTake_c hp ha h0 W S.p).mono ?_
 rintro e W' ⟨rfl, hP, hK⟩
 exact ⟨rfl, S.turnP hP hK⟩

theorem free_p6 {w W : World} {L : List (Nat × List Value × TypeId)} {v s : Bool} {h l b ah al : Int} {x a g r base n m : Nat} {f f' : Nat → Bool} {us : List Nat} {V : Int} (hp : IsNum h l n) (ha : IsNum ah al m) (h0 : 0 < szP v n b) (hV : frV f (nmP v n b s m) = V) (hF : frF f (nmP v n b s m) = f') (S : PPt w L v h l b x a g r base (szP v n b) f us W) :
  Calls Tryz.prog 54 #[.pointer (some ⟨x, 0, none⟩), av s ah al] W fun e W' => e = .returned (.int .i64 V) ∧ PPt w L v h l b x a g r base (szP v n b) f' us W' := by
 subst hV hF
 refine (poFree_c hp ha h0 W S.p).mono ?_
 rintro e W' ⟨rfl, hP, hK⟩
 exact ⟨rfl, S.turnP hP hK⟩

theorem take_r6 {w W : World} {L : List (Nat × List Value × TypeId)} {v s : Bool} {h l b ah al : Int} {x a g r base n m : Nat} {f : Nat → Bool} {us us' : List Nat} {V : Int} (hp : IsNum h l n) (ha : IsNum ah al m) (h0 : 0 < szP v n b) (hus : us.length ≤ 1000) (hV : tkE (nmP v n b s m) us = V) (hF : tkU (nmP v n b s m) us = us') (S : PPt w L v h l b x a g r base (szP v n b) f us W) :
  Calls Tryz.prog 53 #[.pointer (some ⟨r, 0, none⟩), av s ah al] W fun e W' => e = .returned (.int .i64 V) ∧ PPt w L v h l b x a g r base (szP v n b) f us' W' := by
 subst hV hF
 refine (rtake06_c hp ha h0 hus W S.fr.2.2.2 S.fr.2.2.1 S.rr).mono ?_
 rintro e W' ⟨rfl, hR, hB, hK⟩
 exact ⟨rfl, S.turnR hR hB hK⟩

theorem free_r6 {w W : World} {L : List (Nat × List Value × TypeId)} {v s : Bool} {h l b ah al : Int} {x a g r base n m : Nat} {f : Nat → Bool} {us us' : List Nat} {V : Int} (hp : IsNum h l n) (ha : IsNum ah al m) (h0 : 0 < szP v n b) (hus : us.length ≤ 1000) (hV : frE (nmP v n b s m) us = V) (hF : frU (nmP v n b s m) us = us') (S : PPt w L v h l b x a g r base (szP v n b) f us W) :
  Calls Tryz.prog 55 #[.pointer (some ⟨r, 0, none⟩), av s ah al] W fun e W' => e = .returned (.int .i64 V) ∧ PPt w L v h l b x a g r base (szP v n b) f us' W' := by
 subst hV hF
 refine (rfree06_c hp ha h0 hus W S.fr.2.2.2 S.fr.2.2.1 S.rr).mono ?_
 rintro e W' ⟨rfl, hR, hB, hK⟩
 exact ⟨rfl, S.turnR hR hB hK⟩



theorem next_both {f : Nat → Bool} {N s : Nat} (hs : s < N) : (∃ k p, k < N ∧ p = (s + k) % N ∧ p < N ∧ f p = false ∧ nextF f N s = some p ∧ ∀ j, j < k → f ((s + j) % N) = true) ∨ (nextF f N s = none ∧ ∀ j, j < N → f ((s + j) % N) = true) := by
 by_cases c : ∃ i, i < N ∧ f i = false
 ·obtain ⟨i, hi, hf⟩ := c
  exact Or.inl (next_round hs hi hf)
 ·have all : ∀ j, j < N → f ((s + j) % N) = true := fun j hj => by
   cases e : f ((s + j) % N)
   ·exact absurd ⟨_, Nat.mod_lt _ (by omega), e⟩ c
   ·rfl
  exact Or.inr ⟨nextF_full hs all, all⟩

/-- Next of both: one answer, and they go along. -/
theorem next_6 {v : Bool} {h l b o : Int} {n : Nat} {us : List Nat} {w : World} (hp : IsNum h l n) (h0 : 0 < szP v n b) (o0 : -9223372036854775808 ≤ o) (o1 : o ≤ 9223372036854775807) (U : PU (lkP v b) (szP v n b) us) (hus : us.length ≤ 60) (hT : TB w) :
  ∃ (t : Bool) (rh rl c : Int) (us' : List Nat), PU (lkP v b) (szP v n b) us' ∧ us'.length ≤ us.length + 1 ∧
   (∀ L x a g r base W, PPt w L v h l b x a g r base (szP v n b) (usF (lkP v b) (szP v n b) us) us W → Calls Tryz.prog 45 #[.pointer (some ⟨x, 0, none⟩), .int .i64 o] W fun e W' => e = .returned (.tuple #[av t rh rl, .int .i64 c]) ∧ PPt w L v h l b x a g r base (szP v n b) (usF (lkP v b) (szP v n b) us') us W') ∧
   (∀ L x a g r base f W, PPt w L v h l b x a g r base (szP v n b) f us W → Calls Tryz.prog 56 #[.pointer (some ⟨r, 0, none⟩), .int .i64 o] W fun e W' => e = .returned (.tuple #[av t rh rl, .int .i64 c]) ∧ PPt w L v h l b x a g r base (szP v n b) f us' W') := by
 have ok := szP_ok h0
 rcases next_both (f := usF (lkP v b) (szP v n b) us) (s := o.toNat % szP v n b) (Nat.mod_lt _ h0) with ⟨k, p, hk, hpk, hpN, hfp, hnx, hbz⟩ | ⟨hnx, hbz⟩
 ·obtain ⟨rh, rl, hr⟩ := IsNum.ex (n := n + p) (host_lt hp.lt ok hpN).1
  obtain ⟨e1, e2⟩ := free_parts hfp
  have hin : p ∉ us := of_decide_eq_false e2
  have hu : upd (usF (lkP v b) (szP v n b) us) p true = usF (lkP v b) (szP v n b) (us ++ [p]) := (us_more (fun q => by simp)).symm
  refine ⟨v, rh, rl, 0, us ++ [p], U.more hpN e1 hin, by simp, fun L x a g r base W S => ?_, fun L x a g r base f W S => ?_⟩
  ·refine (poNext_ok hp h0 o0 o1 hnx hr W (hT.below S.kn.bel) S.p).mono ?_
   rintro e W' ⟨rfl, hP, hK⟩
   exact ⟨rfl, S.turnP (hu ▸ hP) hK⟩
  ·refine (rnext06_ok (k := k) (p := p) hp h0 o1 o0 rfl hk hpk hbz hfp hr hus W S.fr.2.2.2 S.fr.2.2.1 S.rr).mono ?_
   rintro e W' ⟨rfl, hR, hB, hK⟩
   exact ⟨rfl, S.turnR hR hB hK⟩
 ·refine ⟨false, 0, 0, 9, us, U, by omega, fun L x a g r base W S => ?_, fun L x a g r base f W S => ?_⟩
  ·refine (poNext_full h0 o0 o1 hnx W (hT.below S.kn.bel) S.p).mono ?_
   rintro e W' ⟨rfl, hb⟩
   exact ⟨rfl, S.below hb⟩
  ·refine (rnext06_full hp h0 o1 o0 rfl hbz (by omega) W S.rr).mono ?_
   rintro e W' ⟨rfl, hb⟩
   exact ⟨rfl, S.below hb⟩


theorem PPt.push {w W : World} {L : List (Nat × List Value × TypeId)} {v : Bool} {h l b : Int} {x a g r base N : Nat} {f : Nat → Bool} {us : List Nat} (S : PPt w L v h l b x a g r base N f us W) (cs : List Value) (t : TypeId) (ht : 3 ≠ t) : PPt w ((W.heap.size, cs, t) :: L) v h l b x a g r base N f us (W.alloc (.cells cs.toArray t)) :=
 have bl : Below W.heap.size W (W.alloc (.cells cs.toArray t)) := by repeat (first | with_reducible exact Below.refl _ _ | with_reducible refine Below.drew ?_ | with_reducible refine Below.alloc ?_ (by first | omega | (simp <;> omega)) _ | with_reducible refine Below.setCell ?_ (by first | omega | (simp <;> omega)) _)
 have p := S.p.m.lt
 have r := S.rr.lt
 ⟨S.kn.push rfl, S.p.below bl, S.rr.below bl, ⟨by show W.heap.size ≠ g; omega, S.og⟩, ⟨by show W.heap.size ≠ _; omega, S.orr⟩, ⟨ht, S.ti⟩, S.fr.1, S.fr.2.1, S.fr.2.2.1, Nat.le_trans S.fr.2.2.2 bl.size⟩

theorem PPt.tail {w W : World} {L : List (Nat × List Value × TypeId)} {e : Nat × List Value × TypeId} {v : Bool} {h l b : Int} {x a g r base N : Nat} {f : Nat → Bool} {us : List Nat} (S : PPt w (e :: L) v h l b x a g r base N f us W) : PPt w L v h l b x a g r base N f us W :=
 ⟨S.kn.tail, S.p, S.rr, S.og.2, S.orr.2, S.ti.2, S.fr⟩

/-- Another pool in its place. -/
theorem PPt.other {w W : World} {L : List (Nat × List Value × TypeId)} {v : Bool} {h l b : Int} {x a g x' a' g' r base N : Nat} {f f' : Nat → Bool} {us : List Nat} (S : PPt w L v h l b x a g r base N f us W) (P' : PoAt W v h l b x' a' g' N f') (h1 : Off g' L) (h2 : w.heap.size ≤ g') : PPt w L v h l b x' a' g' r base N f' us W :=
 ⟨S.kn, P', S.rr, h1, S.orr, S.ti, h2, S.fr.2⟩

/-- The law's aim: some address. -/
theorem aim_6 {w W : World} {L : List (Nat × List Value × TypeId)} {v u : Bool} {h l b K qh ql A M : Int} {x a g r base n m : Nat} {f : Nat → Bool} {us : List Nat} (hp : IsNum h l n) (h0 : 0 < szP v n b) (hq : IsNum qh ql m) (S : PPt w L v h l b x a g r base (szP v n b) f us W) :
  ∃ (t : Bool) (rh rl : Int) (m' : Nat), IsNum rh rl m' ∧ ∀ (x a g : Nat) (f : Nat → Bool) (us : List Nat) (L : List (Nat × List Value × TypeId)) (W : World), PPt w L v h l b x a g r base (szP v n b) f us W → Calls Tryz.prog 20 #[.pointer (some ⟨r, 0, none⟩), .agg #[.int .i64 K, .bool u, .int .u64 qh, .int .u64 ql, .int .i64 A, .int .i64 M]] W fun e W' => e = .returned (av t rh rl) ∧ PPt w L v h l b x a g r base (szP v n b) f us W' := by
 have ok := szP_ok h0
 by_cases c1 : A > 0
 ·by_cases c2 : A ≤ ((szP v n b : Nat) : Int)
  ·obtain ⟨i, rfl⟩ : ∃ i : Nat, A = (i : Int) + 1 := ⟨(A - 1).toNat, by omega⟩
   have hi : i < szP v n b := by omega
   obtain ⟨rh, rl, hr⟩ := IsNum.ex (n := n + i) (host_lt hp.lt ok hi).1
   refine ⟨v, rh, rl, _, hr, fun x a g f us L W S => ?_⟩
   refine (aim6_in hi szP_le W S.rr (fun w' P' => raddr06_c hp ok hi hr w' P')).mono ?_
   rintro e W' ⟨rfl, hb⟩
   exact ⟨rfl, S.below hb⟩
  ·refine ⟨u, qh, ql, _, hq, fun x a g f us L W S => ?_⟩
   refine (aim6_out hq c1 c2 W S.rr).mono ?_
   rintro e W' ⟨rfl, hb⟩
   exact ⟨rfl, S.below hb⟩
 ·refine ⟨u, qh, ql, _, hq, fun x a g f us L W S => ?_⟩
  refine (aim6_zero hq c1 W S.rr).mono ?_
  rintro e W' ⟨rfl, hb⟩
  exact ⟨rfl, S.below hb⟩


/-- What does leaves. -/
def DoesRet6 (w : World) (L : List (Nat × List Value × TypeId)) (v : Bool) (h l b : Int) (r base n k : Nat) (e : Ending) (W' : World) : Prop := ∃ (x a g : Nat) (us' : List Nat), e = .returned (.tuple #[.pointer (some ⟨x, 0, none⟩), .bool true]) ∧ PU (lkP v b) (szP v n b) us' ∧ us'.length ≤ k + 1 ∧ PPt w L v h l b x a g r base (szP v n b) (usF (lkP v b) (szP v n b) us') us' W'

theorem ok_nm {v : Bool} {n : Nat} {b : Int} {s : Bool} {m : Nat} : OkO (lkP v b) (szP v n b) (nmP v n b s m) := fun i e => ⟨(nmP_some e).2.2.1, (nmP_some e).2.2.2⟩

theorem tkU_len {o : Option Nat} {us : List Nat} : (tkU o us).length ≤ us.length + 1 := by
 cases o with
 | none => show us.length ≤ _; omega
 | some i =>
  show (if i ∈ us then us else us ++ [i]).length ≤ _
  split
  ·omega
  ·simp

theorem frU_len {o : Option Nat} {us : List Nat} : (frU o us).length ≤ us.length + 1 := by
 cases o with
 | none => show us.length ≤ _; omega
 | some i =>
  have := List.length_filter_le (fun y => decide (y ≠ i)) us
  show (us.filter _).length ≤ _
  omega

set_option maxRecDepth 100000 in
set_option maxHeartbeats 3200000 in
theorem does6_take {w W : World} {L : List (Nat × List Value × TypeId)} {v u : Bool} {h l b qh ql A M : Int} {x a g r base n m : Nat} {us : List Nat} (hp : IsNum h l n) (h0 : 0 < szP v n b) (hq : IsNum qh ql m) (U : PU (lkP v b) (szP v n b) us) (hus : us.length ≤ 1000) (S : PPt w L v h l b x a g r base (szP v n b) (usF (lkP v b) (szP v n b) us) us W) :
  Calls Tryz.prog 19 #[.pointer (some ⟨x, 0, none⟩), .pointer (some ⟨r, 0, none⟩), .agg #[.int .i64 1, .bool u, .int .u64 qh, .int .u64 ql, .int .i64 A, .int .i64 M]] W fun e W' => DoesRet6 w L v h l b r base n us.length e W' := by
 obtain ⟨u1, qh1, ql1, m1, hm, AI0⟩ := aim_6 (K := 1) (A := A) (M := M) (u := u) hp h0 hq S
 have AI := hide AI0
 have S0 := hide (S.push [.int .i64 1, .bool u, .int .u64 qh, .int .u64 ql, .int .i64 A, .int .i64 M] 49 (by decide))
 have F := S0.out.kn.1
 simp only [Facts, CellsAt] at F
 obtain ⟨us', hus'⟩ : ∃ us', tkU (nmP v n b u1 m1) us = us' := ⟨_, rfl⟩
 obtain ⟨E, hE⟩ : ∃ E, tkE (nmP v n b u1 m1) us = E := ⟨_, rfl⟩
 have PU' := hide (U.take (ok_nm (s := u1) (m := m1)))
 have LE := hide (tkU_len (o := nmP v n b u1 m1) (us := us))
 have hV : tkV (usF (lkP v b) (szP v n b) us) (nmP v n b u1 m1) = E := (tkV_is ok_nm).trans hE
 have hF : tkF (usF (lkP v b) (szP v n b) us) (nmP v n b u1 m1) = usF (lkP v b) (szP v n b) us' := (tkF_is).trans (by rw [hus'])
 have OC1 := hide (fun W L us2 (S' : PPt w L v h l b x a g r base (szP v n b) (usF (lkP v b) (szP v n b) us) us2 W) => take_p6 hp hm h0 hV hF S')
 have RS1 := hide (fun W L f (S' : PPt w L v h l b x a g r base (szP v n b) f us W) => take_r6 hp hm h0 hus hE hus' S')
 have PU2 : Hid (PU (lkP v b) (szP v n b) us') := hus' ▸ PU'.out
 have LE2 : Hid (us'.length ≤ us.length + 1) := hus' ▸ LE.out
 clear AI0 hm hV hF hus' hE PU' LE hp h0 hq U hus S
 go_enter Tryz.func19, Tryz.ntmps19
 go_wp2_with fail
 refine (AI.out x a g _ _ _ _ S0.out).mono ?_
 rintro e w1 ⟨rfl, hS1⟩
 have S1 := hide (hS1.push [.bool u1, .int .u64 qh1, .int .u64 ql1] 26 (by decide))
 have F1 := S1.out.kn.1
 simp only [Facts, CellsAt] at F1
 obtain ⟨wa, hwa⟩ : ∃ wa, wa = w1.alloc (.cells #[.bool u1, .int .u64 qh1, .int .u64 ql1] 26) := ⟨_, rfl⟩
 have S1a := S1
 rw [show w1.alloc (.cells [Value.bool u1, .int .u64 qh1, .int .u64 ql1].toArray 26) = wa from hwa.symm] at S1a
 have K1 := S1a.out.kn
 have SD := hide (S1a.out.below (Below.drew (Below.refl wa.heap.size wa)))
 clear AI hS1 S0 F
 go_upto_region 4 with fail
 rw [← hwa]
 clear hwa S1
 refine wp_region_held_drew (S := (Kn w ((w1.heap.size, [.bool u1, .int .u64 qh1, .int .u64 ql1], 26) :: (W.heap.size, [.int .i64 1, .bool u, .int .u64 qh, .int .u64 ql, .int .i64 A, .int .i64 M], 49) :: L))) (by kernel_rfl) ?hS5001 (fun hHeld => ?rest5001)
 case hS5001 => (first | with_reducible exact K1.drew | exact hSB.kn | exact hSA.kn)
 refine w8 0 ?_ (ga7 rfl) (by kernel_rfl) (fun _ _ _ h => h) ⟨by rfl, ?y5002⟩ hHeld ?_
 case y5002 => (intro wq hSw; (try simp only [Two, Kn, Facts, CellsAt] at hSw); go_simp; try with_reducible rfl)
 try simp only [Act.put, a7, b7, c7]
 refine w8 1 ?_ (ga7 rfl) (by kernel_rfl) (fun _ _ _ h => h) ⟨by rfl, ?y5003⟩ hHeld ?_
 case y5003 => (intro wq hSw; (try simp only [Two, Kn, Facts, CellsAt] at hSw); go_simp; try with_reducible rfl)
 try simp only [Act.put, a7, b7, c7]
 refine w8 2 ?_ (ga7 rfl) (by kernel_rfl) (fun _ _ _ h => h) ⟨by rfl, ?y5004⟩ hHeld ?_
 case y5004 => (intro wq hSw; (try simp only [Two, Kn, Facts, CellsAt] at hSw); go_simp; try with_reducible rfl)
 try simp only [Act.put, a7, b7, c7]
 refine w8 4 ?_ (ga7 rfl) (by kernel_rfl) (fun _ _ _ h => h) ⟨by rfl, ?y5005⟩ hHeld ?_
 case y5005 => (intro wq hSw; (try simp only [Two, Kn, Facts, CellsAt] at hSw); go_simp; try with_reducible rfl)
 try simp only [Act.put, a7, b7, c7]
 refine w8 5 ?_ (ga7 rfl) (by kernel_rfl) (fun _ _ _ h => h) ⟨by rfl, ?y5006⟩ hHeld ?_
 case y5006 => (intro wq hSw; (try simp only [Two, Kn, Facts, CellsAt] at hSw); go_simp; try with_reducible rfl)
 try simp only [Act.put, a7, b7, c7]
 refine wpAnyH_ready (rs := [3]) (by kernel_rfl) (by simp) ?rdy5007
 refine (AllReadyH.cons (ga7 rfl) (fun K hK => ?stp5007_3) AllReadyH.nil)
 case stp5007_3 =>
  go_simp
  go_wp2_with fail
  (first | (refine (OC1.out _ _ _ S6.out).mono ?_; rintro e w5 ⟨rfl, hSB⟩; have SF := hide hSB) | (refine (OC1.out _ _ _ SD.out).mono ?_; rintro e w3 ⟨rfl, hSA⟩; have S3 := hide hSA))
  go_wp2_with fail
  refine hK.out _ _ ?hSn5008 (fun hHeld2 => ?rest5008)
  case hSn5008 => (first | with_reducible exact K1.drew | exact hSB.kn | exact hSA.kn)
  clear hK K hHeld
  have hHeld := hHeld2
  clear hHeld2
  try simp only [Act.put, a7, b7, c7]
  refine wpAnyH_ready (rs := [6]) (by kernel_rfl) (by simp) ?rdy5009
  refine (AllReadyH.cons (ga7 rfl) (fun K hK => ?stp5009_6) AllReadyH.nil)
  case stp5009_6 =>
   go_simp
   go_wp2_with fail
   (first | (refine (RS1.out _ _ _ S3.out).mono ?_; rintro e w5 ⟨rfl, hSB⟩; have SF := hide hSB) | (refine (RS1.out _ _ _ SD.out).mono ?_; rintro e w3 ⟨rfl, hSA⟩; have S6 := hide hSA))
   go_wp2_with fail
   refine hK.out _ _ ?hSn5010 (fun hHeld2 => ?rest5010)
   case hSn5010 => (first | with_reducible exact K1.drew | exact hSB.kn | exact hSA.kn)
   clear hK K hHeld
   have hHeld := hHeld2
   clear hHeld2
   try simp only [Act.put, a7, b7, c7]
   refine w8 7 ?_ (ga7 rfl) (by kernel_rfl) (fun _ _ _ h => h) ⟨by rfl, ?y5011⟩ hHeld ?_
   case y5011 => (intro wq hSw; (try simp only [Two, Kn, Facts, CellsAt] at hSw); go_simp; try with_reducible rfl)
   try simp only [Act.put, a7, b7, c7]
   refine w8 8 ?_ (ga7 rfl) (by kernel_rfl) (fun _ _ _ h => h) ⟨by rfl, ?y5012⟩ hHeld ?_
   case y5012 => (intro wq hSw; (try simp only [Two, Kn, Facts, CellsAt] at hSw); go_simp; try with_reducible rfl)
   try simp only [Act.put, a7, b7, c7]
   refine w8 9 ?_ (ga7 rfl) (by kernel_rfl) (fun _ _ _ h => h) ⟨by rfl, ?y5013⟩ hHeld ?_
   case y5013 => (intro wq hSw; (try simp only [Two, Kn, Facts, CellsAt] at hSw); go_simp; try with_reducible rfl)
   try simp only [Act.put, a7, b7, c7]
   refine wpAnyH_done (by kernel_rfl) ?_ _
   go_wp2
   go_ret2
   exact ⟨x, a, g, us', by first | rfl | simp, PU2.out, LE2.out, SF.out.tail.tail⟩

set_option maxRecDepth 100000 in
set_option maxHeartbeats 3200000 in
theorem does6_free {w W : World} {L : List (Nat × List Value × TypeId)} {v u : Bool} {h l b qh ql A M : Int} {x a g r base n m : Nat} {us : List Nat} (hp : IsNum h l n) (h0 : 0 < szP v n b) (hq : IsNum qh ql m) (U : PU (lkP v b) (szP v n b) us) (hus : us.length ≤ 1000) (S : PPt w L v h l b x a g r base (szP v n b) (usF (lkP v b) (szP v n b) us) us W) :
  Calls Tryz.prog 19 #[.pointer (some ⟨x, 0, none⟩), .pointer (some ⟨r, 0, none⟩), .agg #[.int .i64 2, .bool u, .int .u64 qh, .int .u64 ql, .int .i64 A, .int .i64 M]] W fun e W' => DoesRet6 w L v h l b r base n us.length e W' := by
 obtain ⟨u1, qh1, ql1, m1, hm, AI0⟩ := aim_6 (K := 2) (A := A) (M := M) (u := u) hp h0 hq S
 have AI := hide AI0
 have S0 := hide (S.push [.int .i64 2, .bool u, .int .u64 qh, .int .u64 ql, .int .i64 A, .int .i64 M] 49 (by decide))
 have F := S0.out.kn.1
 simp only [Facts, CellsAt] at F
 obtain ⟨us', hus'⟩ : ∃ us', frU (nmP v n b u1 m1) us = us' := ⟨_, rfl⟩
 obtain ⟨E, hE⟩ : ∃ E, frE (nmP v n b u1 m1) us = E := ⟨_, rfl⟩
 have PU' := hide (U.free (o := nmP v n b u1 m1))
 have LE := hide (frU_len (o := nmP v n b u1 m1) (us := us))
 have hV : frV (usF (lkP v b) (szP v n b) us) (nmP v n b u1 m1) = E := (frV_is ok_nm).trans hE
 have hF : frF (usF (lkP v b) (szP v n b) us) (nmP v n b u1 m1) = usF (lkP v b) (szP v n b) us' := (frF_is ok_nm).trans (by rw [hus'])
 have OC1 := hide (fun W L us2 (S' : PPt w L v h l b x a g r base (szP v n b) (usF (lkP v b) (szP v n b) us) us2 W) => free_p6 hp hm h0 hV hF S')
 have RS1 := hide (fun W L f (S' : PPt w L v h l b x a g r base (szP v n b) f us W) => free_r6 hp hm h0 hus hE hus' S')
 have PU2 : Hid (PU (lkP v b) (szP v n b) us') := hus' ▸ PU'.out
 have LE2 : Hid (us'.length ≤ us.length + 1) := hus' ▸ LE.out
 clear AI0 hm hV hF hus' hE PU' LE hp h0 hq U hus S
 go_enter Tryz.func19, Tryz.ntmps19
 go_wp2_with fail
 refine (AI.out x a g _ _ _ _ S0.out).mono ?_
 rintro e w1 ⟨rfl, hS1⟩
 have S1 := hide (hS1.push [.bool u1, .int .u64 qh1, .int .u64 ql1] 26 (by decide))
 have F1 := S1.out.kn.1
 simp only [Facts, CellsAt] at F1
 obtain ⟨wa, hwa⟩ : ∃ wa, wa = w1.alloc (.cells #[.bool u1, .int .u64 qh1, .int .u64 ql1] 26) := ⟨_, rfl⟩
 have S1a := S1
 rw [show w1.alloc (.cells [Value.bool u1, .int .u64 qh1, .int .u64 ql1].toArray 26) = wa from hwa.symm] at S1a
 have K1 := S1a.out.kn
 have SD := hide (S1a.out.below (Below.drew (Below.refl wa.heap.size wa)))
 clear AI hS1 S0 F
 go_upto_region 6 with fail
 rw [← hwa]
 clear hwa S1
 refine wp_region_held_drew (S := (Kn w ((w1.heap.size, [.bool u1, .int .u64 qh1, .int .u64 ql1], 26) :: (W.heap.size, [.int .i64 2, .bool u, .int .u64 qh, .int .u64 ql, .int .i64 A, .int .i64 M], 49) :: L))) (by kernel_rfl) ?hS5014 (fun hHeld => ?rest5014)
 case hS5014 => (first | with_reducible exact K1.drew | exact hSB.kn | exact hSA.kn)
 refine w8 0 ?_ (ga7 rfl) (by kernel_rfl) (fun _ _ _ h => h) ⟨by rfl, ?y5015⟩ hHeld ?_
 case y5015 => (intro wq hSw; (try simp only [Two, Kn, Facts, CellsAt] at hSw); go_simp; try with_reducible rfl)
 try simp only [Act.put, a7, b7, c7]
 refine w8 1 ?_ (ga7 rfl) (by kernel_rfl) (fun _ _ _ h => h) ⟨by rfl, ?y5016⟩ hHeld ?_
 case y5016 => (intro wq hSw; (try simp only [Two, Kn, Facts, CellsAt] at hSw); go_simp; try with_reducible rfl)
 try simp only [Act.put, a7, b7, c7]
 refine w8 2 ?_ (ga7 rfl) (by kernel_rfl) (fun _ _ _ h => h) ⟨by rfl, ?y5017⟩ hHeld ?_
 case y5017 => (intro wq hSw; (try simp only [Two, Kn, Facts, CellsAt] at hSw); go_simp; try with_reducible rfl)
 try simp only [Act.put, a7, b7, c7]
 refine w8 4 ?_ (ga7 rfl) (by kernel_rfl) (fun _ _ _ h => h) ⟨by rfl, ?y5018⟩ hHeld ?_
 case y5018 => (intro wq hSw; (try simp only [Two, Kn, Facts, CellsAt] at hSw); go_simp; try with_reducible rfl)
 try simp only [Act.put, a7, b7, c7]
 refine w8 5 ?_ (ga7 rfl) (by kernel_rfl) (fun _ _ _ h => h) ⟨by rfl, ?y5019⟩ hHeld ?_
 case y5019 => (intro wq hSw; (try simp only [Two, Kn, Facts, CellsAt] at hSw); go_simp; try with_reducible rfl)
 try simp only [Act.put, a7, b7, c7]
 refine wpAnyH_ready (rs := [3]) (by kernel_rfl) (by simp) ?rdy5020
 refine (AllReadyH.cons (ga7 rfl) (fun K hK => ?stp5020_3) AllReadyH.nil)
 case stp5020_3 =>
  go_simp
  go_wp2_with fail
  (first | (refine (OC1.out _ _ _ S6.out).mono ?_; rintro e w5 ⟨rfl, hSB⟩; have SF := hide hSB) | (refine (OC1.out _ _ _ SD.out).mono ?_; rintro e w3 ⟨rfl, hSA⟩; have S3 := hide hSA))
  go_wp2_with fail
  refine hK.out _ _ ?hSn5021 (fun hHeld2 => ?rest5021)
  case hSn5021 => (first | with_reducible exact K1.drew | exact hSB.kn | exact hSA.kn)
  clear hK K hHeld
  have hHeld := hHeld2
  clear hHeld2
  try simp only [Act.put, a7, b7, c7]
  refine wpAnyH_ready (rs := [6]) (by kernel_rfl) (by simp) ?rdy5022
  refine (AllReadyH.cons (ga7 rfl) (fun K hK => ?stp5022_6) AllReadyH.nil)
  case stp5022_6 =>
   go_simp
   go_wp2_with fail
   (first | (refine (RS1.out _ _ _ S3.out).mono ?_; rintro e w5 ⟨rfl, hSB⟩; have SF := hide hSB) | (refine (RS1.out _ _ _ SD.out).mono ?_; rintro e w3 ⟨rfl, hSA⟩; have S6 := hide hSA))
   go_wp2_with fail
   refine hK.out _ _ ?hSn5023 (fun hHeld2 => ?rest5023)
   case hSn5023 => (first | with_reducible exact K1.drew | exact hSB.kn | exact hSA.kn)
   clear hK K hHeld
   have hHeld := hHeld2
   clear hHeld2
   try simp only [Act.put, a7, b7, c7]
   refine w8 7 ?_ (ga7 rfl) (by kernel_rfl) (fun _ _ _ h => h) ⟨by rfl, ?y5024⟩ hHeld ?_
   case y5024 => (intro wq hSw; (try simp only [Two, Kn, Facts, CellsAt] at hSw); go_simp; try with_reducible rfl)
   try simp only [Act.put, a7, b7, c7]
   refine w8 8 ?_ (ga7 rfl) (by kernel_rfl) (fun _ _ _ h => h) ⟨by rfl, ?y5025⟩ hHeld ?_
   case y5025 => (intro wq hSw; (try simp only [Two, Kn, Facts, CellsAt] at hSw); go_simp; try with_reducible rfl)
   try simp only [Act.put, a7, b7, c7]
   refine w8 9 ?_ (ga7 rfl) (by kernel_rfl) (fun _ _ _ h => h) ⟨by rfl, ?y5026⟩ hHeld ?_
   case y5026 => (intro wq hSw; (try simp only [Two, Kn, Facts, CellsAt] at hSw); go_simp; try with_reducible rfl)
   try simp only [Act.put, a7, b7, c7]
   refine wpAnyH_done (by kernel_rfl) ?_ _
   go_wp2
   go_ret2
   exact ⟨x, a, g, us', by first | rfl | simp, PU2.out, LE2.out, SF.out.tail.tail⟩



set_option maxRecDepth 100000 in
set_option maxHeartbeats 3200000 in
theorem does6_none {w W : World} {L : List (Nat × List Value × TypeId)} {v u : Bool} {h l b K qh ql A M : Int} {x a g r base n m : Nat} {us : List Nat} (k1 : ¬ K = 1) (k2 : ¬ K = 2) (k3 : ¬ K = 3) (k4 : ¬ K = 4) (hp : IsNum h l n) (h0 : 0 < szP v n b) (hq : IsNum qh ql m) (U : PU (lkP v b) (szP v n b) us) (S : PPt w L v h l b x a g r base (szP v n b) (usF (lkP v b) (szP v n b) us) us W) :
  Calls Tryz.prog 19 #[.pointer (some ⟨x, 0, none⟩), .pointer (some ⟨r, 0, none⟩), .agg #[.int .i64 K, .bool u, .int .u64 qh, .int .u64 ql, .int .i64 A, .int .i64 M]] W fun e W' => DoesRet6 w L v h l b r base n us.length e W' := by
 obtain ⟨u1, qh1, ql1, m1, hm, AI0⟩ := aim_6 (K := K) (A := A) (M := M) (u := u) hp h0 hq S
 have AI := hide AI0
 have S0 := hide (S.push [.int .i64 K, .bool u, .int .u64 qh, .int .u64 ql, .int .i64 A, .int .i64 M] 49 (by decide))
 have F := S0.out.kn.1
 simp only [Facts, CellsAt] at F
 have PU2 := hide U
 clear AI0 hm hp h0 hq U S
 go_enter Tryz.func19, Tryz.ntmps19
 go_wp2_with fail
 refine (AI.out x a g _ _ _ _ S0.out).mono ?_
 rintro e w1 ⟨rfl, hS1⟩
 have S1 := hide (hS1.push [.bool u1, .int .u64 qh1, .int .u64 ql1] 26 (by decide))
 have F1 := S1.out.kn.1
 simp only [Facts, CellsAt] at F1
 clear AI hS1 S0 F
 go_wp2
 go_ret2
 exact ⟨x, a, g, us, by first | rfl | simp, PU2.out, Nat.le_succ _, S1.out.tail.tail⟩

set_option maxRecDepth 100000 in
set_option maxHeartbeats 3200000 in
theorem does6_next {w W : World} {L : List (Nat × List Value × TypeId)} {v u : Bool} {h l b qh ql A M : Int} {x a g r base n m : Nat} {us : List Nat} (hM0 : -9223372036854775808 ≤ M) (hM1 : M ≤ 9223372036854775807) (hp : IsNum h l n) (h0 : 0 < szP v n b) (hT : TB w) (hq : IsNum qh ql m) (U : PU (lkP v b) (szP v n b) us) (hus : us.length ≤ 60) (S : PPt w L v h l b x a g r base (szP v n b) (usF (lkP v b) (szP v n b) us) us W) :
  Calls Tryz.prog 19 #[.pointer (some ⟨x, 0, none⟩), .pointer (some ⟨r, 0, none⟩), .agg #[.int .i64 3, .bool u, .int .u64 qh, .int .u64 ql, .int .i64 A, .int .i64 M]] W fun e W' => DoesRet6 w L v h l b r base n us.length e W' := by
 obtain ⟨u1, qh1, ql1, m1, hm, AI0⟩ := aim_6 (K := 3) (A := A) (M := M) (u := u) hp h0 hq S
 have AI := hide AI0
 obtain ⟨xv, xh, xl, xe, us', U', hl', NX0, RX0⟩ := next_6 (w := w) hp h0 hM0 hM1 U hus hT
 have NX := hide NX0
 have RX := hide RX0
 have S0 := hide (S.push [.int .i64 3, .bool u, .int .u64 qh, .int .u64 ql, .int .i64 A, .int .i64 M] 49 (by decide))
 have F := S0.out.kn.1
 simp only [Facts, CellsAt] at F
 have PU2 := hide U'
 have LE2 := hide hl'
 clear AI0 NX0 RX0 hm hp h0 hq U S hT hM0 hM1 U' hl' hus
 go_enter Tryz.func19, Tryz.ntmps19
 go_wp2_with fail
 refine (AI.out x a g _ _ _ _ S0.out).mono ?_
 rintro e w1 ⟨rfl, hS1⟩
 have S1 := hide (hS1.push [.bool u1, .int .u64 qh1, .int .u64 ql1] 26 (by decide))
 have F1 := S1.out.kn.1
 simp only [Facts, CellsAt] at F1
 clear AI hS1 S0 F
 go_wp2_with fail
 refine (NX.out _ _ _ _ _ _ _ S1.out).mono ?_
 rintro e w2 ⟨rfl, hS⟩
 have S2 := hide (hS.push [.bool xv, .int .u64 xh, .int .u64 xl] 26 (by decide))
 have F2 := S2.out.kn.1
 simp only [Facts, CellsAt] at F2
 clear NX hS S1 F1
 go_wp2_with fail
 refine (RX.out _ _ _ _ _ _ _ _ S2.out).mono ?_
 rintro e w3 ⟨rfl, hS⟩
 have S3 := hide (hS.push [.bool xv, .int .u64 xh, .int .u64 xl] 26 (by decide))
 have F3 := S3.out.kn.1
 simp only [Facts, CellsAt] at F3
 clear RX hS S2 F2
 go_wp2
 go_ret2
 exact ⟨x, a, g, us', by first | rfl | simp, PU2.out, LE2.out, S3.out.tail.tail.tail.tail⟩


theorem off_of {g : Nat} : ∀ {L : List (Nat × List Value × TypeId)}, (∀ e ∈ L, e.1 < g) → Off g L
 | [], _ => trivial
 | e :: r, h => ⟨Nat.ne_of_lt (h e (by simp)), off_of (fun e he => h e (by simp [he]))⟩

theorem lts_mem6 : ∀ {L : List (Nat × List Value × TypeId)} {D : Nat}, Lts D L → ∀ e ∈ L, e.1 < D
 | [], _, _, e, he => by cases he
 | a :: r, D, h, e, he => by
  rcases List.mem_cons.1 he with rfl | he
  ·exact h.1
  ·exact lts_mem6 h.2 e he

/-- A pool's copy. -/
theorem copy_p6 {w W : World} {L : List (Nat × List Value × TypeId)} {v : Bool} {h l b : Int} {x a g r base N : Nat} {f : Nat → Bool} {us : List Nat} (S : PPt w L v h l b x a g r base N f us W) :
  Calls Tryz.prog 57 #[.pointer (some ⟨x, 0, none⟩)] W fun e W' => ∃ x' a' g', e = .returned (.pointer (some ⟨x', 0, none⟩)) ∧ PPt w L v h l b x a g r base N f us W' ∧ PoAt W' v h l b x' a' g' N f ∧ (g ≠ x' ∧ g ≠ g' ∧ g < W.heap.size) ∧ (∀ e ∈ L, e.1 < g') ∧ w.heap.size ≤ g' := by
 refine (poCopy_c W S.p).mono ?_
 rintro e W' ⟨x', a', g', rfl, hP, hb, hx, hg⟩
 have lt := lts_mem6 S.kn.lts
 have sz := S.kn.bel.size
 have gl := S.p.m.lt.2.1
 exact ⟨x', a', g', rfl, S.below hb, hP, ⟨by omega, by omega, gl⟩, fun e he => by have := lt e he; omega, by omega⟩

/-- Next of the pool alone. -/
theorem next_b6 {v : Bool} {h l b o : Int} {n : Nat} {f : Nat → Bool} (hp : IsNum h l n) (h0 : 0 < szP v n b) (o0 : -9223372036854775808 ≤ o) (o1 : o ≤ 9223372036854775807) :
  ∃ (t : Bool) (rh rl c : Int) (f' : Nat → Bool), ∀ x a g W, TB W → PoAt W v h l b x a g (szP v n b) f → Calls Tryz.prog 45 #[.pointer (some ⟨x, 0, none⟩), .int .i64 o] W fun e W' => e = .returned (.tuple #[av t rh rl, .int .i64 c]) ∧ PoAt W' v h l b x a g (szP v n b) f' ∧ But [g] W.heap.size W W' := by
 have ok := szP_ok h0
 rcases next_both (f := f) (s := o.toNat % szP v n b) (Nat.mod_lt _ h0) with ⟨k, p, hk, hpk, hpN, hfp, hnx, hbz⟩ | ⟨hnx, hbz⟩
 ·obtain ⟨rh, rl, hr⟩ := IsNum.ex (n := n + p) (host_lt hp.lt ok hpN).1
  exact ⟨v, rh, rl, 0, upd f p true, fun x a g W hT P => poNext_ok hp h0 o0 o1 hnx hr W hT P⟩
 ·refine ⟨false, 0, 0, 9, f, fun x a g W hT P => ?_⟩
  refine (poNext_full h0 o0 o1 hnx W hT P).mono ?_
  rintro e W' ⟨rfl, hb⟩
  exact ⟨rfl, P.below hb, But.of hb (Nat.le_refl _)⟩

set_option maxRecDepth 100000 in
set_option maxHeartbeats 3200000 in
theorem does6_copy {w W : World} {L : List (Nat × List Value × TypeId)} {v u : Bool} {h l b qh ql A M : Int} {x a g r base n m : Nat} {us : List Nat} (hp : IsNum h l n) (h0 : 0 < szP v n b) (hT : TB w) (hq : IsNum qh ql m) (U : PU (lkP v b) (szP v n b) us) (S : PPt w L v h l b x a g r base (szP v n b) (usF (lkP v b) (szP v n b) us) us W) :
  Calls Tryz.prog 19 #[.pointer (some ⟨x, 0, none⟩), .pointer (some ⟨r, 0, none⟩), .agg #[.int .i64 4, .bool u, .int .u64 qh, .int .u64 ql, .int .i64 A, .int .i64 M]] W fun e W' => DoesRet6 w L v h l b r base n us.length e W' := by
 obtain ⟨u1, qh1, ql1, m1, hm, AI0⟩ := aim_6 (K := 4) (A := A) (M := M) (u := u) hp h0 hq S
 have AI := hide AI0
 obtain ⟨xv, xh, xl, xe, f', NX0⟩ := next_b6 (v := v) (b := b) (o := 0) (f := usF (lkP v b) (szP v n b) us) hp h0 (by decide) (by decide)
 have NX := hide NX0
 have CP := hide (fun W L (S' : PPt w L v h l b x a g r base (szP v n b) (usF (lkP v b) (szP v n b) us) us W) => copy_p6 S')
 have S0 := hide (S.push [.int .i64 4, .bool u, .int .u64 qh, .int .u64 ql, .int .i64 A, .int .i64 M] 49 (by decide))
 have F := S0.out.kn.1
 simp only [Facts, CellsAt] at F
 have PU2 := hide U
 have TH := hide (fun W (hb : Below w.heap.size w W) => hT.below hb)
 clear AI0 NX0 hm hp h0 hq U S hT
 go_enter Tryz.func19, Tryz.ntmps19
 go_wp2_with fail
 refine (AI.out x a g _ _ _ _ S0.out).mono ?_
 rintro e w1 ⟨rfl, hS1⟩
 have S1 := hide (hS1.push [.bool u1, .int .u64 qh1, .int .u64 ql1] 26 (by decide))
 have F1 := S1.out.kn.1
 simp only [Facts, CellsAt] at F1
 clear AI hS1 S0 F
 go_wp2_with fail
 refine (CP.out _ _ S1.out).mono ?_
 rintro e w2 ⟨x', a', g', rfl, hS, hP, ⟨n1, n2, gl⟩, hL, hw⟩
 have na := (hP.m.lt)
 have S2 := hide hS
 have P2 := hide hP
 have OF := hide (off_of (g := g') (fun e he => hL e (by simp [he])) : Off g' L)
 have HW := hide hw
 have AP : Hid (x' ∉ [g] ∧ a' ∉ [g] ∧ g' ∉ [g]) := by
  have q0 : a' ≠ g := by
   obtain ⟨⟨ws, hm, _⟩, _⟩ := hP.m
   obtain ⟨⟨us, hu, _⟩, _⟩ := hS.p.m
   exact hm.head.ne hu.row (by decide)
  show _ ∧ _ ∧ _
  simp only [List.mem_cons, List.not_mem_nil, or_false]
  exact ⟨fun e => n1 e.symm, q0, fun e => n2 e.symm⟩
 have F2 := S2.out.kn.1
 simp only [Facts, CellsAt] at F2
 have NX2 := hide (NX.out x a g _ (TH.out _ S2.out.kn.bel) S2.out.p)
 clear CP hS hP n1 n2 gl hL hw na S1 F1 NX TH
 go_wp2_with fail
 refine NX2.out.mono ?_
 rintro e w3 ⟨rfl, hP3, hK3⟩
 have S3 := hide (S2.out.turnP hP3 hK3)
 have P3 := hide (PoAt.mk (hK3.blk P2.out.hd P2.out.hd.lt AP.out.1) (P2.out.m.but hK3 P2.out.m.lt.1 P2.out.m.lt.2.1 AP.out.2.1 AP.out.2.2))
 clear NX2 hP3 hK3 S2 P2 F2 AP
 have S4 := hide (S3.out.push [.bool xv, .int .u64 xh, .int .u64 xl] 26 (by decide))
 go_wp2
 go_ret2
 exact ⟨x', a', g', us, by first | rfl | simp, PU2.out, Nat.le_succ _, by first | exact S3.out.tail.tail.other P3.out OF.out HW.out | exact (S3.out.tail.tail.other P3.out OF.out HW.out).below (by repeat (first | with_reducible exact Below.refl _ _ | with_reducible refine Below.drew ?_ | with_reducible refine Below.alloc ?_ (by first | omega | (simp <;> omega)) _ | with_reducible refine Below.setCell ?_ (by first | omega | (simp <;> omega)) _))⟩

theorem does6_c {w W : World} {L : List (Nat × List Value × TypeId)} {v u : Bool} {h l b K qh ql A M : Int} {x a g r base n m : Nat} {us : List Nat} (hM0 : -9223372036854775808 ≤ M) (hM1 : M ≤ 9223372036854775807) (hp : IsNum h l n) (h0 : 0 < szP v n b) (hT : TB w) (hq : IsNum qh ql m) (U : PU (lkP v b) (szP v n b) us) (hus : us.length ≤ 60) (S : PPt w L v h l b x a g r base (szP v n b) (usF (lkP v b) (szP v n b) us) us W) :
  Calls Tryz.prog 19 #[.pointer (some ⟨x, 0, none⟩), .pointer (some ⟨r, 0, none⟩), .agg #[.int .i64 K, .bool u, .int .u64 qh, .int .u64 ql, .int .i64 A, .int .i64 M]] W fun e W' => DoesRet6 w L v h l b r base n us.length e W' := by
 by_cases k1 : K = 1
 ·subst k1; exact does6_take hp h0 hq U (by omega) S
 ·by_cases k2 : K = 2
  ·subst k2; exact does6_free hp h0 hq U (by omega) S
  ·by_cases k3 : K = 3
   ·subst k3; exact does6_next hM0 hM1 hp h0 hT hq U hus S
   ·by_cases k4 : K = 4
    ·subst k4; exact does6_copy hp h0 hT hq U S
    ·exact does6_none k1 k2 k3 k4 hp h0 hq U S


/-- Which are used, in order. -/
def upL (f : Nat → Bool) : Nat → List Nat
 | 0 => []
 | j + 1 => if f j then upL f j ++ [j] else upL f j

theorem upL_len (f : Nat → Bool) : ∀ N, (upL f N).length = cnt f N
 | 0 => rfl
 | j + 1 => by
  have ih := upL_len f j
  unfold upL
  cases h : f j
  ·rw [if_neg (by simp), ih]; simp [cnt, h]
  ·rw [if_pos rfl, List.length_append, ih]; simp [cnt, h]

theorem upL_cells (v : Bool) (n : Nat) (f : Nat → Bool) : ∀ N, cellsU v n f N = cellsG v n (upL f N)
 | 0 => rfl
 | j + 1 => by
  have ih := upL_cells v n f j
  unfold upL cellsU
  cases h : f j
  ·rw [if_neg (by simp), if_neg (by simp), ih]
  ·rw [if_pos rfl, if_pos rfl, cellsG_add, ih]

theorem upL_lt (f : Nat → Bool) : ∀ N, ∀ i ∈ upL f N, i < N ∧ f i = true
 | 0, i, h => by cases h
 | j + 1, i, h => by
  have ih := upL_lt f j
  unfold upL at h
  cases hf : f j
  ·rw [hf, if_neg (by simp)] at h
   have := ih i h
   exact ⟨by omega, this.2⟩
  ·rw [hf, if_pos rfl] at h
   rcases List.mem_append.1 h with h | h
   ·have := ih i h
    exact ⟨by omega, this.2⟩
   ·simp at h
    subst h
    exact ⟨by omega, hf⟩

theorem upL_sorted (f : Nat → Bool) : ∀ N, ∀ (j : Nat) (h : j + 1 < (upL f N).length), (upL f N)[j] < (upL f N)[j + 1]
 | 0, j, h => by simp [upL] at h
 | k + 1, j, h => by
  have ih := upL_sorted f k
  have lt := upL_lt f k
  cases hf : f k
  ·have e : upL f (k + 1) = upL f k := by unfold upL; rw [hf, if_neg (by simp)]; rw [upL.eq_def]
   simp only [e] at h ⊢
   exact ih j h
  ·have e : upL f (k + 1) = upL f k ++ [k] := by rw [upL, hf, if_pos rfl]
   simp only [e] at h ⊢
   rw [List.length_append] at h
   simp at h
   by_cases c : j + 1 < (upL f k).length
   ·rw [List.getElem_append_left c, List.getElem_append_left (by omega)]
    exact ih j c
   ·have c2 : j + 1 = (upL f k).length := by omega
    rw [List.getElem_append_left (by omega), List.getElem_append_right (by omega)]
    have := (lt _ (List.getElem_mem (show j < (upL f k).length by omega))).1
    simpa using this

/-- What is used and isn't kept. -/
theorem used_is {lk : Bool} {N : Nat} {us : List Nat} (U : PU lk N us) : (fun p => usF lk N us p && !kpF lk N p) = fun p => decide (p ∈ us) := by
 funext p
 unfold usF
 by_cases c : p ∈ us
 ·rw [U.fr p c]
  simp [c]
 ·simp [c]

theorem used_cnt {lk : Bool} {N : Nat} {us : List Nat} (U : PU lk N us) : cnt (fun p => decide (p ∈ us)) N = us.length := by
 have h := us_cnt U
 have d := cnt_diff (f := usF lk N us) (f0 := kpF lk N) N (fun p hp => by unfold usF; rw [hp]; rfl)
 rw [used_is U] at d
 omega

theorem has_is {lk : Bool} {N : Nat} {us : List Nat} {i : Nat} (hk : kpF lk N i = false) : hsV (usF lk N us) (some i) = decide (i ∈ us) := us_at hk

/-- A slice of calls. -/
def PActsAt (W : World) (x : Option Addr) (len b o : Nat) : Prop := (x = some ⟨b, o, none⟩ ∨ len = 0) ∧ len ≤ 9223372036854775807 ∧ ∀ i, i < len → ∃ (K : Int) (u : Bool) (qh ql : Int) (m : Nat) (A M : Int), IsNum qh ql m ∧ (-9223372036854775808 ≤ M ∧ M ≤ 9223372036854775807) ∧ W.cell? ⟨b, o + i * 6, none⟩ = some (.int .i64 K) ∧ W.cell? ⟨b, o + i * 6 + 1, none⟩ = some (.bool u) ∧ W.cell? ⟨b, o + i * 6 + 2, none⟩ = some (.int .u64 qh) ∧ W.cell? ⟨b, o + i * 6 + 3, none⟩ = some (.int .u64 ql) ∧ W.cell? ⟨b, o + i * 6 + 4, none⟩ = some (.int .i64 A) ∧ W.cell? ⟨b, o + i * 6 + 5, none⟩ = some (.int .i64 M)

/-- What a round of the law reads: an address of its own. -/
def DX (Q : Nat) (u : Bool) (qh ql : Int) (w : World) (L : List (Nat × List Value × TypeId)) (v : Bool) (h l b : Int) (x a g r base N : Nat) (f : Nat → Bool) (us : List Nat) (W : World) : Prop :=
 (W.cell? ⟨Q, 0, none⟩ = some (.bool u) ∧ W.cell? ⟨Q, 1, none⟩ = some (.int .u64 qh) ∧ W.cell? ⟨Q, 2, none⟩ = some (.int .u64 ql)) ∧ Hid (PPt w ((Q, [.bool u, .int .u64 qh, .int .u64 ql], 26) :: L) v h l b x a g r base N f us W)

theorem DX.of {Q : Nat} {u : Bool} {qh ql : Int} {w : World} {L : List (Nat × List Value × TypeId)} {v : Bool} {h l b : Int} {x a g r base N : Nat} {f : Nat → Bool} {us : List Nat} {W : World} (S : PPt w ((Q, [.bool u, .int .u64 qh, .int .u64 ql], 26) :: L) v h l b x a g r base N f us W) : DX Q u qh ql w L v h l b x a g r base N f us W :=
 ⟨⟨S.kn.2.1.1.cell 0, S.kn.2.1.1.cell 1, S.kn.2.1.1.cell 2⟩, S⟩

theorem DX.below {Q : Nat} {u : Bool} {qh ql : Int} {w : World} {L : List (Nat × List Value × TypeId)} {v : Bool} {h l b : Int} {x a g r base N : Nat} {f : Nat → Bool} {us : List Nat} {W W' : World} (s : DX Q u qh ql w L v h l b x a g r base N f us W) (q : Below W.heap.size W W') : DX Q u qh ql w L v h l b x a g r base N f us W' := DX.of (s.2.out.below q)

theorem DX.drew {Q : Nat} {u : Bool} {qh ql : Int} {w : World} {L : List (Nat × List Value × TypeId)} {v : Bool} {h l b : Int} {x a g r base N : Nat} {f : Nat → Bool} {us : List Nat} {W : World} (s : DX Q u qh ql w L v h l b x a g r base N f us W) : DX Q u qh ql w L v h l b x a g r base N f us W.drew := s.below (by repeat (first | with_reducible exact Below.refl _ _ | with_reducible refine Below.drew ?_ | with_reducible refine Below.alloc ?_ (by first | omega | (simp <;> omega)) _ | with_reducible refine Below.setCell ?_ (by first | omega | (simp <;> omega)) _))

/-- What the law's last statements read. -/
def YP (w : World) (v : Bool) (h l b : Int) (x a g r base N : Nat) (f : Nat → Bool) (us : List Nat) (ru : Value) (B0 n : Nat) (uv : Value) (gs : List Nat) (W : World) : Prop :=
 (W.cell? ⟨r, 5, none⟩ = some ru ∧ W.cell? ⟨w.heap.size, 0, none⟩ = some (.bool v) ∧ W.cell? ⟨w.heap.size, 1, none⟩ = some (.int .u64 h) ∧ W.cell? ⟨w.heap.size, 2, none⟩ = some (.int .u64 l) ∧ W.cell? ⟨w.heap.size, 3, none⟩ = some (.int .i64 b)) ∧ Hid (PPt w [(w.heap.size, [.bool v, .int .u64 h, .int .u64 l, .int .i64 b], 28)] v h l b x a g r base N f us W ∧ W.ownsRow B0 26 3 uv gs.length (cellsG v n gs) ∧ r < W.heap.size)

theorem YP.below {w : World} {v : Bool} {h l b : Int} {x a g r base N : Nat} {f : Nat → Bool} {us : List Nat} {ru : Value} {B0 n : Nat} {uv : Value} {gs : List Nat} {W W' : World} (s : YP w v h l b x a g r base N f us ru B0 n uv gs W) (q : Below W.heap.size W W') : YP w v h l b x a g r base N f us ru B0 n uv gs W' := by
 obtain ⟨⟨s0, s1, s2, s3, s4⟩, S, o, rl⟩ := s
 have S' := S.below q
 exact ⟨⟨(q.cell (p := ⟨r, 5, none⟩) rl).trans s0, S'.kn.2.1.1.cell 0, S'.kn.2.1.1.cell 1, S'.kn.2.1.1.cell 2, S'.kn.2.1.1.cell 3⟩, S', own_below o q, Nat.lt_of_lt_of_le rl q.size⟩

theorem YP.drew {w : World} {v : Bool} {h l b : Int} {x a g r base N : Nat} {f : Nat → Bool} {us : List Nat} {ru : Value} {B0 n : Nat} {uv : Value} {gs : List Nat} {W : World} (s : YP w v h l b x a g r base N f us ru B0 n uv gs W) : YP w v h l b x a g r base N f us ru B0 n uv gs W.drew := s.below (by repeat (first | with_reducible exact Below.refl _ _ | with_reducible refine Below.drew ?_ | with_reducible refine Below.alloc ?_ (by first | omega | (simp <;> omega)) _ | with_reducible refine Below.setCell ?_ (by first | omega | (simp <;> omega)) _))

/-- The reference's list of used ones, as its cell shows it. -/
theorem ru_of {w : World} {v : Bool} {h l b : Int} {x a g r base N : Nat} {f : Nat → Bool} {us : List Nat} {W : World} (S : PPt w [(w.heap.size, [.bool v, .int .u64 h, .int .u64 l, .int .i64 b], 28)] v h l b x a g r base N f us W) : ∃ q cap, W.cell? ⟨r, 5, none⟩ = some (.slice q us.length cap) := by
 obtain ⟨sv, hb, ho⟩ := S.rr.is
 have c := hb.cell 5
 rcases ho.2 with ⟨h1, h0⟩ | ⟨g, cap, cur, h1, _, _, _⟩
 ·exact ⟨none, 0, by rw [c, h1, h0]; rfl⟩
 ·exact ⟨some ⟨g, 0, none⟩, cap, by rw [c, h1]; rfl⟩

theorem YP.of {w : World} {v : Bool} {h l b : Int} {x a g r base N : Nat} {f : Nat → Bool} {us : List Nat} {ru : Value} {B0 n : Nat} {uv : Value} {gs : List Nat} {W : World} (S : PPt w [(w.heap.size, [.bool v, .int .u64 h, .int .u64 l, .int .i64 b], 28)] v h l b x a g r base N f us W) (hr : W.cell? ⟨r, 5, none⟩ = some ru) (o : W.ownsRow B0 26 3 uv gs.length (cellsG v n gs)) : YP w v h l b x a g r base N f us ru B0 n uv gs W :=
 ⟨⟨hr, S.kn.2.1.1.cell 0, S.kn.2.1.1.cell 1, S.kn.2.1.1.cell 2, S.kn.2.1.1.cell 3⟩, S, o, S.rr.lt⟩

/-- What the last loop's test reads: two neighbours. -/
def ZP (B i : Nat) (v : Bool) (ph pl qh ql : Int) (w : World) (h l b : Int) (x a g r base N : Nat) (f : Nat → Bool) (us : List Nat) (B0 n : Nat) (uv : Value) (gs : List Nat) (W : World) : Prop :=
 (W.cell? ⟨B, i * 3, none⟩ = some (.bool v) ∧ W.cell? ⟨B, i * 3 + 1, none⟩ = some (.int .u64 ph) ∧ W.cell? ⟨B, i * 3 + 2, none⟩ = some (.int .u64 pl) ∧ W.cell? ⟨B, (i + 1) * 3, none⟩ = some (.bool v) ∧ W.cell? ⟨B, (i + 1) * 3 + 1, none⟩ = some (.int .u64 qh) ∧ W.cell? ⟨B, (i + 1) * 3 + 2, none⟩ = some (.int .u64 ql)) ∧ Hid (PPt w [(w.heap.size, [.bool v, .int .u64 h, .int .u64 l, .int .i64 b], 28)] v h l b x a g r base N f us W ∧ W.ownsRow B0 26 3 uv gs.length (cellsG v n gs) ∧ B < W.heap.size)

theorem ZP.below {B i : Nat} {v : Bool} {ph pl qh ql : Int} {w : World} {h l b : Int} {x a g r base N : Nat} {f : Nat → Bool} {us : List Nat} {B0 n : Nat} {uv : Value} {gs : List Nat} {W W' : World} (s : ZP B i v ph pl qh ql w h l b x a g r base N f us B0 n uv gs W) (q : Below W.heap.size W W') : ZP B i v ph pl qh ql w h l b x a g r base N f us B0 n uv gs W' := by
 obtain ⟨⟨s0, s1, s2, s3, s4, s5⟩, S, o, rl⟩ := s
 have e : ∀ j, W'.cell? ⟨B, j, none⟩ = W.cell? ⟨B, j, none⟩ := fun j => q.cell (p := ⟨B, j, none⟩) rl
 exact ⟨⟨(e _).trans s0, (e _).trans s1, (e _).trans s2, (e _).trans s3, (e _).trans s4, (e _).trans s5⟩, S.below q, own_below o q, Nat.lt_of_lt_of_le rl q.size⟩

theorem ZP.drew {B i : Nat} {v : Bool} {ph pl qh ql : Int} {w : World} {h l b : Int} {x a g r base N : Nat} {f : Nat → Bool} {us : List Nat} {B0 n : Nat} {uv : Value} {gs : List Nat} {W : World} (s : ZP B i v ph pl qh ql w h l b x a g r base N f us B0 n uv gs W) : ZP B i v ph pl qh ql w h l b x a g r base N f us B0 n uv gs W.drew := s.below (by repeat (first | with_reducible exact Below.refl _ _ | with_reducible refine Below.drew ?_ | with_reducible refine Below.alloc ?_ (by first | omega | (simp <;> omega)) _ | with_reducible refine Below.setCell ?_ (by first | omega | (simp <;> omega)) _))

/-- The same for the first one. -/
def ZP0 (w : World) (v : Bool) (h l b : Int) (x a g r base N : Nat) (f : Nat → Bool) (us : List Nat) (B0 n : Nat) (uv : Value) (gs : List Nat) (W : World) : Prop :=
 Hid (PPt w [(w.heap.size, [.bool v, .int .u64 h, .int .u64 l, .int .i64 b], 28)] v h l b x a g r base N f us W ∧ W.ownsRow B0 26 3 uv gs.length (cellsG v n gs))

theorem ZP0.below {w : World} {v : Bool} {h l b : Int} {x a g r base N : Nat} {f : Nat → Bool} {us : List Nat} {B0 n : Nat} {uv : Value} {gs : List Nat} {W W' : World} (s : ZP0 w v h l b x a g r base N f us B0 n uv gs W) (q : Below W.heap.size W W') : ZP0 w v h l b x a g r base N f us B0 n uv gs W' := by
 obtain ⟨S, o⟩ := s
 exact ⟨S.below q, own_below o q⟩

theorem ZP0.drew {w : World} {v : Bool} {h l b : Int} {x a g r base N : Nat} {f : Nat → Bool} {us : List Nat} {B0 n : Nat} {uv : Value} {gs : List Nat} {W : World} (s : ZP0 w v h l b x a g r base N f us B0 n uv gs W) : ZP0 w v h l b x a g r base N f us B0 n uv gs W.drew := s.below (by repeat (first | with_reducible exact Below.refl _ _ | with_reducible refine Below.drew ?_ | with_reducible refine Below.alloc ?_ (by first | omega | (simp <;> omega)) _ | with_reducible refine Below.setCell ?_ (by first | omega | (simp <;> omega)) _))

/-- The reference's Has, beside all that is kept. -/
theorem has_r6 {w W : World} {L : List (Nat × List Value × TypeId)} {v : Bool} {h l b : Int} {x a g r base N i : Nat} {f : Nat → Bool} {us : List Nat} {t : Bool} (ht : decide (i ∈ us) = t) (hus : us.length ≤ 1000) (S : PPt w L v h l b x a g r base N f us W) :
  Calls Tryz.prog 23 #[.pointer (some ⟨r, 0, none⟩), .int .i64 i] W fun e W' => e = .returned (.bool t) ∧ W' = W := rhas06_c ht (by omega) W S.rr

theorem cmp_lt {v : Bool} {ah al bh bl : Int} {a b : Nat} (ha : IsNum ah al a) (hb : IsNum bh bl b) (h : a < b) (w : World) :
  Calls Tryz.prog 28 #[av v ah al, av v bh bl] w fun e w' => e = .returned (.int .i64 (-1)) ∧ Below w.heap.size w w' := by
 refine (acmp_c ha hb w).mono ?_
 rintro e w' ⟨n, rfl, hn, hb⟩
 have : n = -1 := by
  rw [hn]
  unfold cmpA cmpI
  rw [if_pos rfl, if_pos (by omega)]
 subst this
 exact ⟨rfl, hb⟩


set_option maxRecDepth 100000 in
set_option maxHeartbeats 1600000 in
theorem pplay_small {v : Bool} {h l b : Int} {n len cap : Nat} {xo : Option Addr} (hp : IsNum h l n) (h4 : ¬ 4 ≤ szP v n b) (w : World) (hL : LW w) (hT : TB w) :
  Calls Tryz.prog 4 #[pv v h l b, .slice xo len cap] w fun e w' => e = .returned (.bool true) ∧ Below w.heap.size w w' := by
 have hz := hL.sz
 have K := pfx_start w v h l b
 have AW := hide (awake6_c _ (hL.of K.bel hz) (hT.below K.bel))
 have CN := hide (fun w' => rcount06_c (v := v) (b := b) hp w')
 have NW := hide (fun w' => poNew_no (v := v) (b := b) hp h4 w')
 have RN := hide (fun w' => rNew06_c (v := v) (b := b) hp w')
 have e0 : cnP v n b = 0 := by unfold cnP; rw [if_neg h4]
 have HE := hide e0
 rw [e0] at CN
 have KH := hide K
 clear hL hT hz hp h4 K e0
 go_enter Tryz.func4, Tryz.ntmps4
 go_wp2_with fail
 refine AW.out.mono ?_
 rintro e w0 ⟨rfl, hb⟩
 have K0 := hide (KH.out.below hb)
 have F := K0.out.1
 simp only [Facts, CellsAt] at F
 clear AW hb KH
 go_wp2_with fail
 refine (CN.out _).mono ?_
 rintro e w1 ⟨rfl, hb⟩
 have K1 := hide (K0.out.below hb)
 have F1 := K1.out.1
 simp only [Facts, CellsAt] at F1
 clear CN hb K0 F
 go_wp2_with fail
 refine (NW.out _).mono ?_
 rintro e w2 ⟨rfl, hb⟩
 have K2 := hide (K1.out.below hb)
 have F2 := K2.out.1
 simp only [Facts, CellsAt] at F2
 clear NW hb K1 F1
 go_wp2_with fail
 refine (RN.out _).mono ?_
 rintro e w3 (⟨_, rfl, hb⟩ | ⟨hn, _⟩)
 ·have B3 := hide (K2.out.below hb).bel
  clear RN hb K2 F2
  go_wp2
  go_ret
  exact ⟨by first | rfl | simp, B3.out⟩
 ·exact absurd HE.out hn

theorem left_p6b {w W : World} {L : List (Nat × List Value × TypeId)} {v : Bool} {h l b : Int} {x a g r base N : Nat} {f : Nat → Bool} {us : List Nat} {C : Int} (hC : (N : Int) - (cnt f N : Nat) = C) (S : PPt w L v h l b x a g r base N f us W) :
  Calls Tryz.prog 16 #[.pointer (some ⟨x, 0, none⟩)] W fun e W' => e = .returned (.int .i64 C) ∧ Below W.heap.size W W' := poLeft_c hC W S.p

theorem left_r6b {w W : World} {L : List (Nat × List Value × TypeId)} {v : Bool} {h l b : Int} {x a g r base n : Nat} {f : Nat → Bool} {us : List Nat} {C : Int} (hp : IsNum h l n) (h4 : 4 ≤ szP v n b) (U : PU (lkP v b) (szP v n b) us) (hus : us.length ≤ 1000) (hC : ((szP v n b : Nat) : Int) - (cnt (usF (lkP v b) (szP v n b) us) (szP v n b) : Nat) = C) (S : PPt w L v h l b x a g r base (szP v n b) f us W) :
  Calls Tryz.prog 17 #[.pointer (some ⟨r, 0, none⟩)] W fun e W' => e = .returned (.int .i64 C) ∧ Below W.heap.size W W' := by
 rw [left_is (by omega) U] at hC
 exact rleft06_c (t := kpF (lkP v b) (szP v n b) (szP v n b - 1)) (by omega) szP_le hp (szP_ok (by omega)) (by omega) rfl hC W S.rr

/-- What both are at the beginning. -/
theorem usF_nil (lk : Bool) (N : Nat) : usF lk N [] = kpF lk N := by
 funext p
 unfold usF
 simp

set_option maxRecDepth 100000 in
set_option maxHeartbeats 3200000 in
theorem pplay_big {v : Bool} {h l b : Int} {n len cap : Nat} {xo : Option Addr} (hp : IsNum h l n) (h4 : 4 ≤ szP v n b) (h5 : ¬ szP v n b ≤ 512) (w : World) (hL : LW w) (hT : TB w) :
  Calls Tryz.prog 4 #[pv v h l b, .slice xo len cap] w fun e w' => e = .returned (.bool true) ∧ Below w.heap.size w w' := by
 have hz := hL.sz
 have K := pfx_start w v h l b
 have AW := hide (awake6_c _ (hL.of K.bel hz) (hT.below K.bel))
 have ec : cnP v n b = szP v n b := by unfold cnP; rw [if_pos h4]
 have CN := hide (fun w' => rcount06_c (v := v) (b := b) hp w')
 have NW := hide (fun w' => poNew_ok (v := v) (b := b) hp h4 w')
 have RN := hide (fun w' => rNew06_c (v := v) (b := b) hp w')
 rw [ec] at CN RN
 have U0 := PU.nil (lkP v b) (szP v n b)
 obtain ⟨C, hC⟩ : ∃ C : Int, ((szP v n b : Nat) : Int) - (cnt (usF (lkP v b) (szP v n b) []) (szP v n b) : Nat) = C := ⟨_, rfl⟩
 have LP := hide (fun L x a g r base W (S : PPt w L v h l b x a g r base (szP v n b) (usF (lkP v b) (szP v n b) []) [] W) => left_p6b hC S)
 have LR := hide (fun L x a g r base W (S : PPt w L v h l b x a g r base (szP v n b) (usF (lkP v b) (szP v n b) []) [] W) => left_r6b hp h4 U0 (by simp) hC S)
 have KE := usF_nil (lkP v b) (szP v n b)
 rw [← KE] at NW
 obtain ⟨f0, hf0⟩ : ∃ f0, usF (lkP v b) (szP v n b) [] = f0 := ⟨_, rfl⟩
 rw [hf0] at NW LP LR
 have h0 : ¬ szP v n b = 0 := by omega
 have HN0 := hide h0
 obtain ⟨N, hN⟩ : ∃ N, szP v n b = N := ⟨_, rfl⟩
 rw [hN] at CN NW RN LP LR HN0 h5
 have hN5 : ¬ (N : Int) ≤ 512 := by omega
 have hN6 : (N : Int) > 512 := by omega
 have KH := hide K
 clear hL hT hz hp h4 K ec U0 hC KE hf0 h0 hN h5
 go_enter Tryz.func4, Tryz.ntmps4
 go_wp2_with fail
 refine AW.out.mono ?_
 rintro e w0 ⟨rfl, hb⟩
 have K0 := hide (KH.out.below hb)
 have F := K0.out.1
 simp only [Facts, CellsAt] at F
 clear AW hb KH
 go_wp2_with fail
 refine (CN.out _).mono ?_
 rintro e w1 ⟨rfl, hb⟩
 have K1 := hide (K0.out.below hb)
 have F1 := K1.out.1
 simp only [Facts, CellsAt] at F1
 clear CN hb K0 F
 go_wp2_with fail
 refine (NW.out _).mono ?_
 rintro e w2 ⟨x, a, g, rfl, hP, hb, hx, hg⟩
 have K2 := hide (K1.out.below hb)
 have P2 := hide hP
 have q0 := K1.out.lts.1
 have F2 := K2.out.1
 simp only [Facts, CellsAt] at F2
 have HG : Hid (w.heap.size < g) := by show _ < _; omega
 clear NW hb K1 F1 hP hx hg q0
 go_wp2_with fail
 refine (RN.out _).mono ?_
 rintro e w3 (⟨hn, _⟩ | ⟨_, r, rfl, hR, hb, hr⟩)
 ·exact absurd hn HN0.out
 ·have q1 := K2.out.lts.1
  have S3 : Hid (PPt w [(w.heap.size, [.bool v, .int .u64 h, .int .u64 l, .int .i64 b], 28)] v h l b x a g r w2.heap.size N f0 [] w3) := by
   have z := HG.out
   have bs := hb.size
   exact ⟨K2.out.below hb, P2.out.below hb, hR, ⟨by show w.heap.size ≠ g; omega, trivial⟩, ⟨by show w.heap.size ≠ r; omega, trivial⟩, ⟨show 3 ≠ 28 by decide, trivial⟩, by omega, by omega, by omega, by omega⟩
  obtain ⟨qr, cr, hru⟩ := ru_of S3.out
  rw [List.length_nil] at hru
  have Y0 := YP.of (B0 := 0) (n := n) (uv := .slice none 0 0) (gs := []) S3.out hru (World.ownsRow_nil _ _ _ _)
  have F3 := S3.out.kn.1
  simp only [Facts, CellsAt] at F3
  clear RN hb K2 P2 F2 hR hr q1 HG
  go_wp2_with fail
  refine wp_region_held_drew (S := (YP w v h l b x a g r w2.heap.size N f0 [] (.slice qr 0 cr) 0 n (.slice none 0 0) [])) (by kernel_rfl) ?hS100 (fun hHeld => ?rest100)
  case hS100 => with_reducible exact Y0.drew
  refine w8 0 ?_ (ga7 rfl) (by kernel_rfl) (fun _ _ _ h => h) ⟨by rfl, ?y101⟩ hHeld ?_
  case y101 => (intro wq hSw; (try simp only [Two, YP] at hSw); go_simp; try with_reducible rfl)
  try simp only [Act.put, a7, b7, c7]
  refine w8 2 ?_ (ga7 rfl) (by kernel_rfl) (fun _ _ _ h => h) ⟨by rfl, ?y102⟩ hHeld ?_
  case y102 => (intro wq hSw; (try simp only [Two, YP] at hSw); go_simp; try with_reducible rfl)
  try simp only [Act.put, a7, b7, c7]
  refine wpAnyH_ready (rs := [1]) (by kernel_rfl) (by simp) ?rdy103
  refine AllReadyH.cons (ga7 rfl) (fun K hK => ?stp103) AllReadyH.nil
  go_simp
  go_wp2_with fail
  (refine (psize_c _ hHeld.2.out.1.p).mono ?_; rintro e w5 ⟨rfl, rfl⟩)
  go_wp2_with fail
  refine hK.out _ _ ?hSn103 (fun hHeld2 => ?rest103)
  case hSn103 => (first | with_reducible exact Y0.drew | with_reducible exact hHeld)
  clear hK K hHeld
  have hHeld := hHeld2
  clear hHeld2
  try simp only [Act.put, a7, b7, c7]
  refine w8 3 ((Value.bool true)) (ga7 rfl) (by kernel_rfl) (fun _ _ _ h => h) ⟨by rfl, ?y104⟩ hHeld ?_
  case y104 => (intro wq hSw; (try simp only [Two, YP] at hSw); go_simp; (all_goals (first | rfl | simp)))
  try simp only [Act.put, a7, b7, c7]
  refine w8 4 ?_ (ga7 rfl) (by kernel_rfl) (fun _ _ _ h => h) ⟨by rfl, ?y105⟩ hHeld ?_
  case y105 => (intro wq hSw; (try simp only [Two, YP] at hSw); go_simp; try with_reducible rfl)
  try simp only [Act.put, a7, b7, c7]
  refine w8 5 ?_ (ga7 rfl) (by kernel_rfl) (fun _ _ _ h => h) ⟨by rfl, ?y106⟩ hHeld ?_
  case y106 => (intro wq hSw; (try simp only [Two, YP] at hSw); go_simp; try with_reducible rfl)
  try simp only [Act.put, a7, b7, c7]
  refine w8 7 ?_ (ga7 rfl) (by kernel_rfl) (fun _ _ _ h => h) ⟨by rfl, ?y107⟩ hHeld ?_
  case y107 => (intro wq hSw; (try simp only [Two, YP] at hSw); go_simp; try with_reducible rfl)
  try simp only [Act.put, a7, b7, c7]
  refine wpAnyH_ready (rs := [6]) (by kernel_rfl) (by simp) ?rdy108
  refine AllReadyH.cons (ga7 rfl) (fun K hK => ?stp108) AllReadyH.nil
  go_simp
  go_wp2_with fail
  (refine (LP.out _ _ _ _ _ _ _ hHeld.2.out.1).mono ?_; rintro e w6 ⟨rfl, hb6⟩)
  go_wp2_with fail
  refine hK.out _ _ ?hSn108 (fun hHeld2 => ?rest108)
  case hSn108 => with_reducible exact hHeld.below hb6
  clear hK K hHeld
  have hHeld := hHeld2
  clear hHeld2
  try simp only [Act.put, a7, b7, c7]
  refine wpAnyH_ready (rs := [8]) (by kernel_rfl) (by simp) ?rdy109
  refine AllReadyH.cons (ga7 rfl) (fun K hK => ?stp109) AllReadyH.nil
  go_simp
  go_wp2_with fail
  (refine (LR.out _ _ _ _ _ _ _ hHeld.2.out.1).mono ?_; rintro e w7 ⟨rfl, hb7⟩)
  go_wp2_with fail
  refine hK.out _ _ ?hSn109 (fun hHeld2 => ?rest109)
  case hSn109 => with_reducible exact hHeld.below hb7
  clear hK K hHeld
  have hHeld := hHeld2
  clear hHeld2
  try simp only [Act.put, a7, b7, c7]
  refine w8 9 ((Value.bool true)) (ga7 rfl) (by kernel_rfl) (fun _ _ _ h => h) ⟨by rfl, ?y110⟩ hHeld ?_
  case y110 => (intro wq hSw; (try simp only [Two, YP] at hSw); go_simp; (all_goals (first | rfl | simp)))
  try simp only [Act.put, a7, b7, c7]
  refine w8 10 ?_ (ga7 rfl) (by kernel_rfl) (fun _ _ _ h => h) ⟨by rfl, ?y111⟩ hHeld ?_
  case y111 => (intro wq hSw; (try simp only [Two, YP] at hSw); go_simp; try with_reducible rfl)
  try simp only [Act.put, a7, b7, c7]
  refine w8 11 ?_ (ga7 rfl) (by kernel_rfl) (fun _ _ _ h => h) ⟨by rfl, ?y112⟩ hHeld ?_
  case y112 => (intro wq hSw; (try simp only [Two, YP] at hSw); go_simp; try with_reducible rfl)
  try simp only [Act.put, a7, b7, c7]
  refine w8 12 ?_ (ga7 rfl) (by kernel_rfl) (fun _ _ _ h => h) ⟨by rfl, ?y113⟩ hHeld ?_
  case y113 => (intro wq hSw; (try simp only [Two, YP] at hSw); go_simp; try with_reducible rfl)
  try simp only [Act.put, a7, b7, c7]
  refine w8 14 ?_ (ga7 rfl) (by kernel_rfl) (fun _ _ _ h => h) ⟨by rfl, ?y114⟩ hHeld ?_
  case y114 => (intro wq hSw; (try simp only [Two, YP] at hSw); go_simp; try with_reducible rfl)
  try simp only [Act.put, a7, b7, c7]
  refine wpAnyH_ready (rs := [13]) (by kernel_rfl) (by simp) ?rdy115
  refine AllReadyH.cons (ga7 rfl) (fun K hK => ?stp115) AllReadyH.nil
  go_simp
  go_wp2_with fail
  (refine (poPrefix_c _ hHeld.2.out.1.p).mono ?_; rintro e w08 ⟨rfl, hb8⟩)
  go_wp2_with fail
  refine hK.out _ _ ?hSn115 (fun hHeld2 => ?rest115)
  case hSn115 => with_reducible exact hHeld.below hb8
  clear hK K hHeld
  have hHeld := hHeld2
  clear hHeld2
  try simp only [Act.put, a7, b7, c7]
  refine w8 15 ((Value.bool true)) (ga7 rfl) (by kernel_rfl) (fun _ _ _ h => h) ⟨by rfl, ?y116⟩ hHeld ?_
  case y116 => (intro wq hSw; (try simp only [Two, YP] at hSw); go_simp; (all_goals (first | rfl | simp)))
  try simp only [Act.put, a7, b7, c7]
  refine w8 16 ?_ (ga7 rfl) (by kernel_rfl) (fun _ _ _ h => h) ⟨by rfl, ?y117⟩ hHeld ?_
  case y117 => (intro wq hSw; (try simp only [Two, YP] at hSw); go_simp; try with_reducible rfl)
  try simp only [Act.put, a7, b7, c7]
  refine w8 17 ?_ (ga7 rfl) (by kernel_rfl) (fun _ _ _ h => h) ⟨by rfl, ?y118⟩ hHeld ?_
  case y118 => (intro wq hSw; (try simp only [Two, YP] at hSw); go_simp; try with_reducible rfl)
  try simp only [Act.put, a7, b7, c7]
  refine wpAnyH_done (by kernel_rfl) ?fin100 _
  have B9 := hide hHeld.2.out.1.kn.bel
  clear hHeld Y0
  go_wp2
  go_ret
  exact ⟨by first | rfl | simp, B9.out⟩


theorem has_p6b {w W : World} {L : List (Nat × List Value × TypeId)} {v s : Bool} {h l b ah al : Int} {x a g r base n m : Nat} {f : Nat → Bool} {us : List Nat} {V : Bool} (hp : IsNum h l n) (ha : IsNum ah al m) (h0 : 0 < szP v n b) (hV : hsV f (nmP v n b s m) = V) (S : PPt w L v h l b x a g r base (szP v n b) f us W) :
  Calls Tryz.prog 22 #[.pointer (some ⟨x, 0, none⟩), av s ah al] W fun e W' => e = .returned (.bool V) ∧ Below W.heap.size W W' := by
 subst hV
 exact poHas_c hp ha h0 W S.p

theorem may_p6b {w W : World} {L : List (Nat × List Value × TypeId)} {v s : Bool} {h l b ah al : Int} {x a g r base n m : Nat} {f : Nat → Bool} {us : List Nat} {V : Int} (hp : IsNum h l n) (ha : IsNum ah al m) (h0 : 0 < szP v n b) (hV : nmE (nmP v n b s m) = V) (S : PPt w L v h l b x a g r base (szP v n b) f us W) :
  Calls Tryz.prog 24 #[.pointer (some ⟨x, 0, none⟩), av s ah al] W fun e W' => e = .returned (.int .i64 V) ∧ Below W.heap.size W W' := by
 subst hV
 exact may_c hp ha h0 W S.p

theorem num_r6b {w W : World} {L : List (Nat × List Value × TypeId)} {v s : Bool} {h l b ah al : Int} {x a g r base n m : Nat} {f : Nat → Bool} {us : List Nat} {V : Int} (hp : IsNum h l n) (ha : IsNum ah al m) (h0 : 0 < szP v n b) (hV : nmR (nmP v n b s m) = V) (S : PPt w L v h l b x a g r base (szP v n b) f us W) :
  Calls Tryz.prog 21 #[.pointer (some ⟨r, 0, none⟩), av s ah al] W fun e W' => e = .returned (.int .i64 V) ∧ Below W.heap.size W W' := by
 subst hV
 exact rnum06_c hp ha h0 W S.rr

/-- An element of a row of addresses. -/
theorem row_at6 {W : World} {base k n : Nat} {v : Bool} {u : Value} {gs : List Nat} (h : W.ownsRow base 26 3 u k (cellsG v n gs)) (hk : k = gs.length) {j : Nat} (hj : j < gs.length) : ∃ B cap, u = .slice (some ⟨B, 0, none⟩) k cap ∧ W.cell? ⟨B, j * 3, none⟩ = some (.bool v) ∧ W.cell? ⟨B, j * 3 + 1, none⟩ = some (.int .u64 (((n + gs[j]) / 18446744073709551616 : Nat) : Int)) ∧ W.cell? ⟨B, j * 3 + 2, none⟩ = some (.int .u64 (((n + gs[j]) % 18446744073709551616 : Nat) : Int)) := by
 obtain ⟨h0, h1, h2⟩ := cellsG_at v n gs j hj
 have ad : ∀ B i : Nat, (⟨B, 0, none⟩ : Addr).add i = ⟨B, i, none⟩ := fun B i => by
  unfold Addr.add
  split <;> simp_all
 rcases h.2 with ⟨_, q⟩ | ⟨B, cap, cur, q, _⟩
 ·omega
 ·refine ⟨B, cap, q, ?_, ?_, ?_⟩
  ·have := h.cells (g := B) (by rw [q]; rfl) _ _ h0
   rwa [ad] at this
  ·have := h.cells (g := B) (by rw [q]; rfl) _ _ h1
   rwa [ad] at this
  ·have := h.cells (g := B) (by rw [q]; rfl) _ _ h2
   rwa [ad] at this

/-- Which addresses are used, in the pool's own order. -/
theorem used6_c {v : Bool} {h l b : Int} {x a g n : Nat} {us : List Nat} (hp : IsNum h l n) (h0 : 0 < szP v n b) (U : PU (lkP v b) (szP v n b) us) (w : World) (P : PoAt w v h l b x a g (szP v n b) (usF (lkP v b) (szP v n b) us)) :
  Calls Tryz.prog 25 #[.pointer (some ⟨x, 0, none⟩)] w fun e w' => ∃ sv, e = .returned sv ∧ w'.ownsRow w.heap.size 26 3 sv (upL (fun p => decide (p ∈ us)) (szP v n b)).length (cellsG v n (upL (fun p => decide (p ∈ us)) (szP v n b))) ∧ Below w.heap.size w w' := by
 refine (poUsed_c hp h0 (used_is U) w P).mono ?_
 rintro e w' ⟨sv, rfl, ho, hb⟩
 rw [upL_cells, ← upL_len] at ho
 exact ⟨sv, rfl, ho, hb⟩

set_option maxRecDepth 100000 in
set_option maxHeartbeats 6400000 in
theorem pplay_main {v : Bool} {h l b : Int} {n len cap bo oo : Nat} {xo : Option Addr} (hp : IsNum h l n) (h4 : 4 ≤ szP v n b) (h5 : szP v n b ≤ 512) (w : World) (hA : PActsAt w xo len bo oo) (hL : LW w) (hT : TB w) :
  Calls Tryz.prog 4 #[pv v h l b, .slice xo len cap] w fun e w' => e = .returned (.bool true) ∧ Below w.heap.size w w' := by
 have hz := hL.sz
 have K := pfx_start w v h l b
 have AW := hide (awake6_c _ (hL.of K.bel hz) (hT.below K.bel))
 have LWx := hide (fun W (hb : Below w.heap.size w W) => hL.of hb hz)
 have ec : cnP v n b = szP v n b := by unfold cnP; rw [if_pos h4]
 have CN := hide (fun w' => rcount06_c (v := v) (b := b) hp w')
 have NW := hide (fun w' => poNew_ok (v := v) (b := b) hp h4 w')
 have RN := hide (fun w' => rNew06_c (v := v) (b := b) hp w')
 rw [ec] at CN RN
 have h0 : 0 < szP v n b := by omega
 have ok := szP_ok h0
 have U0 := hide (PU.nil (lkP v b) (szP v n b))
 have DO := hide (fun (K : Int) (u : Bool) (qh ql A M : Int) (m : Nat) (hM0 : -9223372036854775808 ≤ M) (hM1 : M ≤ 9223372036854775807) (hq : IsNum qh ql m) L x a g r base us W (U : PU (lkP v b) (szP v n b) us) (hus : us.length ≤ 60) (S : PPt w L v h l b x a g r base (szP v n b) (usF (lkP v b) (szP v n b) us) us W) => does6_c (K := K) (u := u) (A := A) hM0 hM1 hp h0 hT hq U hus S)
 have AI := hide (fun (K : Int) (u : Bool) (qh ql A M : Int) (m : Nat) (hq : IsNum qh ql m) L x a g r base us W (S : PPt w L v h l b x a g r base (szP v n b) (usF (lkP v b) (szP v n b) us) us W) => aim_6 (K := K) (u := u) (A := A) (M := M) hp h0 hq S)
 have HA := hide (fun (s : Bool) (ah al : Int) (m : Nat) (ha : IsNum ah al m) L x a g r base f us W V (hV : hsV f (nmP v n b s m) = V) (S : PPt w L v h l b x a g r base (szP v n b) f us W) => has_p6b hp ha h0 hV S)
 have MA := hide (fun (s : Bool) (ah al : Int) (m : Nat) (ha : IsNum ah al m) L x a g r base f us W V (hV : nmE (nmP v n b s m) = V) (S : PPt w L v h l b x a g r base (szP v n b) f us W) => may_p6b hp ha h0 hV S)
 have NU := hide (fun (s : Bool) (ah al : Int) (m : Nat) (ha : IsNum ah al m) L x a g r base f us W V (hV : nmR (nmP v n b s m) = V) (S : PPt w L v h l b x a g r base (szP v n b) f us W) => num_r6b hp ha h0 hV S)
 have LE := hide (fun L x a g r base us W C (hC : ((szP v n b : Nat) : Int) - (cnt (usF (lkP v b) (szP v n b) us) (szP v n b) : Nat) = C) (S : PPt w L v h l b x a g r base (szP v n b) (usF (lkP v b) (szP v n b) us) us W) => left_p6b hC S)
 have LR := hide (fun L x a g r base us W C (U : PU (lkP v b) (szP v n b) us) (hus : us.length ≤ 1000) (hC : ((szP v n b : Nat) : Int) - (cnt (usF (lkP v b) (szP v n b) us) (szP v n b) : Nat) = C) (S : PPt w L v h l b x a g r base (szP v n b) (usF (lkP v b) (szP v n b) us) us W) => left_r6b hp h4 U hus hC S)
 have US := hide (fun x a g us w' (U : PU (lkP v b) (szP v n b) us) P' => used6_c (x := x) (a := a) (g := g) hp h0 U w' P')
 have PB := hide (fun x a g us w' (hb : Below w.heap.size w w') (P' : PoAt w' v h l b x a g (szP v n b) (usF (lkP v b) (szP v n b) us)) => poBytes_c hp h0 w' (hL.of hb hz) P')
 have RB := hide (fun base r us w' (U : PU (lkP v b) (szP v n b) us) (hus : us.length ≤ 1000) (P' : RpAt w' base v h l b r (szP v n b) us) => rpbytes_any (A := prP v n b) szP_le hus U.lt (Nat.le_trans (prP_size v n b) (by omega)) w' P' (fun w2 => rprint03_c hp w2))
 have PS := hide (fun us (U : PU (lkP v b) (szP v n b) us) => (show poS v n b (usF (lkP v b) (szP v n b) us) = prP v n b ++ ⟨#[0]⟩ ++ bytesS (szP v n b) (fun p => decide (p ∈ us)) by unfold poS; rw [used_is U]))
 have OT := hide (fun us (U : PU (lkP v b) (szP v n b) us) => (⟨upL_len (fun p => decide (p ∈ us)) (szP v n b), used_cnt U⟩ : _ ∧ _))
 have NH := hide (fun i (hi : i < szP v n b) (hk : kpF (lkP v b) (szP v n b) i = false) => (⟨num_parts (host_lt hp.lt ok hi).1, nmP_host hp.lt ok hi hk⟩ : _ ∧ _))
 obtain ⟨N, hN⟩ : ∃ N, szP v n b = N := ⟨_, rfl⟩
 rw [hN] at CN NW RN U0 h5 NH
 have N0 : 0 < N := by omega
 have hN5 : (N : Int) ≤ 512 := by omega
 have HN := hide hN
 have AC := hide hA
 have KH := hide K
 clear hL hz hp h0 ok K ec hT hA h4 hN
 go_enter Tryz.func4, Tryz.ntmps4
 go_wp2_with fail
 refine AW.out.mono ?_
 rintro e w0 ⟨rfl, hb⟩
 have K0 := hide (KH.out.below hb)
 have F := K0.out.1
 simp only [Facts, CellsAt] at F
 clear AW hb KH
 go_wp2_with fail
 refine (CN.out _).mono ?_
 rintro e w1 ⟨rfl, hb⟩
 have K1 := hide (K0.out.below hb)
 have F1 := K1.out.1
 simp only [Facts, CellsAt] at F1
 clear CN hb K0 F
 go_wp2_with fail
 refine (NW.out _).mono ?_
 rintro e w2 ⟨x, a, g, rfl, hP, hb, hx, hg⟩
 have K2 := hide (K1.out.below hb)
 have P2 := hide hP
 have q0 := K1.out.lts.1
 have F2 := K2.out.1
 simp only [Facts, CellsAt] at F2
 have HG : Hid (w.heap.size < g) := by show _ < _; omega
 clear NW hb K1 F1 hP hx hg q0
 go_wp2_with fail
 refine (RN.out _).mono ?_
 rintro e w3 (⟨hn, _⟩ | ⟨_, r, rfl, hR, hb, hr⟩)
 ·exact absurd hn (by omega)
 have q1 := K2.out.lts.1
 have S3 : Hid (PPt w [(w.heap.size, [.bool v, .int .u64 h, .int .u64 l, .int .i64 b], 28)] v h l b x a g r w2.heap.size N (usF (lkP v b) N []) [] w3) := by
  have z := HG.out
  have bs := hb.size
  rw [usF_nil]
  exact ⟨K2.out.below hb, P2.out.below hb, hR, ⟨by show w.heap.size ≠ g; omega, trivial⟩, ⟨by show w.heap.size ≠ r; omega, trivial⟩, ⟨show 3 ≠ 28 by decide, trivial⟩, by omega, by omega, by omega, by omega⟩
 have F3 := S3.out.kn.1
 simp only [Facts, CellsAt] at F3
 clear RN hb K2 P2 F2 hR hr q1 HG
 obtain ⟨base, hbase⟩ : ∃ base, w2.heap.size = base := ⟨_, rfl⟩
 rw [hbase] at S3
 clear hbase
 go_wp2_with fail
 go_loopw [6, 10] (fun sv iv wr => ∃ (i x a g : Nat) (us : List Nat), i ≤ len ∧ i ≤ 60 ∧ iv = .int .i64 i ∧ sv = .pointer (some ⟨x, 0, none⟩) ∧ Hid (us.length ≤ i) ∧ Hid (PU (lkP v b) N us) ∧ Hid (PPt w [(w.heap.size, [.bool v, .int .u64 h, .int .u64 l, .int .i64 b], 28)] v h l b x a g r base N (usF (lkP v b) N us) us wr)) (fun _ iv _ => 60 - (intOf iv).toNat)
 case atStart => exact ⟨0, x, a, g, [], by omega, by omega, rfl, rfl, Nat.le_refl _, U0, S3⟩
 case round =>
  clear S3 F3 U0
  obtain ⟨i, x, a, g, us, hi, hi60, rfl, rfl, UL, UP, S⟩ := hrel
  have F := S.out.kn.1
  simp only [Facts, CellsAt] at F
  by_cases hlt : i < len ∧ i < 60
  ·have hl1 : (i : Int) < len := by omega
   have hl2 : (i : Int) < 60 := by omega
   obtain ⟨ho, _, hc⟩ := AC.out
   obtain ⟨K, u, qh, ql, m, A, M, hq, ⟨hM0, hM1⟩, e0, e1, e2, e3, e4, e5⟩ := hc i hlt.1
   obtain rfl : xo = some ⟨bo, oo, none⟩ := ho.resolve_right (by omega)
   have hn := HN.out
   have D1 := hide (DO.out K u qh ql A M m hM0 hM1 hq [(w.heap.size, [.bool v, .int .u64 h, .int .u64 l, .int .i64 b], 28)] x a g r base us wr (by rw [hn]; exact UP.out) (by have := UL.out; omega) (by rw [hn]; exact S.out))
   have A1 := hide (fun L x a g us W S' => AI.out K u qh ql A M m hq L x a g r base us W S')
   have tr : Hid (∀ W, Below w.heap.size w W → ∀ o v, w.cell? ⟨bo, o, none⟩ = some v → W.cell? ⟨bo, o, none⟩ = some v) := fun W bl o v hh => ((bcell bl).1 _ _ (cell_in hh)).trans hh
   have bl := S.out.kn.bel
   have d0 := tr.out _ bl _ _ e0
   have d1 := tr.out _ bl _ _ e1
   have d2 := tr.out _ bl _ _ e2
   have d3 := tr.out _ bl _ _ e3
   have d4 := tr.out _ bl _ _ e4
   have d5 := tr.out _ bl _ _ e5
   have EE : Hid (w.cell? ⟨bo, oo + i * 6, none⟩ = some (.int .i64 K) ∧ w.cell? ⟨bo, oo + i * 6 + 1, none⟩ = some (.bool u) ∧ w.cell? ⟨bo, oo + i * 6 + 2, none⟩ = some (.int .u64 qh) ∧ w.cell? ⟨bo, oo + i * 6 + 3, none⟩ = some (.int .u64 ql) ∧ w.cell? ⟨bo, oo + i * 6 + 4, none⟩ = some (.int .i64 A) ∧ w.cell? ⟨bo, oo + i * 6 + 5, none⟩ = some (.int .i64 M)) := ⟨e0, e1, e2, e3, e4, e5⟩
   clear hc hq hM0 hM1 e0 e1 e2 e3 e4 e5 ho bl DO AI S F hn
   go_wp2_with fail
   refine D1.out.mono ?_
   rintro e w4 ⟨x2, a2, g2, us2, rfl, hU2, hl2', hS⟩
   have hn := HN.out
   rw [hn] at hU2 hS
   have S4 := hide hS
   have U2 := hide hU2
   have UL2 : Hid (us2.length ≤ i + 1) := by have := UL.out; show _ ≤ _; omega
   have F4 := S4.out.kn.1
   simp only [Facts, CellsAt] at F4
   obtain ⟨u1, qh1, ql1, m1, hm, A2'⟩ := A1.out [(w.heap.size, [.bool v, .int .u64 h, .int .u64 l, .int .i64 b], 28)] x2 a2 g2 us2 w4 (by rw [hn]; exact S4.out)
   rw [hn] at A2'
   have A2 := hide (A2' x2 a2 g2 _ _ _ w4 S4.out)
   have bl := S4.out.kn.bel
   obtain ⟨e0, e1, e2, e3, e4, e5⟩ := EE.out
   have d0 := tr.out _ bl _ _ e0
   have d1 := tr.out _ bl _ _ e1
   have d2 := tr.out _ bl _ _ e2
   have d3 := tr.out _ bl _ _ e3
   have d4 := tr.out _ bl _ _ e4
   have d5 := tr.out _ bl _ _ e5
   clear D1 A1 A2' hS hU2 hl2' bl e0 e1 e2 e3 e4 e5 tr EE UL UP
   go_wp2_with fail
   refine A2.out.mono ?_
   rintro e w5 ⟨rfl, hS⟩
   have S5 := DX.of (hS.push [.bool u1, .int .u64 qh1, .int .u64 ql1] 26 (by decide))
   obtain ⟨C, hC⟩ : ∃ C : Int, ((N : Nat) : Int) - (cnt (usF (lkP v b) N us2) N : Nat) = C := ⟨_, rfl⟩
   have L1 := hide (fun L W S' => LE.out L x2 a2 g2 r base us2 W C (by rw [hn]; exact hC) S')
   have L2 := hide (fun L W S' => LR.out L x2 a2 g2 r base us2 W C (by rw [hn]; exact U2.out) (by have := UL2.out; omega) (by rw [hn]; exact hC) S')
   rw [hn] at L1 L2
   have b0 := S5.1.1
   have b1 := S5.1.2.1
   have b2 := S5.1.2.2
   cases ho : nmP v n b u1 m1 with
   | none =>
    have N1 := hide (fun L W S' => NU.out u1 qh1 ql1 m1 hm L x2 a2 g2 r base (usF (lkP v b) N us2) us2 W (-1) (by rw [ho]; rfl) S')
    have H1 := hide (fun L W S' => HA.out u1 qh1 ql1 m1 hm L x2 a2 g2 r base (usF (lkP v b) N us2) us2 W false (by rw [ho]; rfl) S')
    have M1 := hide (fun L W S' => MA.out u1 qh1 ql1 m1 hm L x2 a2 g2 r base (usF (lkP v b) N us2) us2 W 12 (by rw [ho]; rfl) S')
    rw [hn] at N1 H1 M1
    have N2 := hide (N1.out _ _ S5.2.out)
    clear A2 hS S4 F4 hm hC d0 d1 d2 d3 d4 d5 HA MA NU LE LR ho hn
    go_wp2_with fail
    refine N2.out.mono ?_
    rintro e w6 ⟨rfl, hb6⟩
    have S6 := S5.below hb6
    clear N2 hb6 S5 b0 b1 b2
    go_wp2_with fail
    refine wp_region_held_drew (S := (DX w5.heap.size u1 qh1 ql1 w [(w.heap.size, [.bool v, .int .u64 h, .int .u64 l, .int .i64 b], 28)] v h l b x2 a2 g2 r base N (usF (lkP v b) N us2) us2)) (by kernel_rfl) ?hS100 (fun hHeld => ?rest100)
    case hS100 => with_reducible exact S6.drew
    refine w8 0 ?_ (ga7 rfl) (by kernel_rfl) (fun _ _ _ h => h) ⟨by rfl, ?y101⟩ hHeld ?_
    case y101 => (intro wq hSw; (try simp only [Two, DX] at hSw); go_simp; try with_reducible rfl)
    try simp only [Act.put, a7, b7, c7]
    refine w8 1 ?_ (ga7 rfl) (by kernel_rfl) (fun _ _ _ h => h) ⟨by rfl, ?y102⟩ hHeld ?_
    case y102 => (intro wq hSw; (try simp only [Two, DX] at hSw); go_simp; try with_reducible rfl)
    try simp only [Act.put, a7, b7, c7]
    refine w8 2 ?_ (ga7 rfl) (by kernel_rfl) (fun _ _ _ h => h) ⟨by rfl, ?y103⟩ hHeld ?_
    case y103 => (intro wq hSw; (try simp only [Two, DX] at hSw); go_simp; try with_reducible rfl)
    try simp only [Act.put, a7, b7, c7]
    refine w8 3 ?_ (ga7 rfl) (by kernel_rfl) (fun _ _ _ h => h) ⟨by rfl, ?y104⟩ hHeld ?_
    case y104 => (intro wq hSw; (try simp only [Two, DX] at hSw); go_simp; try with_reducible rfl)
    try simp only [Act.put, a7, b7, c7]
    refine w8 4 ?_ (ga7 rfl) (by kernel_rfl) (fun _ _ _ h => h) ⟨by rfl, ?y105⟩ hHeld ?_
    case y105 => (intro wq hSw; (try simp only [Two, DX] at hSw); go_simp; try with_reducible rfl)
    try simp only [Act.put, a7, b7, c7]
    refine w8 6 ?_ (ga7 rfl) (by kernel_rfl) (fun _ _ _ h => h) ⟨by rfl, ?y106⟩ hHeld ?_
    case y106 => (intro wq hSw; (try simp only [Two, DX] at hSw); go_simp; try with_reducible rfl)
    try simp only [Act.put, a7, b7, c7]
    refine w8 7 ?_ (ga7 rfl) (by kernel_rfl) (fun _ _ _ h => h) ⟨by rfl, ?y107⟩ hHeld ?_
    case y107 => (intro wq hSw; (try simp only [Two, DX] at hSw); go_simp; try with_reducible rfl)
    try simp only [Act.put, a7, b7, c7]
    refine wpAnyH_ready (rs := [5]) (by kernel_rfl) (by simp) ?rdy108
    refine AllReadyH.cons (ga7 rfl) (fun K hK => ?stp108) AllReadyH.nil
    go_simp
    go_wp2_with fail
    (refine (H1.out _ _ hHeld.2.out).mono ?_; rintro e w7 ⟨rfl, hb7⟩)
    go_wp2_with fail
    refine hK.out _ _ ?hSn108 (fun hHeld2 => ?rest108)
    case hSn108 => with_reducible exact hHeld.below hb7
    clear hK K hHeld
    have hHeld := hHeld2
    clear hHeld2
    try simp only [Act.put, a7, b7, c7]
    refine wpAnyH_ready (rs := [8]) (by kernel_rfl) (by simp) ?rdy109
    refine AllReadyH.cons (ga7 rfl) (fun K hK => ?stp109) AllReadyH.nil
    go_simp
    go_wp2_with fail
    (refine (N1.out _ _ hHeld.2.out).mono ?_; rintro e w08 ⟨rfl, hb8⟩)
    go_wp2_with fail
    refine hK.out _ _ ?hSn109 (fun hHeld2 => ?rest109)
    case hSn109 => with_reducible exact hHeld.below hb8
    clear hK K hHeld
    have hHeld := hHeld2
    clear hHeld2
    try simp only [Act.put, a7, b7, c7]
    refine w8 9 ((Value.bool false)) (ga7 rfl) (by kernel_rfl) (fun _ _ _ h => h) ⟨by rfl, ?y110⟩ hHeld ?_
    case y110 => (intro wq hSw; (try simp only [Two, DX] at hSw); go_simp; (all_goals (first | rfl | (simp; done))))
    try simp only [Act.put, a7, b7, c7]
    refine w8 10 ?_ (ga7 rfl) (by kernel_rfl) (fun _ _ _ h => h) ⟨by rfl, ?y111⟩ hHeld ?_
    case y111 => (intro wq hSw; (try simp only [Two, DX] at hSw); go_simp; try with_reducible rfl)
    try simp only [Act.put, a7, b7, c7]
    refine wpAnyH_take (i := 11) (oi := _) (v := undef) (ga7 rfl) (by kernel_rfl) (by kernel_rfl) (by kernel_rfl) (fun _ _ _ h => h) (Or.inr ⟨by rfl, rfl⟩) (by assumption) ?rest112
    try simp only [Act.put, a7, b7, c7]
    refine wpAnyH_take (i := 12) (oi := _) (v := undef) (ga7 rfl) (by kernel_rfl) (by kernel_rfl) (by kernel_rfl) (fun _ _ _ h => h) (Or.inr ⟨by rfl, rfl⟩) (by assumption) ?rest113
    try simp only [Act.put, a7, b7, c7]
    refine wpAnyH_take (i := 13) (oi := _) (v := undef) (ga7 rfl) (by kernel_rfl) (by kernel_rfl) (by kernel_rfl) (fun _ _ _ h => h) (Or.inr ⟨by rfl, rfl⟩) (by assumption) ?rest114
    try simp only [Act.put, a7, b7, c7]
    refine wpAnyH_take (i := 14) (oi := _) (v := undef) (ga7 rfl) (by kernel_rfl) (by kernel_rfl) (by kernel_rfl) (fun _ _ _ h => h) (Or.inr ⟨by rfl, rfl⟩) (by assumption) ?rest115
    try simp only [Act.put, a7, b7, c7]
    refine wpAnyH_take (i := 15) (oi := _) (v := undef) (ga7 rfl) (by kernel_rfl) (by kernel_rfl) (by kernel_rfl) (fun _ _ _ h => h) (Or.inr ⟨by rfl, rfl⟩) (by assumption) ?rest116
    try simp only [Act.put, a7, b7, c7]
    refine w8 16 ?_ (ga7 rfl) (by kernel_rfl) (fun _ _ _ h => h) ⟨by rfl, ?y117⟩ hHeld ?_
    case y117 => (intro wq hSw; (try simp only [Two, DX] at hSw); go_simp; try with_reducible rfl)
    try simp only [Act.put, a7, b7, c7]
    refine w8 17 ((Value.bool false)) (ga7 rfl) (by kernel_rfl) (fun _ _ _ h => h) ⟨by rfl, ?y118⟩ hHeld ?_
    case y118 => (intro wq hSw; (try simp only [Two, DX] at hSw); go_simp; (all_goals (first | rfl | (simp; done))))
    try simp only [Act.put, a7, b7, c7]
    refine w8 18 ?_ (ga7 rfl) (by kernel_rfl) (fun _ _ _ h => h) ⟨by rfl, ?y119⟩ hHeld ?_
    case y119 => (intro wq hSw; (try simp only [Two, DX] at hSw); go_simp; try with_reducible rfl)
    try simp only [Act.put, a7, b7, c7]
    refine w8 19 ?_ (ga7 rfl) (by kernel_rfl) (fun _ _ _ h => h) ⟨by rfl, ?y120⟩ hHeld ?_
    case y120 => (intro wq hSw; (try simp only [Two, DX] at hSw); go_simp; try with_reducible rfl)
    try simp only [Act.put, a7, b7, c7]
    refine w8 20 ?_ (ga7 rfl) (by kernel_rfl) (fun _ _ _ h => h) ⟨by rfl, ?y121⟩ hHeld ?_
    case y121 => (intro wq hSw; (try simp only [Two, DX] at hSw); go_simp; try with_reducible rfl)
    try simp only [Act.put, a7, b7, c7]
    refine w8 21 ?_ (ga7 rfl) (by kernel_rfl) (fun _ _ _ h => h) ⟨by rfl, ?y122⟩ hHeld ?_
    case y122 => (intro wq hSw; (try simp only [Two, DX] at hSw); go_simp; try with_reducible rfl)
    try simp only [Act.put, a7, b7, c7]
    refine w8 23 ?_ (ga7 rfl) (by kernel_rfl) (fun _ _ _ h => h) ⟨by rfl, ?y123⟩ hHeld ?_
    case y123 => (intro wq hSw; (try simp only [Two, DX] at hSw); go_simp; try with_reducible rfl)
    try simp only [Act.put, a7, b7, c7]
    refine wpAnyH_ready (rs := [22]) (by kernel_rfl) (by simp) ?rdy124
    refine AllReadyH.cons (ga7 rfl) (fun K hK => ?stp124) AllReadyH.nil
    go_simp
    go_wp2_with fail
    (refine (M1.out _ _ hHeld.2.out).mono ?_; rintro e w9 ⟨rfl, hb9⟩)
    go_wp2_with fail
    refine hK.out _ _ ?hSn124 (fun hHeld2 => ?rest124)
    case hSn124 => with_reducible exact hHeld.below hb9
    clear hK K hHeld
    have hHeld := hHeld2
    clear hHeld2
    try simp only [Act.put, a7, b7, c7]
    refine w8 24 ((Value.bool false)) (ga7 rfl) (by kernel_rfl) (fun _ _ _ h => h) ⟨by rfl, ?y125⟩ hHeld ?_
    case y125 => (intro wq hSw; (try simp only [Two, DX] at hSw); go_simp; (all_goals (first | rfl | (simp; done))))
    try simp only [Act.put, a7, b7, c7]
    refine w8 25 ?_ (ga7 rfl) (by kernel_rfl) (fun _ _ _ h => h) ⟨by rfl, ?y126⟩ hHeld ?_
    case y126 => (intro wq hSw; (try simp only [Two, DX] at hSw); go_simp; try with_reducible rfl)
    try simp only [Act.put, a7, b7, c7]
    refine w8 26 ?_ (ga7 rfl) (by kernel_rfl) (fun _ _ _ h => h) ⟨by rfl, ?y127⟩ hHeld ?_
    case y127 => (intro wq hSw; (try simp only [Two, DX] at hSw); go_simp; try with_reducible rfl)
    try simp only [Act.put, a7, b7, c7]
    refine w8 27 ?_ (ga7 rfl) (by kernel_rfl) (fun _ _ _ h => h) ⟨by rfl, ?y128⟩ hHeld ?_
    case y128 => (intro wq hSw; (try simp only [Two, DX] at hSw); go_simp; try with_reducible rfl)
    try simp only [Act.put, a7, b7, c7]
    refine w8 29 ?_ (ga7 rfl) (by kernel_rfl) (fun _ _ _ h => h) ⟨by rfl, ?y129⟩ hHeld ?_
    case y129 => (intro wq hSw; (try simp only [Two, DX] at hSw); go_simp; try with_reducible rfl)
    try simp only [Act.put, a7, b7, c7]
    refine wpAnyH_ready (rs := [28]) (by kernel_rfl) (by simp) ?rdy130
    refine AllReadyH.cons (ga7 rfl) (fun K hK => ?stp130) AllReadyH.nil
    go_simp
    go_wp2_with fail
    (refine (L1.out _ _ hHeld.2.out).mono ?_; rintro e w10 ⟨rfl, hb10⟩)
    go_wp2_with fail
    refine hK.out _ _ ?hSn130 (fun hHeld2 => ?rest130)
    case hSn130 => with_reducible exact hHeld.below hb10
    clear hK K hHeld
    have hHeld := hHeld2
    clear hHeld2
    try simp only [Act.put, a7, b7, c7]
    refine wpAnyH_ready (rs := [30]) (by kernel_rfl) (by simp) ?rdy131
    refine AllReadyH.cons (ga7 rfl) (fun K hK => ?stp131) AllReadyH.nil
    go_simp
    go_wp2_with fail
    (refine (L2.out _ _ hHeld.2.out).mono ?_; rintro e w11 ⟨rfl, hb11⟩)
    go_wp2_with fail
    refine hK.out _ _ ?hSn131 (fun hHeld2 => ?rest131)
    case hSn131 => with_reducible exact hHeld.below hb11
    clear hK K hHeld
    have hHeld := hHeld2
    clear hHeld2
    try simp only [Act.put, a7, b7, c7]
    refine w8 31 ((Value.bool false)) (ga7 rfl) (by kernel_rfl) (fun _ _ _ h => h) ⟨by rfl, ?y132⟩ hHeld ?_
    case y132 => (intro wq hSw; (try simp only [Two, DX] at hSw); go_simp; (all_goals (first | rfl | (simp; done))))
    try simp only [Act.put, a7, b7, c7]
    refine w8 32 ?_ (ga7 rfl) (by kernel_rfl) (fun _ _ _ h => h) ⟨by rfl, ?y133⟩ hHeld ?_
    case y133 => (intro wq hSw; (try simp only [Two, DX] at hSw); go_simp; try with_reducible rfl)
    try simp only [Act.put, a7, b7, c7]
    refine wpAnyH_done (by kernel_rfl) ?fin100 _
    have S12 := hide hHeld.2.out.tail
    clear hHeld S6 H1 N1 M1 L1 L2 hb7 hb8 hb9 hb10 hb11
    go_wp2
    go_roundw
    case rel => exact ⟨i + 1, x2, a2, g2, us2, by omega, by omega, by go_num, rfl, UL2, U2, S12⟩
    case measure => simp [intOf]; omega
   | some k =>
    obtain ⟨_, _, hkN, hkk⟩ := nmP_some ho
    rw [hn] at hkN hkk
    obtain ⟨T, hT⟩ : ∃ T : Bool, decide (k ∈ us2) = T := ⟨_, rfl⟩
    have N1 := hide (fun L W S' => NU.out u1 qh1 ql1 m1 hm L x2 a2 g2 r base (usF (lkP v b) N us2) us2 W (k : Int) (by rw [ho]; rfl) S')
    have H1 := hide (fun L W S' => HA.out u1 qh1 ql1 m1 hm L x2 a2 g2 r base (usF (lkP v b) N us2) us2 W T (by rw [ho, has_is hkk, hT]) S')
    have M1 := hide (fun L W S' => MA.out u1 qh1 ql1 m1 hm L x2 a2 g2 r base (usF (lkP v b) N us2) us2 W 0 (by rw [ho]; rfl) S')
    rw [hn] at N1 H1 M1
    have R1 := hide (fun L W (S' : PPt w L v h l b x2 a2 g2 r base N (usF (lkP v b) N us2) us2 W) => has_r6 hT (by have := UL2.out; omega) S')
    have k0 : (0 : Int) ≤ (k : Int) := by omega
    obtain ⟨kz, hkz⟩ : ∃ kz : Int, (k : Int) = kz := ⟨_, rfl⟩
    rw [hkz] at N1 R1 k0
    have k1 : ¬ kz < 0 := by omega
    have N2 := hide (N1.out _ _ S5.2.out)
    clear hkz
    clear A2 hS S4 F4 hm hC d0 d1 d2 d3 d4 d5 HA MA NU LE LR ho hn hT hkN hkk
    go_wp2_with fail
    refine N2.out.mono ?_
    rintro e w6 ⟨rfl, hb6⟩
    have S6 := S5.below hb6
    clear N2 hb6 S5 b0 b1 b2
    go_wp2_with fail
    refine wp_region_held_drew (S := (DX w5.heap.size u1 qh1 ql1 w [(w.heap.size, [.bool v, .int .u64 h, .int .u64 l, .int .i64 b], 28)] v h l b x2 a2 g2 r base N (usF (lkP v b) N us2) us2)) (by kernel_rfl) ?hS200 (fun hHeld => ?rest200)
    case hS200 => with_reducible exact S6.drew
    refine w8 0 ?_ (ga7 rfl) (by kernel_rfl) (fun _ _ _ h => h) ⟨by rfl, ?y201⟩ hHeld ?_
    case y201 => (intro wq hSw; (try simp only [Two, DX] at hSw); go_simp; try with_reducible rfl)
    try simp only [Act.put, a7, b7, c7]
    refine w8 1 ?_ (ga7 rfl) (by kernel_rfl) (fun _ _ _ h => h) ⟨by rfl, ?y202⟩ hHeld ?_
    case y202 => (intro wq hSw; (try simp only [Two, DX] at hSw); go_simp; try with_reducible rfl)
    try simp only [Act.put, a7, b7, c7]
    refine w8 2 ?_ (ga7 rfl) (by kernel_rfl) (fun _ _ _ h => h) ⟨by rfl, ?y203⟩ hHeld ?_
    case y203 => (intro wq hSw; (try simp only [Two, DX] at hSw); go_simp; try with_reducible rfl)
    try simp only [Act.put, a7, b7, c7]
    refine w8 3 ?_ (ga7 rfl) (by kernel_rfl) (fun _ _ _ h => h) ⟨by rfl, ?y204⟩ hHeld ?_
    case y204 => (intro wq hSw; (try simp only [Two, DX] at hSw); go_simp; try with_reducible rfl)
    try simp only [Act.put, a7, b7, c7]
    refine w8 4 ?_ (ga7 rfl) (by kernel_rfl) (fun _ _ _ h => h) ⟨by rfl, ?y205⟩ hHeld ?_
    case y205 => (intro wq hSw; (try simp only [Two, DX] at hSw); go_simp; try with_reducible rfl)
    try simp only [Act.put, a7, b7, c7]
    refine w8 6 ?_ (ga7 rfl) (by kernel_rfl) (fun _ _ _ h => h) ⟨by rfl, ?y206⟩ hHeld ?_
    case y206 => (intro wq hSw; (try simp only [Two, DX] at hSw); go_simp; try with_reducible rfl)
    try simp only [Act.put, a7, b7, c7]
    refine w8 7 ?_ (ga7 rfl) (by kernel_rfl) (fun _ _ _ h => h) ⟨by rfl, ?y207⟩ hHeld ?_
    case y207 => (intro wq hSw; (try simp only [Two, DX] at hSw); go_simp; try with_reducible rfl)
    try simp only [Act.put, a7, b7, c7]
    refine wpAnyH_ready (rs := [5]) (by kernel_rfl) (by simp) ?rdy208
    refine AllReadyH.cons (ga7 rfl) (fun K hK => ?stp208) AllReadyH.nil
    go_simp
    go_wp2_with fail
    (refine (H1.out _ _ hHeld.2.out).mono ?_; rintro e w7 ⟨rfl, hb7⟩)
    go_wp2_with fail
    refine hK.out _ _ ?hSn208 (fun hHeld2 => ?rest208)
    case hSn208 => with_reducible exact hHeld.below hb7
    clear hK K hHeld
    have hHeld := hHeld2
    clear hHeld2
    try simp only [Act.put, a7, b7, c7]
    refine wpAnyH_ready (rs := [8]) (by kernel_rfl) (by simp) ?rdy209
    refine AllReadyH.cons (ga7 rfl) (fun K hK => ?stp209) AllReadyH.nil
    go_simp
    go_wp2_with fail
    (refine (N1.out _ _ hHeld.2.out).mono ?_; rintro e w08 ⟨rfl, hb8⟩)
    go_wp2_with fail
    refine hK.out _ _ ?hSn209 (fun hHeld2 => ?rest209)
    case hSn209 => with_reducible exact hHeld.below hb8
    clear hK K hHeld
    have hHeld := hHeld2
    clear hHeld2
    try simp only [Act.put, a7, b7, c7]
    refine w8 9 ((Value.bool true)) (ga7 rfl) (by kernel_rfl) (fun _ _ _ h => h) ⟨by rfl, ?y210⟩ hHeld ?_
    case y210 => (intro wq hSw; (try simp only [Two, DX] at hSw); go_simp; (all_goals (first | rfl | (simp; done) | (simp; omega))))
    try simp only [Act.put, a7, b7, c7]
    refine w8 10 ?_ (ga7 rfl) (by kernel_rfl) (fun _ _ _ h => h) ⟨by rfl, ?y211⟩ hHeld ?_
    case y211 => (intro wq hSw; (try simp only [Two, DX] at hSw); go_simp; try with_reducible rfl)
    try simp only [Act.put, a7, b7, c7]
    refine w8 11 ?_ (ga7 rfl) (by kernel_rfl) (fun _ _ _ h => h) ⟨by rfl, ?y212⟩ hHeld ?_
    case y212 => (intro wq hSw; (try simp only [Two, DX] at hSw); go_simp; try with_reducible rfl)
    try simp only [Act.put, a7, b7, c7]
    refine w8 12 ?_ (ga7 rfl) (by kernel_rfl) (fun _ _ _ h => h) ⟨by rfl, ?y213⟩ hHeld ?_
    case y213 => (intro wq hSw; (try simp only [Two, DX] at hSw); go_simp; try with_reducible rfl)
    try simp only [Act.put, a7, b7, c7]
    refine w8 13 ?_ (ga7 rfl) (by kernel_rfl) (fun _ _ _ h => h) ⟨by rfl, ?y214⟩ hHeld ?_
    case y214 => (intro wq hSw; (try simp only [Two, DX] at hSw); go_simp; try with_reducible rfl)
    try simp only [Act.put, a7, b7, c7]
    refine wpAnyH_ready (rs := [14]) (by kernel_rfl) (by simp) ?rdy215
    refine AllReadyH.cons (ga7 rfl) (fun K hK => ?stp215) AllReadyH.nil
    go_simp
    go_wp2_with fail
    (refine (N1.out _ _ hHeld.2.out).mono ?_; rintro e w08 ⟨rfl, hb8⟩)
    go_wp2_with fail
    refine hK.out _ _ ?hSn215 (fun hHeld2 => ?rest215)
    case hSn215 => with_reducible exact hHeld.below hb8
    clear hK K hHeld
    have hHeld := hHeld2
    clear hHeld2
    try simp only [Act.put, a7, b7, c7]
    refine wpAnyH_ready (rs := [15]) (by kernel_rfl) (by simp) ?rdy216
    refine AllReadyH.cons (ga7 rfl) (fun K hK => ?stp216) AllReadyH.nil
    go_simp
    go_wp2_with fail
    (refine (R1.out _ _ hHeld.2.out).mono ?_; rintro e w12 ⟨rfl, rfl⟩)
    go_wp2_with fail
    refine hK.out _ _ ?hSn216 (fun hHeld2 => ?rest216)
    case hSn216 => (first | with_reducible exact S6.drew | with_reducible exact hHeld)
    clear hK K hHeld
    have hHeld := hHeld2
    clear hHeld2
    try simp only [Act.put, a7, b7, c7]
    refine w8 16 ?_ (ga7 rfl) (by kernel_rfl) (fun _ _ _ h => h) ⟨by rfl, ?y217⟩ hHeld ?_
    case y217 => (intro wq hSw; (try simp only [Two, DX] at hSw); go_simp; try with_reducible rfl)
    try simp only [Act.put, a7, b7, c7]
    refine w8 17 ((Value.bool false)) (ga7 rfl) (by kernel_rfl) (fun _ _ _ h => h) ⟨by rfl, ?y218⟩ hHeld ?_
    case y218 => (intro wq hSw; (try simp only [Two, DX] at hSw); go_simp; (all_goals (first | rfl | (simp; done))))
    try simp only [Act.put, a7, b7, c7]
    refine w8 18 ?_ (ga7 rfl) (by kernel_rfl) (fun _ _ _ h => h) ⟨by rfl, ?y219⟩ hHeld ?_
    case y219 => (intro wq hSw; (try simp only [Two, DX] at hSw); go_simp; try with_reducible rfl)
    try simp only [Act.put, a7, b7, c7]
    refine w8 19 ?_ (ga7 rfl) (by kernel_rfl) (fun _ _ _ h => h) ⟨by rfl, ?y220⟩ hHeld ?_
    case y220 => (intro wq hSw; (try simp only [Two, DX] at hSw); go_simp; try with_reducible rfl)
    try simp only [Act.put, a7, b7, c7]
    refine w8 20 ?_ (ga7 rfl) (by kernel_rfl) (fun _ _ _ h => h) ⟨by rfl, ?y221⟩ hHeld ?_
    case y221 => (intro wq hSw; (try simp only [Two, DX] at hSw); go_simp; try with_reducible rfl)
    try simp only [Act.put, a7, b7, c7]
    refine w8 21 ?_ (ga7 rfl) (by kernel_rfl) (fun _ _ _ h => h) ⟨by rfl, ?y222⟩ hHeld ?_
    case y222 => (intro wq hSw; (try simp only [Two, DX] at hSw); go_simp; try with_reducible rfl)
    try simp only [Act.put, a7, b7, c7]
    refine w8 23 ?_ (ga7 rfl) (by kernel_rfl) (fun _ _ _ h => h) ⟨by rfl, ?y223⟩ hHeld ?_
    case y223 => (intro wq hSw; (try simp only [Two, DX] at hSw); go_simp; try with_reducible rfl)
    try simp only [Act.put, a7, b7, c7]
    refine wpAnyH_ready (rs := [22]) (by kernel_rfl) (by simp) ?rdy224
    refine AllReadyH.cons (ga7 rfl) (fun K hK => ?stp224) AllReadyH.nil
    go_simp
    go_wp2_with fail
    (refine (M1.out _ _ hHeld.2.out).mono ?_; rintro e w9 ⟨rfl, hb9⟩)
    go_wp2_with fail
    refine hK.out _ _ ?hSn224 (fun hHeld2 => ?rest224)
    case hSn224 => with_reducible exact hHeld.below hb9
    clear hK K hHeld
    have hHeld := hHeld2
    clear hHeld2
    try simp only [Act.put, a7, b7, c7]
    refine w8 24 ((Value.bool false)) (ga7 rfl) (by kernel_rfl) (fun _ _ _ h => h) ⟨by rfl, ?y225⟩ hHeld ?_
    case y225 => (intro wq hSw; (try simp only [Two, DX] at hSw); go_simp; (all_goals (first | rfl | (simp; done))))
    try simp only [Act.put, a7, b7, c7]
    refine w8 25 ?_ (ga7 rfl) (by kernel_rfl) (fun _ _ _ h => h) ⟨by rfl, ?y226⟩ hHeld ?_
    case y226 => (intro wq hSw; (try simp only [Two, DX] at hSw); go_simp; try with_reducible rfl)
    try simp only [Act.put, a7, b7, c7]
    refine w8 26 ?_ (ga7 rfl) (by kernel_rfl) (fun _ _ _ h => h) ⟨by rfl, ?y227⟩ hHeld ?_
    case y227 => (intro wq hSw; (try simp only [Two, DX] at hSw); go_simp; try with_reducible rfl)
    try simp only [Act.put, a7, b7, c7]
    refine w8 27 ?_ (ga7 rfl) (by kernel_rfl) (fun _ _ _ h => h) ⟨by rfl, ?y228⟩ hHeld ?_
    case y228 => (intro wq hSw; (try simp only [Two, DX] at hSw); go_simp; try with_reducible rfl)
    try simp only [Act.put, a7, b7, c7]
    refine w8 29 ?_ (ga7 rfl) (by kernel_rfl) (fun _ _ _ h => h) ⟨by rfl, ?y229⟩ hHeld ?_
    case y229 => (intro wq hSw; (try simp only [Two, DX] at hSw); go_simp; try with_reducible rfl)
    try simp only [Act.put, a7, b7, c7]
    refine wpAnyH_ready (rs := [28]) (by kernel_rfl) (by simp) ?rdy230
    refine AllReadyH.cons (ga7 rfl) (fun K hK => ?stp230) AllReadyH.nil
    go_simp
    go_wp2_with fail
    (refine (L1.out _ _ hHeld.2.out).mono ?_; rintro e w10 ⟨rfl, hb10⟩)
    go_wp2_with fail
    refine hK.out _ _ ?hSn230 (fun hHeld2 => ?rest230)
    case hSn230 => with_reducible exact hHeld.below hb10
    clear hK K hHeld
    have hHeld := hHeld2
    clear hHeld2
    try simp only [Act.put, a7, b7, c7]
    refine wpAnyH_ready (rs := [30]) (by kernel_rfl) (by simp) ?rdy231
    refine AllReadyH.cons (ga7 rfl) (fun K hK => ?stp231) AllReadyH.nil
    go_simp
    go_wp2_with fail
    (refine (L2.out _ _ hHeld.2.out).mono ?_; rintro e w11 ⟨rfl, hb11⟩)
    go_wp2_with fail
    refine hK.out _ _ ?hSn231 (fun hHeld2 => ?rest231)
    case hSn231 => with_reducible exact hHeld.below hb11
    clear hK K hHeld
    have hHeld := hHeld2
    clear hHeld2
    try simp only [Act.put, a7, b7, c7]
    refine w8 31 ((Value.bool false)) (ga7 rfl) (by kernel_rfl) (fun _ _ _ h => h) ⟨by rfl, ?y232⟩ hHeld ?_
    case y232 => (intro wq hSw; (try simp only [Two, DX] at hSw); go_simp; (all_goals (first | rfl | (simp; done))))
    try simp only [Act.put, a7, b7, c7]
    refine w8 32 ?_ (ga7 rfl) (by kernel_rfl) (fun _ _ _ h => h) ⟨by rfl, ?y233⟩ hHeld ?_
    case y233 => (intro wq hSw; (try simp only [Two, DX] at hSw); go_simp; try with_reducible rfl)
    try simp only [Act.put, a7, b7, c7]
    refine wpAnyH_done (by kernel_rfl) ?fin200 _
    have S12 := hide hHeld.2.out.tail
    clear hHeld S6 H1 N1 M1 L1 L2 R1 hb7 hb8 hb9 hb10 hb11
    go_wp2
    go_roundw
    case rel => exact ⟨i + 1, x2, a2, g2, us2, by omega, by omega, by go_num, rfl, UL2, U2, S12⟩
    case measure => simp [intOf]; omega
  ·have hstop : ((decide ((i : Int) < (len : Int))) && decide ((i : Int) < 60)) = false := by
    by_cases c1 : i < len
    ·rw [decide_eq_false (show ¬ (i : Int) < 60 by omega), Bool.and_false]
    ·rw [decide_eq_false (show ¬ (i : Int) < (len : Int) by omega), Bool.false_and]
   have hn := HN.out
   have U2 := hide (US.out x a g us wr (by rw [hn]; exact UP.out) (by rw [hn]; exact S.out.p))
   obtain ⟨qr, cr, hru⟩ := ru_of S.out
   obtain ⟨o1, o2⟩ := OT.out us (by rw [hn]; exact UP.out)
   have SR : ∀ gs, upL (fun p => decide (p ∈ us)) N = gs → ∀ (j : Nat) (h : j + 1 < gs.length), gs[j] < gs[j + 1] := by
    intro gs e
    subst e
    exact upL_sorted (fun p => decide (p ∈ us)) N
   have LT : ∀ i ∈ upL (fun p => decide (p ∈ us)) N, i < N ∧ decide (i ∈ us) = true ∧ kpF (lkP v b) N i = false := fun i hi => by
    have q := upL_lt (fun p => decide (p ∈ us)) N i hi
    exact ⟨q.1, q.2, UP.out.fr i (of_decide_eq_true q.2)⟩
   have ps := PS.out us (by rw [hn]; exact UP.out)
   rw [hn] at U2 o1 o2 ps
   have PB1 := hide (fun w' (hb : Below w.heap.size w w') (P' : PoAt w' v h l b x a g N (usF (lkP v b) N us)) => PB.out x a g us w' hb (by rw [hn]; exact P'))
   have RB1 := hide (fun w' (P' : RpAt w' base v h l b r N us) => RB.out base r us w' (by rw [hn]; exact UP.out) (by have := UL.out; omega) (by rw [hn]; exact P'))
   rw [hn] at PB1 RB1
   rw [ps] at PB1
   obtain ⟨D, hD⟩ : ∃ D, prP v n b ++ ⟨#[0]⟩ ++ bytesS N (fun p => decide (p ∈ us)) = D := ⟨_, rfl⟩
   rw [hD] at PB1 RB1
   have NU1 := hide (fun (ah al : Int) (m : Nat) (ha : IsNum ah al m) L f W V (hV : nmR (nmP v n b v m) = V) (S' : PPt w L v h l b x a g r base N f us W) => NU.out v ah al m ha L x a g r base f us W V hV (by rw [hn]; exact S'))
   have US6 := UL.out
   have hus : us.length ≤ 1000 := by omega
   obtain ⟨gs, hgs⟩ : ∃ gs, upL (fun p => decide (p ∈ us)) N = gs := ⟨_, rfl⟩
   have SR1 := hide (SR gs hgs)
   rw [hgs] at U2 o1 LT
   have gl : us.length = gs.length := by omega
   rw [gl] at hru
   have gM : (gs.length : Int) ≤ 60 := by omega
   have LT1 := hide LT
   have HUS := hide hus
   clear DO AI HA MA NU LE LR US PB RB PS OT SR LT AC ps hD hgs gl o1 o2 UL UP US6 hus hn
   rcases (show (¬ (i : Int) < len) ∨ ((i : Int) < len ∧ ¬ (i : Int) < 60) by omega) with hl1 | ⟨hl1, hl2⟩
   ·clear hlt hstop
    go_wp2_with fail
    refine U2.out.mono ?_
    rintro e w4 ⟨uv, rfl, ho, hb⟩
    have Y0 := YP.of (S.out.below hb) (((bcell hb).1 _ _ S.out.rr.lt).trans hru) ho
    obtain ⟨xq, cq, huv⟩ : ∃ xq cq, uv = .slice xq gs.length cq := by
     rcases ho.2 with ⟨h1, h2⟩ | ⟨g', cp, cur, h1, _⟩
     ·exact ⟨none, 0, by rw [h1, h2]⟩
     ·exact ⟨some ⟨g', 0, none⟩, cp, h1⟩
    subst huv
    clear U2 hb ho S F hru hi hi60
    go_wp2_with fail
    refine wp_region_held_drew (S := (YP w v h l b x a g r base N (usF (lkP v b) N us) us (.slice qr gs.length cr) wr.heap.size n (.slice xq gs.length cq) gs)) (by kernel_rfl) ?hS300 (fun hHeld => ?rest300)
    case hS300 => with_reducible exact Y0.drew
    refine w8 0 ?_ (ga7 rfl) (by kernel_rfl) (fun _ _ _ h => h) ⟨by rfl, ?y301⟩ hHeld ?_
    case y301 => (intro wq hSw; (try simp only [Two, YP] at hSw); go_simp; try with_reducible rfl)
    try simp only [Act.put, a7, b7, c7]
    refine w8 1 ?_ (ga7 rfl) (by kernel_rfl) (fun _ _ _ h => h) ⟨by rfl, ?y302⟩ hHeld ?_
    case y302 => (intro wq hSw; (try simp only [Two, YP] at hSw); go_simp; try with_reducible rfl)
    try simp only [Act.put, a7, b7, c7]
    refine w8 2 ?_ (ga7 rfl) (by kernel_rfl) (fun _ _ _ h => h) ⟨by rfl, ?y303⟩ hHeld ?_
    case y303 => (intro wq hSw; (try simp only [Two, YP] at hSw); go_simp; try with_reducible rfl)
    try simp only [Act.put, a7, b7, c7]
    refine w8 3 ?_ (ga7 rfl) (by kernel_rfl) (fun _ _ _ h => h) ⟨by rfl, ?y304⟩ hHeld ?_
    case y304 => (intro wq hSw; (try simp only [Two, YP] at hSw); go_simp; try with_reducible rfl)
    try simp only [Act.put, a7, b7, c7]
    refine w8 4 ?_ (ga7 rfl) (by kernel_rfl) (fun _ _ _ h => h) ⟨by rfl, ?y305⟩ hHeld ?_
    case y305 => (intro wq hSw; (try simp only [Two, YP] at hSw); go_simp; try with_reducible rfl)
    try simp only [Act.put, a7, b7, c7]
    refine w8 5 ?_ (ga7 rfl) (by kernel_rfl) (fun _ _ _ h => h) ⟨by rfl, ?y306⟩ hHeld ?_
    case y306 => (intro wq hSw; (try simp only [Two, YP] at hSw); go_simp; try with_reducible rfl)
    try simp only [Act.put, a7, b7, c7]
    refine w8 6 ?_ (ga7 rfl) (by kernel_rfl) (fun _ _ _ h => h) ⟨by rfl, ?y307⟩ hHeld ?_
    case y307 => (intro wq hSw; (try simp only [Two, YP] at hSw); go_simp; try with_reducible rfl)
    try simp only [Act.put, a7, b7, c7]
    refine w8 7 ((Value.bool false)) (ga7 rfl) (by kernel_rfl) (fun _ _ _ h => h) ⟨by rfl, ?y308⟩ hHeld ?_
    case y308 => (intro wq hSw; (try simp only [Two, YP] at hSw); go_simp; (all_goals (first | rfl | (simp; done))))
    try simp only [Act.put, a7, b7, c7]
    refine w8 8 ?_ (ga7 rfl) (by kernel_rfl) (fun _ _ _ h => h) ⟨by rfl, ?y309⟩ hHeld ?_
    case y309 => (intro wq hSw; (try simp only [Two, YP] at hSw); go_simp; try with_reducible rfl)
    try simp only [Act.put, a7, b7, c7]
    refine w8 9 ?_ (ga7 rfl) (by kernel_rfl) (fun _ _ _ h => h) ⟨by rfl, ?y310⟩ hHeld ?_
    case y310 => (intro wq hSw; (try simp only [Two, YP] at hSw); go_simp; try with_reducible rfl)
    try simp only [Act.put, a7, b7, c7]
    refine w8 11 ?_ (ga7 rfl) (by kernel_rfl) (fun _ _ _ h => h) ⟨by rfl, ?y311⟩ hHeld ?_
    case y311 => (intro wq hSw; (try simp only [Two, YP] at hSw); go_simp; try with_reducible rfl)
    try simp only [Act.put, a7, b7, c7]
    refine wpAnyH_ready (rs := [10]) (by kernel_rfl) (by simp) ?rdy312
    refine AllReadyH.cons (ga7 rfl) (fun K hK => ?stp312) AllReadyH.nil
    go_simp
    go_wp2_with fail
    (refine (psize_c _ hHeld.2.out.1.p).mono ?_; rintro e w6 ⟨rfl, rfl⟩)
    go_wp2_with fail
    refine hK.out _ _ ?hSn312 (fun hHeld2 => ?rest312)
    case hSn312 => (first | with_reducible exact Y0.drew | with_reducible exact hHeld)
    clear hK K hHeld
    have hHeld := hHeld2
    clear hHeld2
    try simp only [Act.put, a7, b7, c7]
    refine w8 12 ((Value.bool false)) (ga7 rfl) (by kernel_rfl) (fun _ _ _ h => h) ⟨by rfl, ?y313⟩ hHeld ?_
    case y313 => (intro wq hSw; (try simp only [Two, YP] at hSw); go_simp; (all_goals (first | rfl | (simp; done))))
    try simp only [Act.put, a7, b7, c7]
    refine w8 13 ?_ (ga7 rfl) (by kernel_rfl) (fun _ _ _ h => h) ⟨by rfl, ?y314⟩ hHeld ?_
    case y314 => (intro wq hSw; (try simp only [Two, YP] at hSw); go_simp; try with_reducible rfl)
    try simp only [Act.put, a7, b7, c7]
    refine w8 14 ?_ (ga7 rfl) (by kernel_rfl) (fun _ _ _ h => h) ⟨by rfl, ?y315⟩ hHeld ?_
    case y315 => (intro wq hSw; (try simp only [Two, YP] at hSw); go_simp; try with_reducible rfl)
    try simp only [Act.put, a7, b7, c7]
    refine w8 15 ?_ (ga7 rfl) (by kernel_rfl) (fun _ _ _ h => h) ⟨by rfl, ?y316⟩ hHeld ?_
    case y316 => (intro wq hSw; (try simp only [Two, YP] at hSw); go_simp; try with_reducible rfl)
    try simp only [Act.put, a7, b7, c7]
    refine w8 17 ?_ (ga7 rfl) (by kernel_rfl) (fun _ _ _ h => h) ⟨by rfl, ?y317⟩ hHeld ?_
    case y317 => (intro wq hSw; (try simp only [Two, YP] at hSw); go_simp; try with_reducible rfl)
    try simp only [Act.put, a7, b7, c7]
    refine wpAnyH_ready (rs := [16]) (by kernel_rfl) (by simp) ?rdy318
    refine AllReadyH.cons (ga7 rfl) (fun K hK => ?stp318) AllReadyH.nil
    go_simp
    go_wp2_with fail
    (refine (poPrefix_c _ hHeld.2.out.1.p).mono ?_; rintro e w7 ⟨rfl, hb7⟩)
    go_wp2_with fail
    refine hK.out _ _ ?hSn318 (fun hHeld2 => ?rest318)
    case hSn318 => with_reducible exact hHeld.below hb7
    clear hK K hHeld
    have hHeld := hHeld2
    clear hHeld2
    try simp only [Act.put, a7, b7, c7]
    refine w8 18 ((Value.bool false)) (ga7 rfl) (by kernel_rfl) (fun _ _ _ h => h) ⟨by rfl, ?y319⟩ hHeld ?_
    case y319 => (intro wq hSw; (try simp only [Two, YP] at hSw); go_simp; (all_goals (first | rfl | (simp; done))))
    try simp only [Act.put, a7, b7, c7]
    refine w8 19 ?_ (ga7 rfl) (by kernel_rfl) (fun _ _ _ h => h) ⟨by rfl, ?y320⟩ hHeld ?_
    case y320 => (intro wq hSw; (try simp only [Two, YP] at hSw); go_simp; try with_reducible rfl)
    try simp only [Act.put, a7, b7, c7]
    refine w8 20 ?_ (ga7 rfl) (by kernel_rfl) (fun _ _ _ h => h) ⟨by rfl, ?y321⟩ hHeld ?_
    case y321 => (intro wq hSw; (try simp only [Two, YP] at hSw); go_simp; try with_reducible rfl)
    try simp only [Act.put, a7, b7, c7]
    refine w8 21 ?_ (ga7 rfl) (by kernel_rfl) (fun _ _ _ h => h) ⟨by rfl, ?y322⟩ hHeld ?_
    case y322 => (intro wq hSw; (try simp only [Two, YP] at hSw); go_simp; try with_reducible rfl)
    try simp only [Act.put, a7, b7, c7]
    refine w8 23 ?_ (ga7 rfl) (by kernel_rfl) (fun _ _ _ h => h) ⟨by rfl, ?y323⟩ hHeld ?_
    case y323 => (intro wq hSw; (try simp only [Two, YP] at hSw); go_simp; try with_reducible rfl)
    try simp only [Act.put, a7, b7, c7]
    refine wpAnyH_ready (rs := [22]) (by kernel_rfl) (by simp) ?rdy324
    refine AllReadyH.cons (ga7 rfl) (fun K hK => ?stp324) AllReadyH.nil
    go_simp
    go_wp2_with fail
    (refine (PB1.out _ hHeld.2.out.1.kn.bel hHeld.2.out.1.p).mono ?_; rintro e w08 ⟨rfl, hb8⟩)
    go_wp2_with fail
    refine hK.out _ _ ?hSn324 (fun hHeld2 => ?rest324)
    case hSn324 => with_reducible exact hHeld.below hb8
    clear hK K hHeld
    have hHeld := hHeld2
    clear hHeld2
    try simp only [Act.put, a7, b7, c7]
    refine wpAnyH_ready (rs := [24]) (by kernel_rfl) (by simp) ?rdy325
    refine AllReadyH.cons (ga7 rfl) (fun K hK => ?stp325) AllReadyH.nil
    go_simp
    go_wp2_with fail
    (refine (RB1.out _ hHeld.2.out.1.rr).mono ?_; rintro e w9 ⟨rfl, hb9⟩)
    go_wp2_with fail
    refine hK.out _ _ ?hSn325 (fun hHeld2 => ?rest325)
    case hSn325 => with_reducible exact hHeld.below hb9
    clear hK K hHeld
    have hHeld := hHeld2
    clear hHeld2
    try simp only [Act.put, a7, b7, c7]
    refine w8 25 ((Value.bool false)) (ga7 rfl) (by kernel_rfl) (fun _ _ _ h => h) ⟨by rfl, ?y326⟩ hHeld ?_
    case y326 => (intro wq hSw; (try simp only [Two, YP] at hSw); go_simp; (all_goals (first | rfl | (simp; done))))
    try simp only [Act.put, a7, b7, c7]
    refine w8 26 ?_ (ga7 rfl) (by kernel_rfl) (fun _ _ _ h => h) ⟨by rfl, ?y327⟩ hHeld ?_
    case y327 => (intro wq hSw; (try simp only [Two, YP] at hSw); go_simp; try with_reducible rfl)
    try simp only [Act.put, a7, b7, c7]
    refine wpAnyH_done (by kernel_rfl) ?fin300 _
    have Z0 : Hid (ZP0 w v h l b x a g r base N (usF (lkP v b) N us) us wr.heap.size n (.slice xq gs.length cq) gs _) := ⟨hHeld.2.out.1, hHeld.2.out.2.1⟩
    clear hHeld Y0 PB1 RB1 hb7 hb8 hb9
    obtain ⟨B0, hB0⟩ : ∃ B0, wr.heap.size = B0 := ⟨_, rfl⟩
    rw [hB0] at Z0
    clear hB0 hl1
    go_wp2_with fail
    go_loopw [16] (fun jv wr2 => ∃ j : Nat, j ≤ gs.length ∧ jv = .int .i64 j ∧ Hid (ZP0 w v h l b x a g r base N (usF (lkP v b) N us) us B0 n (.slice xq gs.length cq) gs wr2)) (fun jv _ => gs.length - (intOf jv).toNat)
    case atStart => exact ⟨0, by omega, rfl, Z0⟩
    case round =>
     clear Z0
     obtain ⟨j, hj, rfl, Zr⟩ := hrel
     by_cases hjl : j < gs.length
     ·obtain ⟨B, cap0, e, c0, c1, c2⟩ := row_at6 Zr.out.2 rfl hjl
      obtain ⟨e1, e3⟩ : xq = some ⟨B, 0, none⟩ ∧ cq = cap0 := by injection e with e1 _ e3; exact ⟨e1, e3⟩
      subst e1 e3
      obtain ⟨l1, l2, l3⟩ := LT1.out gs[j] (List.getElem_mem hjl)
      obtain ⟨hnum, hnm⟩ := NH.out gs[j] l1 l3
      obtain ⟨ah, hah⟩ : ∃ ah : Int, (((n + gs[j]) / 18446744073709551616 : Nat) : Int) = ah := ⟨_, rfl⟩
      obtain ⟨al, hal⟩ : ∃ al : Int, (((n + gs[j]) % 18446744073709551616 : Nat) : Int) = al := ⟨_, rfl⟩
      rw [hah] at c1 hnum
      rw [hal] at c2 hnum
      have N1 := hide (fun L f W S' => NU1.out ah al (n + gs[j]) hnum L f W (gs[j] : Int) (by rw [hnm]; rfl) S')
      have R1 := hide (fun L f W (S' : PPt w L v h l b x a g r base N f us W) => has_r6 (i := gs[j]) (t := true) l2 HUS.out S')
      have k0 : (0 : Int) ≤ (gs[j] : Int) := by omega
      obtain ⟨kz, hkz⟩ : ∃ kz : Int, (gs[j] : Int) = kz := ⟨_, rfl⟩
      rw [hkz] at N1 R1 k0
      have k1 : ¬ kz < 0 := by omega
      have HNM := hide hnum
      clear hnum hnm hah hal hkz l1 l2 l3 e
      rcases j with _ | q
      ·have hjl' : (0 : Int) < (gs.length : Nat) := by omega
       simp only [Nat.zero_mul, Nat.zero_add] at c0 c1 c2
       clear HNM NH NU1 SR1 LT1
       go_wp2_with fail
       refine (N1.out _ _ _ Zr.out.1).mono ?_
       rintro e w10 ⟨rfl, hb⟩
       have Z2 := Zr.out.below hb
       clear N1 hb Zr c0 c1 c2
       go_wp2_with fail
       refine wp_region_held_drew (S := (ZP0 w v h l b x a g r base N (usF (lkP v b) N us) us B0 n (.slice (some ⟨B, 0, none⟩) gs.length cq) gs)) (by kernel_rfl) ?hS400 (fun hHeld => ?rest400)
       case hS400 => with_reducible exact Z2.drew
       refine w8 0 ?_ (ga7 rfl) (by kernel_rfl) (fun _ _ _ h => h) ⟨by rfl, ?y401⟩ hHeld ?_
       case y401 => (intro wq hSw; (try simp only [Two, ZP0] at hSw); go_simp; try with_reducible rfl)
       try simp only [Act.put, a7, b7, c7]
       refine w8 1 ((Value.bool false)) (ga7 rfl) (by kernel_rfl) (fun _ _ _ h => h) ⟨by rfl, ?y402⟩ hHeld ?_
       case y402 => (intro wq hSw; (try simp only [Two, ZP0] at hSw); go_simp; (all_goals (first | rfl | (simp; done) | (simp; omega))))
       try simp only [Act.put, a7, b7, c7]
       refine w8 2 ?_ (ga7 rfl) (by kernel_rfl) (fun _ _ _ h => h) ⟨by rfl, ?y403⟩ hHeld ?_
       case y403 => (intro wq hSw; (try simp only [Two, ZP0] at hSw); go_simp; try with_reducible rfl)
       try simp only [Act.put, a7, b7, c7]
       refine w8 3 ?_ (ga7 rfl) (by kernel_rfl) (fun _ _ _ h => h) ⟨by rfl, ?y404⟩ hHeld ?_
       case y404 => (intro wq hSw; (try simp only [Two, ZP0] at hSw); go_simp; try with_reducible rfl)
       try simp only [Act.put, a7, b7, c7]
       refine w8 4 ?_ (ga7 rfl) (by kernel_rfl) (fun _ _ _ h => h) ⟨by rfl, ?y405⟩ hHeld ?_
       case y405 => (intro wq hSw; (try simp only [Two, ZP0] at hSw); go_simp; try with_reducible rfl)
       try simp only [Act.put, a7, b7, c7]
       refine wpAnyH_ready (rs := [5]) (by kernel_rfl) (by simp) ?rdy406
       refine AllReadyH.cons (ga7 rfl) (fun K hK => ?stp406) AllReadyH.nil
       go_simp
       go_wp2_with fail
       (refine (R1.out _ _ _ hHeld.out.1).mono ?_; rintro e w11 ⟨rfl, rfl⟩)
       go_wp2_with fail
       refine hK.out _ _ ?hSn406 (fun hHeld2 => ?rest406)
       case hSn406 => (first | with_reducible exact Z2.drew | with_reducible exact hHeld)
       clear hK K hHeld
       have hHeld := hHeld2
       clear hHeld2
       try simp only [Act.put, a7, b7, c7]
       refine w8 6 ?_ (ga7 rfl) (by kernel_rfl) (fun _ _ _ h => h) ⟨by rfl, ?y407⟩ hHeld ?_
       case y407 => (intro wq hSw; (try simp only [Two, ZP0] at hSw); go_simp; try with_reducible rfl)
       try simp only [Act.put, a7, b7, c7]
       refine w8 7 ?_ (ga7 rfl) (by kernel_rfl) (fun _ _ _ h => h) ⟨by rfl, ?y408⟩ hHeld ?_
       case y408 => (intro wq hSw; (try simp only [Two, ZP0] at hSw); go_simp; try with_reducible rfl)
       try simp only [Act.put, a7, b7, c7]
       refine w8 8 ?_ (ga7 rfl) (by kernel_rfl) (fun _ _ _ h => h) ⟨by rfl, ?y409⟩ hHeld ?_
       case y409 => (intro wq hSw; (try simp only [Two, ZP0] at hSw); go_simp; try with_reducible rfl)
       try simp only [Act.put, a7, b7, c7]
       refine w8 9 ?_ (ga7 rfl) (by kernel_rfl) (fun _ _ _ h => h) ⟨by rfl, ?y410⟩ hHeld ?_
       case y410 => (intro wq hSw; (try simp only [Two, ZP0] at hSw); go_simp; try with_reducible rfl)
       try simp only [Act.put, a7, b7, c7]
       refine w8 10 ((Value.bool false)) (ga7 rfl) (by kernel_rfl) (fun _ _ _ h => h) ⟨by rfl, ?y411⟩ hHeld ?_
       case y411 => (intro wq hSw; (try simp only [Two, ZP0] at hSw); go_simp; (all_goals (first | rfl | (simp; done) | (simp; omega))))
       try simp only [Act.put, a7, b7, c7]
       refine w8 11 ?_ (ga7 rfl) (by kernel_rfl) (fun _ _ _ h => h) ⟨by rfl, ?y412⟩ hHeld ?_
       case y412 => (intro wq hSw; (try simp only [Two, ZP0] at hSw); go_simp; try with_reducible rfl)
       try simp only [Act.put, a7, b7, c7]
       refine wpAnyH_take (i := 12) (oi := _) (v := undef) (ga7 rfl) (by kernel_rfl) (by kernel_rfl) (by kernel_rfl) (fun _ _ _ h => h) (Or.inr ⟨by rfl, rfl⟩) (by assumption) ?rest413
       try simp only [Act.put, a7, b7, c7]
       refine wpAnyH_take (i := 13) (oi := _) (v := undef) (ga7 rfl) (by kernel_rfl) (by kernel_rfl) (by kernel_rfl) (fun _ _ _ h => h) (Or.inr ⟨by rfl, rfl⟩) (by assumption) ?rest414
       try simp only [Act.put, a7, b7, c7]
       refine wpAnyH_take (i := 14) (oi := _) (v := undef) (ga7 rfl) (by kernel_rfl) (by kernel_rfl) (by kernel_rfl) (fun _ _ _ h => h) (Or.inr ⟨by rfl, rfl⟩) (by assumption) ?rest415
       try simp only [Act.put, a7, b7, c7]
       refine wpAnyH_take (i := 15) (oi := _) (v := undef) (ga7 rfl) (by kernel_rfl) (by kernel_rfl) (by kernel_rfl) (fun _ _ _ h => h) (Or.inr ⟨by rfl, rfl⟩) (by assumption) ?rest416
       try simp only [Act.put, a7, b7, c7]
       refine wpAnyH_take (i := 16) (oi := _) (v := undef) (ga7 rfl) (by kernel_rfl) (by kernel_rfl) (by kernel_rfl) (fun _ _ _ h => h) (Or.inr ⟨by rfl, rfl⟩) (by assumption) ?rest417
       try simp only [Act.put, a7, b7, c7]
       refine wpAnyH_take (i := 17) (oi := _) (v := undef) (ga7 rfl) (by kernel_rfl) (by kernel_rfl) (by kernel_rfl) (fun _ _ _ h => h) (Or.inr ⟨by rfl, rfl⟩) (by assumption) ?rest418
       try simp only [Act.put, a7, b7, c7]
       refine wpAnyH_take (i := 18) (oi := _) (v := undef) (ga7 rfl) (by kernel_rfl) (by kernel_rfl) (by kernel_rfl) (fun _ _ _ h => h) (Or.inr ⟨by rfl, rfl⟩) (by assumption) ?rest419
       try simp only [Act.put, a7, b7, c7]
       refine wpAnyH_take (i := 19) (oi := _) (v := undef) (ga7 rfl) (by kernel_rfl) (by kernel_rfl) (by kernel_rfl) (fun _ _ _ h => h) (Or.inr ⟨by rfl, rfl⟩) (by assumption) ?rest420
       try simp only [Act.put, a7, b7, c7]
       refine wpAnyH_take (i := 20) (oi := _) (v := undef) (ga7 rfl) (by kernel_rfl) (by kernel_rfl) (by kernel_rfl) (fun _ _ _ h => h) (Or.inr ⟨by rfl, rfl⟩) (by assumption) ?rest421
       try simp only [Act.put, a7, b7, c7]
       refine wpAnyH_take (i := 21) (oi := _) (v := undef) (ga7 rfl) (by kernel_rfl) (by kernel_rfl) (by kernel_rfl) (fun _ _ _ h => h) (Or.inr ⟨by rfl, rfl⟩) (by assumption) ?rest422
       try simp only [Act.put, a7, b7, c7]
       refine wpAnyH_take (i := 22) (oi := _) (v := undef) (ga7 rfl) (by kernel_rfl) (by kernel_rfl) (by kernel_rfl) (fun _ _ _ h => h) (Or.inr ⟨by rfl, rfl⟩) (by assumption) ?rest423
       try simp only [Act.put, a7, b7, c7]
       refine w8 23 ?_ (ga7 rfl) (by kernel_rfl) (fun _ _ _ h => h) ⟨by rfl, ?y424⟩ hHeld ?_
       case y424 => (intro wq hSw; (try simp only [Two, ZP0] at hSw); go_simp; try with_reducible rfl)
       try simp only [Act.put, a7, b7, c7]
       refine w8 24 ?_ (ga7 rfl) (by kernel_rfl) (fun _ _ _ h => h) ⟨by rfl, ?y425⟩ hHeld ?_
       case y425 => (intro wq hSw; (try simp only [Two, ZP0] at hSw); go_simp; try with_reducible rfl)
       try simp only [Act.put, a7, b7, c7]
       refine wpAnyH_done (by kernel_rfl) ?fin400 _
       have Z3 := hide hHeld
       clear hHeld Z2 R1
       go_wp2
       go_roundw
       case rel => exact ⟨0 + 1, by omega, by go_num, Z3⟩
       case measure => simp [intOf]; omega
      ·have hjl' : (q : Int) + 1 < (gs.length : Nat) := by omega
       obtain ⟨B', cap', e', p0, p1, p2⟩ := row_at6 Zr.out.2 rfl (show q < gs.length by omega)
       obtain ⟨e1, e3⟩ : B' = B ∧ cap' = cq := by injection e' with e1 _ e3; injection e1 with e1; injection e1 with e1; exact ⟨e1.symm, e3.symm⟩
       subst e1 e3
       obtain ⟨l1, l2, l3⟩ := LT1.out gs[q] (List.getElem_mem (by omega))
       obtain ⟨hnumq, _⟩ := NH.out gs[q] l1 l3
       obtain ⟨ph, hph⟩ : ∃ ph : Int, (((n + gs[q]) / 18446744073709551616 : Nat) : Int) = ph := ⟨_, rfl⟩
       obtain ⟨pl, hpl⟩ : ∃ pl : Int, (((n + gs[q]) % 18446744073709551616 : Nat) : Int) = pl := ⟨_, rfl⟩
       rw [hph] at p1 hnumq
       rw [hpl] at p2 hnumq
       have CM := hide (fun W => cmp_lt (v := v) hnumq HNM.out (by have := SR1.out q hjl; omega) W)
       have w1 : IntKind.i64.wrap (q : Int) = (q : Int) := by rw [IntKind.wrap_i64]; omega
       have w2' : ((q : Int) + 1).toNat = q + 1 := by omega
       have hq' : (q : Int) < (gs.length : Nat) := by omega
       have hz1 : (q : Int) + 1 > 0 := by omega
       have hz2 : 0 ≤ (q : Int) + 1 := by omega
       clear hnumq hph hpl l1 l2 l3 e' NH NU1 SR1 LT1 HNM
       go_wp2_with fail
       refine (N1.out _ _ _ Zr.out.1).mono ?_
       rintro e w10 ⟨rfl, hb⟩
       have bl := cell_in c0
       have Z2 : ZP B' q v ph pl ah al w h l b x a g r base N (usF (lkP v b) N us) us B0 n (.slice (some ⟨B', 0, none⟩) gs.length cap') gs w10 := by
        have ee := (bcell hb).1
        exact ⟨⟨(ee _ _ bl).trans p0, (ee _ _ bl).trans p1, (ee _ _ bl).trans p2, (ee _ _ bl).trans c0, (ee _ _ bl).trans c1, (ee _ _ bl).trans c2⟩, Zr.out.1.below hb, own_below Zr.out.2 hb, Nat.lt_of_lt_of_le bl hb.size⟩
       clear N1 hb Zr c0 c1 c2 p0 p1 p2 bl
       go_wp2_with fail
       refine wp_region_held_drew (S := (ZP B' q v ph pl ah al w h l b x a g r base N (usF (lkP v b) N us) us B0 n (.slice (some ⟨B', 0, none⟩) gs.length cap') gs)) (by kernel_rfl) ?hS500 (fun hHeld => ?rest500)
       case hS500 => with_reducible exact Z2.drew
       refine w8 0 ?_ (ga7 rfl) (by kernel_rfl) (fun _ _ _ h => h) ⟨by rfl, ?y501⟩ hHeld ?_
       case y501 => (intro wq hSw; (try simp only [Two, ZP] at hSw); go_simp; try with_reducible rfl)
       try simp only [Act.put, a7, b7, c7]
       refine w8 1 ((Value.bool false)) (ga7 rfl) (by kernel_rfl) (fun _ _ _ h => h) ⟨by rfl, ?y502⟩ hHeld ?_
       case y502 => (intro wq hSw; (try simp only [Two, ZP] at hSw); go_simp; (all_goals (first | rfl | (simp; done) | (simp; omega))))
       try simp only [Act.put, a7, b7, c7]
       refine w8 2 ?_ (ga7 rfl) (by kernel_rfl) (fun _ _ _ h => h) ⟨by rfl, ?y503⟩ hHeld ?_
       case y503 => (intro wq hSw; (try simp only [Two, ZP] at hSw); go_simp; try with_reducible rfl)
       try simp only [Act.put, a7, b7, c7]
       refine w8 3 ?_ (ga7 rfl) (by kernel_rfl) (fun _ _ _ h => h) ⟨by rfl, ?y504⟩ hHeld ?_
       case y504 => (intro wq hSw; (try simp only [Two, ZP] at hSw); go_simp; try with_reducible rfl)
       try simp only [Act.put, a7, b7, c7]
       refine w8 4 ?_ (ga7 rfl) (by kernel_rfl) (fun _ _ _ h => h) ⟨by rfl, ?y505⟩ hHeld ?_
       case y505 => (intro wq hSw; (try simp only [Two, ZP] at hSw); go_simp; try with_reducible rfl)
       try simp only [Act.put, a7, b7, c7]
       refine wpAnyH_ready (rs := [5]) (by kernel_rfl) (by simp) ?rdy506
       refine AllReadyH.cons (ga7 rfl) (fun K hK => ?stp506) AllReadyH.nil
       go_simp
       go_wp2_with fail
       (refine (R1.out _ _ _ hHeld.2.out.1).mono ?_; rintro e w11 ⟨rfl, rfl⟩)
       go_wp2_with fail
       refine hK.out _ _ ?hSn506 (fun hHeld2 => ?rest506)
       case hSn506 => (first | with_reducible exact Z2.drew | with_reducible exact hHeld)
       clear hK K hHeld
       have hHeld := hHeld2
       clear hHeld2
       try simp only [Act.put, a7, b7, c7]
       refine w8 6 ?_ (ga7 rfl) (by kernel_rfl) (fun _ _ _ h => h) ⟨by rfl, ?y507⟩ hHeld ?_
       case y507 => (intro wq hSw; (try simp only [Two, ZP] at hSw); go_simp; try with_reducible rfl)
       try simp only [Act.put, a7, b7, c7]
       refine w8 7 ?_ (ga7 rfl) (by kernel_rfl) (fun _ _ _ h => h) ⟨by rfl, ?y508⟩ hHeld ?_
       case y508 => (intro wq hSw; (try simp only [Two, ZP] at hSw); go_simp; try with_reducible rfl)
       try simp only [Act.put, a7, b7, c7]
       refine w8 8 ?_ (ga7 rfl) (by kernel_rfl) (fun _ _ _ h => h) ⟨by rfl, ?y509⟩ hHeld ?_
       case y509 => (intro wq hSw; (try simp only [Two, ZP] at hSw); go_simp; try with_reducible rfl)
       try simp only [Act.put, a7, b7, c7]
       refine w8 9 ?_ (ga7 rfl) (by kernel_rfl) (fun _ _ _ h => h) ⟨by rfl, ?y510⟩ hHeld ?_
       case y510 => (intro wq hSw; (try simp only [Two, ZP] at hSw); go_simp; try with_reducible rfl)
       try simp only [Act.put, a7, b7, c7]
       refine w8 10 ((Value.bool true)) (ga7 rfl) (by kernel_rfl) (fun _ _ _ h => h) ⟨by rfl, ?y511⟩ hHeld ?_
       case y511 => (intro wq hSw; (try simp only [Two, ZP] at hSw); go_simp; (all_goals (first | rfl | (simp; done) | (simp; omega))))
       try simp only [Act.put, a7, b7, c7]
       refine w8 11 ?_ (ga7 rfl) (by kernel_rfl) (fun _ _ _ h => h) ⟨by rfl, ?y512⟩ hHeld ?_
       case y512 => (intro wq hSw; (try simp only [Two, ZP] at hSw); go_simp; try with_reducible rfl)
       try simp only [Act.put, a7, b7, c7]
       refine w8 12 ?_ (ga7 rfl) (by kernel_rfl) (fun _ _ _ h => h) ⟨by rfl, ?y513⟩ hHeld ?_
       case y513 => (intro wq hSw; (try simp only [Two, ZP] at hSw); go_simp; try with_reducible rfl)
       try simp only [Act.put, a7, b7, c7]
       refine w8 13 ?_ (ga7 rfl) (by kernel_rfl) (fun _ _ _ h => h) ⟨by rfl, ?y514⟩ hHeld ?_
       case y514 => (intro wq hSw; (try simp only [Two, ZP] at hSw); go_simp; try with_reducible rfl)
       try simp only [Act.put, a7, b7, c7]
       refine w8 14 ?_ (ga7 rfl) (by kernel_rfl) (fun _ _ _ h => h) ⟨by rfl, ?y515⟩ hHeld ?_
       case y515 => (intro wq hSw; (try simp only [Two, ZP] at hSw); go_simp; try with_reducible rfl)
       try simp only [Act.put, a7, b7, c7]
       refine w8 15 ?_ (ga7 rfl) (by kernel_rfl) (fun _ _ _ h => h) ⟨by rfl, ?y516⟩ hHeld ?_
       case y516 => (intro wq hSw; (try simp only [Two, ZP] at hSw); go_simp; try with_reducible rfl)
       try simp only [Act.put, a7, b7, c7]
       refine w8 16 ?_ (ga7 rfl) (by kernel_rfl) (fun _ _ _ h => h) ⟨by rfl, ?y517⟩ hHeld ?_
       case y517 => (intro wq hSw; (try simp only [Two, ZP] at hSw); go_simp; try with_reducible rfl)
       try simp only [Act.put, a7, b7, c7]
       refine w8 17 ?_ (ga7 rfl) (by kernel_rfl) (fun _ _ _ h => h) ⟨by rfl, ?y518⟩ hHeld ?_
       case y518 => (intro wq hSw; (try simp only [Two, ZP] at hSw); go_simp; try with_reducible rfl)
       try simp only [Act.put, a7, b7, c7]
       refine w8 18 ?_ (ga7 rfl) (by kernel_rfl) (fun _ _ _ h => h) ⟨by rfl, ?y519⟩ hHeld ?_
       case y519 => (intro wq hSw; (try simp only [Two, ZP] at hSw); go_simp; try with_reducible rfl)
       try simp only [Act.put, a7, b7, c7]
       refine w8 19 ?_ (ga7 rfl) (by kernel_rfl) (fun _ _ _ h => h) ⟨by rfl, ?y520⟩ hHeld ?_
       case y520 => (intro wq hSw; (try simp only [Two, ZP] at hSw); go_simp; try with_reducible rfl)
       try simp only [Act.put, a7, b7, c7]
       refine w8 20 ?_ (ga7 rfl) (by kernel_rfl) (fun _ _ _ h => h) ⟨by rfl, ?y521⟩ hHeld ?_
       case y521 => (intro wq hSw; (try simp only [Two, ZP] at hSw); go_simp; try with_reducible rfl)
       try simp only [Act.put, a7, b7, c7]
       refine wpAnyH_ready (rs := [21]) (by kernel_rfl) (by simp) ?rdy522
       refine AllReadyH.cons (ga7 rfl) (fun K hK => ?stp522) AllReadyH.nil
       go_simp
       go_wp2_with fail
       (refine (CM.out _).mono ?_; rintro e w12 ⟨rfl, hb12⟩)
       go_wp2_with fail
       refine hK.out _ _ ?hSn522 (fun hHeld2 => ?rest522)
       case hSn522 => with_reducible exact hHeld.below hb12
       clear hK K hHeld
       have hHeld := hHeld2
       clear hHeld2
       try simp only [Act.put, a7, b7, c7]
       refine w8 22 ((Value.bool false)) (ga7 rfl) (by kernel_rfl) (fun _ _ _ h => h) ⟨by rfl, ?y523⟩ hHeld ?_
       case y523 => (intro wq hSw; (try simp only [Two, ZP] at hSw); go_simp; (all_goals (first | rfl | (simp; done) | (simp; omega))))
       try simp only [Act.put, a7, b7, c7]
       refine w8 23 ?_ (ga7 rfl) (by kernel_rfl) (fun _ _ _ h => h) ⟨by rfl, ?y524⟩ hHeld ?_
       case y524 => (intro wq hSw; (try simp only [Two, ZP] at hSw); go_simp; try with_reducible rfl)
       try simp only [Act.put, a7, b7, c7]
       refine w8 24 ?_ (ga7 rfl) (by kernel_rfl) (fun _ _ _ h => h) ⟨by rfl, ?y525⟩ hHeld ?_
       case y525 => (intro wq hSw; (try simp only [Two, ZP] at hSw); go_simp; try with_reducible rfl)
       try simp only [Act.put, a7, b7, c7]
       refine wpAnyH_done (by kernel_rfl) ?fin500 _
       have Z3 : Hid (ZP0 w v h l b x a g r base N (usF (lkP v b) N us) us B0 n (.slice (some ⟨B', 0, none⟩) gs.length cap') gs _) := ⟨hHeld.2.out.1, hHeld.2.out.2.1⟩
       clear hHeld Z2 R1 CM
       go_wp2
       go_roundw
       case rel => exact ⟨q + 1 + 1, by omega, by go_num, Z3⟩
       case measure => simp [intOf]; omega
     ·have hjl' : ¬ (j : Int) < (gs.length : Nat) := by omega
      have B9 := hide Zr.out.1.kn.bel
      clear NH NU1 SR1 LT1 Zr
      go_wp2
      go_ret
      exact ⟨by first | rfl | simp, B9.out⟩
   ·clear hlt hstop
    go_wp2_with fail
    refine U2.out.mono ?_
    rintro e w4 ⟨uv, rfl, ho, hb⟩
    have Y0 := YP.of (S.out.below hb) (((bcell hb).1 _ _ S.out.rr.lt).trans hru) ho
    obtain ⟨xq, cq, huv⟩ : ∃ xq cq, uv = .slice xq gs.length cq := by
     rcases ho.2 with ⟨h1, h2⟩ | ⟨g', cp, cur, h1, _⟩
     ·exact ⟨none, 0, by rw [h1, h2]⟩
     ·exact ⟨some ⟨g', 0, none⟩, cp, h1⟩
    subst huv
    clear U2 hb ho S F hru hi hi60
    go_wp2_with fail
    refine wp_region_held_drew (S := (YP w v h l b x a g r base N (usF (lkP v b) N us) us (.slice qr gs.length cr) wr.heap.size n (.slice xq gs.length cq) gs)) (by kernel_rfl) ?hS600 (fun hHeld => ?rest600)
    case hS600 => with_reducible exact Y0.drew
    refine w8 0 ?_ (ga7 rfl) (by kernel_rfl) (fun _ _ _ h => h) ⟨by rfl, ?y601⟩ hHeld ?_
    case y601 => (intro wq hSw; (try simp only [Two, YP] at hSw); go_simp; try with_reducible rfl)
    try simp only [Act.put, a7, b7, c7]
    refine w8 1 ?_ (ga7 rfl) (by kernel_rfl) (fun _ _ _ h => h) ⟨by rfl, ?y602⟩ hHeld ?_
    case y602 => (intro wq hSw; (try simp only [Two, YP] at hSw); go_simp; try with_reducible rfl)
    try simp only [Act.put, a7, b7, c7]
    refine w8 2 ?_ (ga7 rfl) (by kernel_rfl) (fun _ _ _ h => h) ⟨by rfl, ?y603⟩ hHeld ?_
    case y603 => (intro wq hSw; (try simp only [Two, YP] at hSw); go_simp; try with_reducible rfl)
    try simp only [Act.put, a7, b7, c7]
    refine w8 3 ?_ (ga7 rfl) (by kernel_rfl) (fun _ _ _ h => h) ⟨by rfl, ?y604⟩ hHeld ?_
    case y604 => (intro wq hSw; (try simp only [Two, YP] at hSw); go_simp; try with_reducible rfl)
    try simp only [Act.put, a7, b7, c7]
    refine w8 4 ?_ (ga7 rfl) (by kernel_rfl) (fun _ _ _ h => h) ⟨by rfl, ?y605⟩ hHeld ?_
    case y605 => (intro wq hSw; (try simp only [Two, YP] at hSw); go_simp; try with_reducible rfl)
    try simp only [Act.put, a7, b7, c7]
    refine w8 5 ?_ (ga7 rfl) (by kernel_rfl) (fun _ _ _ h => h) ⟨by rfl, ?y606⟩ hHeld ?_
    case y606 => (intro wq hSw; (try simp only [Two, YP] at hSw); go_simp; try with_reducible rfl)
    try simp only [Act.put, a7, b7, c7]
    refine w8 6 ?_ (ga7 rfl) (by kernel_rfl) (fun _ _ _ h => h) ⟨by rfl, ?y607⟩ hHeld ?_
    case y607 => (intro wq hSw; (try simp only [Two, YP] at hSw); go_simp; try with_reducible rfl)
    try simp only [Act.put, a7, b7, c7]
    refine w8 7 ((Value.bool false)) (ga7 rfl) (by kernel_rfl) (fun _ _ _ h => h) ⟨by rfl, ?y608⟩ hHeld ?_
    case y608 => (intro wq hSw; (try simp only [Two, YP] at hSw); go_simp; (all_goals (first | rfl | (simp; done))))
    try simp only [Act.put, a7, b7, c7]
    refine w8 8 ?_ (ga7 rfl) (by kernel_rfl) (fun _ _ _ h => h) ⟨by rfl, ?y609⟩ hHeld ?_
    case y609 => (intro wq hSw; (try simp only [Two, YP] at hSw); go_simp; try with_reducible rfl)
    try simp only [Act.put, a7, b7, c7]
    refine w8 9 ?_ (ga7 rfl) (by kernel_rfl) (fun _ _ _ h => h) ⟨by rfl, ?y610⟩ hHeld ?_
    case y610 => (intro wq hSw; (try simp only [Two, YP] at hSw); go_simp; try with_reducible rfl)
    try simp only [Act.put, a7, b7, c7]
    refine w8 11 ?_ (ga7 rfl) (by kernel_rfl) (fun _ _ _ h => h) ⟨by rfl, ?y611⟩ hHeld ?_
    case y611 => (intro wq hSw; (try simp only [Two, YP] at hSw); go_simp; try with_reducible rfl)
    try simp only [Act.put, a7, b7, c7]
    refine wpAnyH_ready (rs := [10]) (by kernel_rfl) (by simp) ?rdy612
    refine AllReadyH.cons (ga7 rfl) (fun K hK => ?stp612) AllReadyH.nil
    go_simp
    go_wp2_with fail
    (refine (psize_c _ hHeld.2.out.1.p).mono ?_; rintro e w6 ⟨rfl, rfl⟩)
    go_wp2_with fail
    refine hK.out _ _ ?hSn612 (fun hHeld2 => ?rest612)
    case hSn612 => (first | with_reducible exact Y0.drew | with_reducible exact hHeld)
    clear hK K hHeld
    have hHeld := hHeld2
    clear hHeld2
    try simp only [Act.put, a7, b7, c7]
    refine w8 12 ((Value.bool false)) (ga7 rfl) (by kernel_rfl) (fun _ _ _ h => h) ⟨by rfl, ?y613⟩ hHeld ?_
    case y613 => (intro wq hSw; (try simp only [Two, YP] at hSw); go_simp; (all_goals (first | rfl | (simp; done))))
    try simp only [Act.put, a7, b7, c7]
    refine w8 13 ?_ (ga7 rfl) (by kernel_rfl) (fun _ _ _ h => h) ⟨by rfl, ?y614⟩ hHeld ?_
    case y614 => (intro wq hSw; (try simp only [Two, YP] at hSw); go_simp; try with_reducible rfl)
    try simp only [Act.put, a7, b7, c7]
    refine w8 14 ?_ (ga7 rfl) (by kernel_rfl) (fun _ _ _ h => h) ⟨by rfl, ?y615⟩ hHeld ?_
    case y615 => (intro wq hSw; (try simp only [Two, YP] at hSw); go_simp; try with_reducible rfl)
    try simp only [Act.put, a7, b7, c7]
    refine w8 15 ?_ (ga7 rfl) (by kernel_rfl) (fun _ _ _ h => h) ⟨by rfl, ?y616⟩ hHeld ?_
    case y616 => (intro wq hSw; (try simp only [Two, YP] at hSw); go_simp; try with_reducible rfl)
    try simp only [Act.put, a7, b7, c7]
    refine w8 17 ?_ (ga7 rfl) (by kernel_rfl) (fun _ _ _ h => h) ⟨by rfl, ?y617⟩ hHeld ?_
    case y617 => (intro wq hSw; (try simp only [Two, YP] at hSw); go_simp; try with_reducible rfl)
    try simp only [Act.put, a7, b7, c7]
    refine wpAnyH_ready (rs := [16]) (by kernel_rfl) (by simp) ?rdy618
    refine AllReadyH.cons (ga7 rfl) (fun K hK => ?stp618) AllReadyH.nil
    go_simp
    go_wp2_with fail
    (refine (poPrefix_c _ hHeld.2.out.1.p).mono ?_; rintro e w7 ⟨rfl, hb7⟩)
    go_wp2_with fail
    refine hK.out _ _ ?hSn618 (fun hHeld2 => ?rest618)
    case hSn618 => with_reducible exact hHeld.below hb7
    clear hK K hHeld
    have hHeld := hHeld2
    clear hHeld2
    try simp only [Act.put, a7, b7, c7]
    refine w8 18 ((Value.bool false)) (ga7 rfl) (by kernel_rfl) (fun _ _ _ h => h) ⟨by rfl, ?y619⟩ hHeld ?_
    case y619 => (intro wq hSw; (try simp only [Two, YP] at hSw); go_simp; (all_goals (first | rfl | (simp; done))))
    try simp only [Act.put, a7, b7, c7]
    refine w8 19 ?_ (ga7 rfl) (by kernel_rfl) (fun _ _ _ h => h) ⟨by rfl, ?y620⟩ hHeld ?_
    case y620 => (intro wq hSw; (try simp only [Two, YP] at hSw); go_simp; try with_reducible rfl)
    try simp only [Act.put, a7, b7, c7]
    refine w8 20 ?_ (ga7 rfl) (by kernel_rfl) (fun _ _ _ h => h) ⟨by rfl, ?y621⟩ hHeld ?_
    case y621 => (intro wq hSw; (try simp only [Two, YP] at hSw); go_simp; try with_reducible rfl)
    try simp only [Act.put, a7, b7, c7]
    refine w8 21 ?_ (ga7 rfl) (by kernel_rfl) (fun _ _ _ h => h) ⟨by rfl, ?y622⟩ hHeld ?_
    case y622 => (intro wq hSw; (try simp only [Two, YP] at hSw); go_simp; try with_reducible rfl)
    try simp only [Act.put, a7, b7, c7]
    refine w8 23 ?_ (ga7 rfl) (by kernel_rfl) (fun _ _ _ h => h) ⟨by rfl, ?y623⟩ hHeld ?_
    case y623 => (intro wq hSw; (try simp only [Two, YP] at hSw); go_simp; try with_reducible rfl)
    try simp only [Act.put, a7, b7, c7]
    refine wpAnyH_ready (rs := [22]) (by kernel_rfl) (by simp) ?rdy624
    refine AllReadyH.cons (ga7 rfl) (fun K hK => ?stp624) AllReadyH.nil
    go_simp
    go_wp2_with fail
    (refine (PB1.out _ hHeld.2.out.1.kn.bel hHeld.2.out.1.p).mono ?_; rintro e w08 ⟨rfl, hb8⟩)
    go_wp2_with fail
    refine hK.out _ _ ?hSn624 (fun hHeld2 => ?rest624)
    case hSn624 => with_reducible exact hHeld.below hb8
    clear hK K hHeld
    have hHeld := hHeld2
    clear hHeld2
    try simp only [Act.put, a7, b7, c7]
    refine wpAnyH_ready (rs := [24]) (by kernel_rfl) (by simp) ?rdy625
    refine AllReadyH.cons (ga7 rfl) (fun K hK => ?stp625) AllReadyH.nil
    go_simp
    go_wp2_with fail
    (refine (RB1.out _ hHeld.2.out.1.rr).mono ?_; rintro e w9 ⟨rfl, hb9⟩)
    go_wp2_with fail
    refine hK.out _ _ ?hSn625 (fun hHeld2 => ?rest625)
    case hSn625 => with_reducible exact hHeld.below hb9
    clear hK K hHeld
    have hHeld := hHeld2
    clear hHeld2
    try simp only [Act.put, a7, b7, c7]
    refine w8 25 ((Value.bool false)) (ga7 rfl) (by kernel_rfl) (fun _ _ _ h => h) ⟨by rfl, ?y626⟩ hHeld ?_
    case y626 => (intro wq hSw; (try simp only [Two, YP] at hSw); go_simp; (all_goals (first | rfl | (simp; done))))
    try simp only [Act.put, a7, b7, c7]
    refine w8 26 ?_ (ga7 rfl) (by kernel_rfl) (fun _ _ _ h => h) ⟨by rfl, ?y627⟩ hHeld ?_
    case y627 => (intro wq hSw; (try simp only [Two, YP] at hSw); go_simp; try with_reducible rfl)
    try simp only [Act.put, a7, b7, c7]
    refine wpAnyH_done (by kernel_rfl) ?fin600 _
    have Z0 : Hid (ZP0 w v h l b x a g r base N (usF (lkP v b) N us) us wr.heap.size n (.slice xq gs.length cq) gs _) := ⟨hHeld.2.out.1, hHeld.2.out.2.1⟩
    clear hHeld Y0 PB1 RB1 hb7 hb8 hb9
    obtain ⟨B0, hB0⟩ : ∃ B0, wr.heap.size = B0 := ⟨_, rfl⟩
    rw [hB0] at Z0
    clear hB0 hl1
    go_wp2_with fail
    go_loopw [16] (fun jv wr2 => ∃ j : Nat, j ≤ gs.length ∧ jv = .int .i64 j ∧ Hid (ZP0 w v h l b x a g r base N (usF (lkP v b) N us) us B0 n (.slice xq gs.length cq) gs wr2)) (fun jv _ => gs.length - (intOf jv).toNat)
    case atStart => exact ⟨0, by omega, rfl, Z0⟩
    case round =>
     clear Z0
     obtain ⟨j, hj, rfl, Zr⟩ := hrel
     by_cases hjl : j < gs.length
     ·obtain ⟨B, cap0, e, c0, c1, c2⟩ := row_at6 Zr.out.2 rfl hjl
      obtain ⟨e1, e3⟩ : xq = some ⟨B, 0, none⟩ ∧ cq = cap0 := by injection e with e1 _ e3; exact ⟨e1, e3⟩
      subst e1 e3
      obtain ⟨l1, l2, l3⟩ := LT1.out gs[j] (List.getElem_mem hjl)
      obtain ⟨hnum, hnm⟩ := NH.out gs[j] l1 l3
      obtain ⟨ah, hah⟩ : ∃ ah : Int, (((n + gs[j]) / 18446744073709551616 : Nat) : Int) = ah := ⟨_, rfl⟩
      obtain ⟨al, hal⟩ : ∃ al : Int, (((n + gs[j]) % 18446744073709551616 : Nat) : Int) = al := ⟨_, rfl⟩
      rw [hah] at c1 hnum
      rw [hal] at c2 hnum
      have N1 := hide (fun L f W S' => NU1.out ah al (n + gs[j]) hnum L f W (gs[j] : Int) (by rw [hnm]; rfl) S')
      have R1 := hide (fun L f W (S' : PPt w L v h l b x a g r base N f us W) => has_r6 (i := gs[j]) (t := true) l2 HUS.out S')
      have k0 : (0 : Int) ≤ (gs[j] : Int) := by omega
      obtain ⟨kz, hkz⟩ : ∃ kz : Int, (gs[j] : Int) = kz := ⟨_, rfl⟩
      rw [hkz] at N1 R1 k0
      have k1 : ¬ kz < 0 := by omega
      have HNM := hide hnum
      clear hnum hnm hah hal hkz l1 l2 l3 e
      rcases j with _ | q
      ·have hjl' : (0 : Int) < (gs.length : Nat) := by omega
       simp only [Nat.zero_mul, Nat.zero_add] at c0 c1 c2
       clear HNM NH NU1 SR1 LT1
       go_wp2_with fail
       refine (N1.out _ _ _ Zr.out.1).mono ?_
       rintro e w10 ⟨rfl, hb⟩
       have Z2 := Zr.out.below hb
       clear N1 hb Zr c0 c1 c2
       go_wp2_with fail
       refine wp_region_held_drew (S := (ZP0 w v h l b x a g r base N (usF (lkP v b) N us) us B0 n (.slice (some ⟨B, 0, none⟩) gs.length cq) gs)) (by kernel_rfl) ?hS700 (fun hHeld => ?rest700)
       case hS700 => with_reducible exact Z2.drew
       refine w8 0 ?_ (ga7 rfl) (by kernel_rfl) (fun _ _ _ h => h) ⟨by rfl, ?y701⟩ hHeld ?_
       case y701 => (intro wq hSw; (try simp only [Two, ZP0] at hSw); go_simp; try with_reducible rfl)
       try simp only [Act.put, a7, b7, c7]
       refine w8 1 ((Value.bool false)) (ga7 rfl) (by kernel_rfl) (fun _ _ _ h => h) ⟨by rfl, ?y702⟩ hHeld ?_
       case y702 => (intro wq hSw; (try simp only [Two, ZP0] at hSw); go_simp; (all_goals (first | rfl | (simp; done) | (simp; omega))))
       try simp only [Act.put, a7, b7, c7]
       refine w8 2 ?_ (ga7 rfl) (by kernel_rfl) (fun _ _ _ h => h) ⟨by rfl, ?y703⟩ hHeld ?_
       case y703 => (intro wq hSw; (try simp only [Two, ZP0] at hSw); go_simp; try with_reducible rfl)
       try simp only [Act.put, a7, b7, c7]
       refine w8 3 ?_ (ga7 rfl) (by kernel_rfl) (fun _ _ _ h => h) ⟨by rfl, ?y704⟩ hHeld ?_
       case y704 => (intro wq hSw; (try simp only [Two, ZP0] at hSw); go_simp; try with_reducible rfl)
       try simp only [Act.put, a7, b7, c7]
       refine w8 4 ?_ (ga7 rfl) (by kernel_rfl) (fun _ _ _ h => h) ⟨by rfl, ?y705⟩ hHeld ?_
       case y705 => (intro wq hSw; (try simp only [Two, ZP0] at hSw); go_simp; try with_reducible rfl)
       try simp only [Act.put, a7, b7, c7]
       refine wpAnyH_ready (rs := [5]) (by kernel_rfl) (by simp) ?rdy706
       refine AllReadyH.cons (ga7 rfl) (fun K hK => ?stp706) AllReadyH.nil
       go_simp
       go_wp2_with fail
       (refine (R1.out _ _ _ hHeld.out.1).mono ?_; rintro e w11 ⟨rfl, rfl⟩)
       go_wp2_with fail
       refine hK.out _ _ ?hSn706 (fun hHeld2 => ?rest706)
       case hSn706 => (first | with_reducible exact Z2.drew | with_reducible exact hHeld)
       clear hK K hHeld
       have hHeld := hHeld2
       clear hHeld2
       try simp only [Act.put, a7, b7, c7]
       refine w8 6 ?_ (ga7 rfl) (by kernel_rfl) (fun _ _ _ h => h) ⟨by rfl, ?y707⟩ hHeld ?_
       case y707 => (intro wq hSw; (try simp only [Two, ZP0] at hSw); go_simp; try with_reducible rfl)
       try simp only [Act.put, a7, b7, c7]
       refine w8 7 ?_ (ga7 rfl) (by kernel_rfl) (fun _ _ _ h => h) ⟨by rfl, ?y708⟩ hHeld ?_
       case y708 => (intro wq hSw; (try simp only [Two, ZP0] at hSw); go_simp; try with_reducible rfl)
       try simp only [Act.put, a7, b7, c7]
       refine w8 8 ?_ (ga7 rfl) (by kernel_rfl) (fun _ _ _ h => h) ⟨by rfl, ?y709⟩ hHeld ?_
       case y709 => (intro wq hSw; (try simp only [Two, ZP0] at hSw); go_simp; try with_reducible rfl)
       try simp only [Act.put, a7, b7, c7]
       refine w8 9 ?_ (ga7 rfl) (by kernel_rfl) (fun _ _ _ h => h) ⟨by rfl, ?y710⟩ hHeld ?_
       case y710 => (intro wq hSw; (try simp only [Two, ZP0] at hSw); go_simp; try with_reducible rfl)
       try simp only [Act.put, a7, b7, c7]
       refine w8 10 ((Value.bool false)) (ga7 rfl) (by kernel_rfl) (fun _ _ _ h => h) ⟨by rfl, ?y711⟩ hHeld ?_
       case y711 => (intro wq hSw; (try simp only [Two, ZP0] at hSw); go_simp; (all_goals (first | rfl | (simp; done) | (simp; omega))))
       try simp only [Act.put, a7, b7, c7]
       refine w8 11 ?_ (ga7 rfl) (by kernel_rfl) (fun _ _ _ h => h) ⟨by rfl, ?y712⟩ hHeld ?_
       case y712 => (intro wq hSw; (try simp only [Two, ZP0] at hSw); go_simp; try with_reducible rfl)
       try simp only [Act.put, a7, b7, c7]
       refine wpAnyH_take (i := 12) (oi := _) (v := undef) (ga7 rfl) (by kernel_rfl) (by kernel_rfl) (by kernel_rfl) (fun _ _ _ h => h) (Or.inr ⟨by rfl, rfl⟩) (by assumption) ?rest713
       try simp only [Act.put, a7, b7, c7]
       refine wpAnyH_take (i := 13) (oi := _) (v := undef) (ga7 rfl) (by kernel_rfl) (by kernel_rfl) (by kernel_rfl) (fun _ _ _ h => h) (Or.inr ⟨by rfl, rfl⟩) (by assumption) ?rest714
       try simp only [Act.put, a7, b7, c7]
       refine wpAnyH_take (i := 14) (oi := _) (v := undef) (ga7 rfl) (by kernel_rfl) (by kernel_rfl) (by kernel_rfl) (fun _ _ _ h => h) (Or.inr ⟨by rfl, rfl⟩) (by assumption) ?rest715
       try simp only [Act.put, a7, b7, c7]
       refine wpAnyH_take (i := 15) (oi := _) (v := undef) (ga7 rfl) (by kernel_rfl) (by kernel_rfl) (by kernel_rfl) (fun _ _ _ h => h) (Or.inr ⟨by rfl, rfl⟩) (by assumption) ?rest716
       try simp only [Act.put, a7, b7, c7]
       refine wpAnyH_take (i := 16) (oi := _) (v := undef) (ga7 rfl) (by kernel_rfl) (by kernel_rfl) (by kernel_rfl) (fun _ _ _ h => h) (Or.inr ⟨by rfl, rfl⟩) (by assumption) ?rest717
       try simp only [Act.put, a7, b7, c7]
       refine wpAnyH_take (i := 17) (oi := _) (v := undef) (ga7 rfl) (by kernel_rfl) (by kernel_rfl) (by kernel_rfl) (fun _ _ _ h => h) (Or.inr ⟨by rfl, rfl⟩) (by assumption) ?rest718
       try simp only [Act.put, a7, b7, c7]
       refine wpAnyH_take (i := 18) (oi := _) (v := undef) (ga7 rfl) (by kernel_rfl) (by kernel_rfl) (by kernel_rfl) (fun _ _ _ h => h) (Or.inr ⟨by rfl, rfl⟩) (by assumption) ?rest719
       try simp only [Act.put, a7, b7, c7]
       refine wpAnyH_take (i := 19) (oi := _) (v := undef) (ga7 rfl) (by kernel_rfl) (by kernel_rfl) (by kernel_rfl) (fun _ _ _ h => h) (Or.inr ⟨by rfl, rfl⟩) (by assumption) ?rest720
       try simp only [Act.put, a7, b7, c7]
       refine wpAnyH_take (i := 20) (oi := _) (v := undef) (ga7 rfl) (by kernel_rfl) (by kernel_rfl) (by kernel_rfl) (fun _ _ _ h => h) (Or.inr ⟨by rfl, rfl⟩) (by assumption) ?rest721
       try simp only [Act.put, a7, b7, c7]
       refine wpAnyH_take (i := 21) (oi := _) (v := undef) (ga7 rfl) (by kernel_rfl) (by kernel_rfl) (by kernel_rfl) (fun _ _ _ h => h) (Or.inr ⟨by rfl, rfl⟩) (by assumption) ?rest722
       try simp only [Act.put, a7, b7, c7]
       refine wpAnyH_take (i := 22) (oi := _) (v := undef) (ga7 rfl) (by kernel_rfl) (by kernel_rfl) (by kernel_rfl) (fun _ _ _ h => h) (Or.inr ⟨by rfl, rfl⟩) (by assumption) ?rest723
       try simp only [Act.put, a7, b7, c7]
       refine w8 23 ?_ (ga7 rfl) (by kernel_rfl) (fun _ _ _ h => h) ⟨by rfl, ?y724⟩ hHeld ?_
       case y724 => (intro wq hSw; (try simp only [Two, ZP0] at hSw); go_simp; try with_reducible rfl)
       try simp only [Act.put, a7, b7, c7]
       refine w8 24 ?_ (ga7 rfl) (by kernel_rfl) (fun _ _ _ h => h) ⟨by rfl, ?y725⟩ hHeld ?_
       case y725 => (intro wq hSw; (try simp only [Two, ZP0] at hSw); go_simp; try with_reducible rfl)
       try simp only [Act.put, a7, b7, c7]
       refine wpAnyH_done (by kernel_rfl) ?fin700 _
       have Z3 := hide hHeld
       clear hHeld Z2 R1
       go_wp2
       go_roundw
       case rel => exact ⟨0 + 1, by omega, by go_num, Z3⟩
       case measure => simp [intOf]; omega
      ·have hjl' : (q : Int) + 1 < (gs.length : Nat) := by omega
       obtain ⟨B', cap', e', p0, p1, p2⟩ := row_at6 Zr.out.2 rfl (show q < gs.length by omega)
       obtain ⟨e1, e3⟩ : B' = B ∧ cap' = cq := by injection e' with e1 _ e3; injection e1 with e1; injection e1 with e1; exact ⟨e1.symm, e3.symm⟩
       subst e1 e3
       obtain ⟨l1, l2, l3⟩ := LT1.out gs[q] (List.getElem_mem (by omega))
       obtain ⟨hnumq, _⟩ := NH.out gs[q] l1 l3
       obtain ⟨ph, hph⟩ : ∃ ph : Int, (((n + gs[q]) / 18446744073709551616 : Nat) : Int) = ph := ⟨_, rfl⟩
       obtain ⟨pl, hpl⟩ : ∃ pl : Int, (((n + gs[q]) % 18446744073709551616 : Nat) : Int) = pl := ⟨_, rfl⟩
       rw [hph] at p1 hnumq
       rw [hpl] at p2 hnumq
       have CM := hide (fun W => cmp_lt (v := v) hnumq HNM.out (by have := SR1.out q hjl; omega) W)
       have w1 : IntKind.i64.wrap (q : Int) = (q : Int) := by rw [IntKind.wrap_i64]; omega
       have w2' : ((q : Int) + 1).toNat = q + 1 := by omega
       have hq' : (q : Int) < (gs.length : Nat) := by omega
       have hz1 : (q : Int) + 1 > 0 := by omega
       have hz2 : 0 ≤ (q : Int) + 1 := by omega
       clear hnumq hph hpl l1 l2 l3 e' NH NU1 SR1 LT1 HNM
       go_wp2_with fail
       refine (N1.out _ _ _ Zr.out.1).mono ?_
       rintro e w10 ⟨rfl, hb⟩
       have bl := cell_in c0
       have Z2 : ZP B' q v ph pl ah al w h l b x a g r base N (usF (lkP v b) N us) us B0 n (.slice (some ⟨B', 0, none⟩) gs.length cap') gs w10 := by
        have ee := (bcell hb).1
        exact ⟨⟨(ee _ _ bl).trans p0, (ee _ _ bl).trans p1, (ee _ _ bl).trans p2, (ee _ _ bl).trans c0, (ee _ _ bl).trans c1, (ee _ _ bl).trans c2⟩, Zr.out.1.below hb, own_below Zr.out.2 hb, Nat.lt_of_lt_of_le bl hb.size⟩
       clear N1 hb Zr c0 c1 c2 p0 p1 p2 bl
       go_wp2_with fail
       refine wp_region_held_drew (S := (ZP B' q v ph pl ah al w h l b x a g r base N (usF (lkP v b) N us) us B0 n (.slice (some ⟨B', 0, none⟩) gs.length cap') gs)) (by kernel_rfl) ?hS800 (fun hHeld => ?rest800)
       case hS800 => with_reducible exact Z2.drew
       refine w8 0 ?_ (ga7 rfl) (by kernel_rfl) (fun _ _ _ h => h) ⟨by rfl, ?y801⟩ hHeld ?_
       case y801 => (intro wq hSw; (try simp only [Two, ZP] at hSw); go_simp; try with_reducible rfl)
       try simp only [Act.put, a7, b7, c7]
       refine w8 1 ((Value.bool false)) (ga7 rfl) (by kernel_rfl) (fun _ _ _ h => h) ⟨by rfl, ?y802⟩ hHeld ?_
       case y802 => (intro wq hSw; (try simp only [Two, ZP] at hSw); go_simp; (all_goals (first | rfl | (simp; done) | (simp; omega))))
       try simp only [Act.put, a7, b7, c7]
       refine w8 2 ?_ (ga7 rfl) (by kernel_rfl) (fun _ _ _ h => h) ⟨by rfl, ?y803⟩ hHeld ?_
       case y803 => (intro wq hSw; (try simp only [Two, ZP] at hSw); go_simp; try with_reducible rfl)
       try simp only [Act.put, a7, b7, c7]
       refine w8 3 ?_ (ga7 rfl) (by kernel_rfl) (fun _ _ _ h => h) ⟨by rfl, ?y804⟩ hHeld ?_
       case y804 => (intro wq hSw; (try simp only [Two, ZP] at hSw); go_simp; try with_reducible rfl)
       try simp only [Act.put, a7, b7, c7]
       refine w8 4 ?_ (ga7 rfl) (by kernel_rfl) (fun _ _ _ h => h) ⟨by rfl, ?y805⟩ hHeld ?_
       case y805 => (intro wq hSw; (try simp only [Two, ZP] at hSw); go_simp; try with_reducible rfl)
       try simp only [Act.put, a7, b7, c7]
       refine wpAnyH_ready (rs := [5]) (by kernel_rfl) (by simp) ?rdy806
       refine AllReadyH.cons (ga7 rfl) (fun K hK => ?stp806) AllReadyH.nil
       go_simp
       go_wp2_with fail
       (refine (R1.out _ _ _ hHeld.2.out.1).mono ?_; rintro e w11 ⟨rfl, rfl⟩)
       go_wp2_with fail
       refine hK.out _ _ ?hSn806 (fun hHeld2 => ?rest806)
       case hSn806 => (first | with_reducible exact Z2.drew | with_reducible exact hHeld)
       clear hK K hHeld
       have hHeld := hHeld2
       clear hHeld2
       try simp only [Act.put, a7, b7, c7]
       refine w8 6 ?_ (ga7 rfl) (by kernel_rfl) (fun _ _ _ h => h) ⟨by rfl, ?y807⟩ hHeld ?_
       case y807 => (intro wq hSw; (try simp only [Two, ZP] at hSw); go_simp; try with_reducible rfl)
       try simp only [Act.put, a7, b7, c7]
       refine w8 7 ?_ (ga7 rfl) (by kernel_rfl) (fun _ _ _ h => h) ⟨by rfl, ?y808⟩ hHeld ?_
       case y808 => (intro wq hSw; (try simp only [Two, ZP] at hSw); go_simp; try with_reducible rfl)
       try simp only [Act.put, a7, b7, c7]
       refine w8 8 ?_ (ga7 rfl) (by kernel_rfl) (fun _ _ _ h => h) ⟨by rfl, ?y809⟩ hHeld ?_
       case y809 => (intro wq hSw; (try simp only [Two, ZP] at hSw); go_simp; try with_reducible rfl)
       try simp only [Act.put, a7, b7, c7]
       refine w8 9 ?_ (ga7 rfl) (by kernel_rfl) (fun _ _ _ h => h) ⟨by rfl, ?y810⟩ hHeld ?_
       case y810 => (intro wq hSw; (try simp only [Two, ZP] at hSw); go_simp; try with_reducible rfl)
       try simp only [Act.put, a7, b7, c7]
       refine w8 10 ((Value.bool true)) (ga7 rfl) (by kernel_rfl) (fun _ _ _ h => h) ⟨by rfl, ?y811⟩ hHeld ?_
       case y811 => (intro wq hSw; (try simp only [Two, ZP] at hSw); go_simp; (all_goals (first | rfl | (simp; done) | (simp; omega))))
       try simp only [Act.put, a7, b7, c7]
       refine w8 11 ?_ (ga7 rfl) (by kernel_rfl) (fun _ _ _ h => h) ⟨by rfl, ?y812⟩ hHeld ?_
       case y812 => (intro wq hSw; (try simp only [Two, ZP] at hSw); go_simp; try with_reducible rfl)
       try simp only [Act.put, a7, b7, c7]
       refine w8 12 ?_ (ga7 rfl) (by kernel_rfl) (fun _ _ _ h => h) ⟨by rfl, ?y813⟩ hHeld ?_
       case y813 => (intro wq hSw; (try simp only [Two, ZP] at hSw); go_simp; try with_reducible rfl)
       try simp only [Act.put, a7, b7, c7]
       refine w8 13 ?_ (ga7 rfl) (by kernel_rfl) (fun _ _ _ h => h) ⟨by rfl, ?y814⟩ hHeld ?_
       case y814 => (intro wq hSw; (try simp only [Two, ZP] at hSw); go_simp; try with_reducible rfl)
       try simp only [Act.put, a7, b7, c7]
       refine w8 14 ?_ (ga7 rfl) (by kernel_rfl) (fun _ _ _ h => h) ⟨by rfl, ?y815⟩ hHeld ?_
       case y815 => (intro wq hSw; (try simp only [Two, ZP] at hSw); go_simp; try with_reducible rfl)
       try simp only [Act.put, a7, b7, c7]
       refine w8 15 ?_ (ga7 rfl) (by kernel_rfl) (fun _ _ _ h => h) ⟨by rfl, ?y816⟩ hHeld ?_
       case y816 => (intro wq hSw; (try simp only [Two, ZP] at hSw); go_simp; try with_reducible rfl)
       try simp only [Act.put, a7, b7, c7]
       refine w8 16 ?_ (ga7 rfl) (by kernel_rfl) (fun _ _ _ h => h) ⟨by rfl, ?y817⟩ hHeld ?_
       case y817 => (intro wq hSw; (try simp only [Two, ZP] at hSw); go_simp; try with_reducible rfl)
       try simp only [Act.put, a7, b7, c7]
       refine w8 17 ?_ (ga7 rfl) (by kernel_rfl) (fun _ _ _ h => h) ⟨by rfl, ?y818⟩ hHeld ?_
       case y818 => (intro wq hSw; (try simp only [Two, ZP] at hSw); go_simp; try with_reducible rfl)
       try simp only [Act.put, a7, b7, c7]
       refine w8 18 ?_ (ga7 rfl) (by kernel_rfl) (fun _ _ _ h => h) ⟨by rfl, ?y819⟩ hHeld ?_
       case y819 => (intro wq hSw; (try simp only [Two, ZP] at hSw); go_simp; try with_reducible rfl)
       try simp only [Act.put, a7, b7, c7]
       refine w8 19 ?_ (ga7 rfl) (by kernel_rfl) (fun _ _ _ h => h) ⟨by rfl, ?y820⟩ hHeld ?_
       case y820 => (intro wq hSw; (try simp only [Two, ZP] at hSw); go_simp; try with_reducible rfl)
       try simp only [Act.put, a7, b7, c7]
       refine w8 20 ?_ (ga7 rfl) (by kernel_rfl) (fun _ _ _ h => h) ⟨by rfl, ?y821⟩ hHeld ?_
       case y821 => (intro wq hSw; (try simp only [Two, ZP] at hSw); go_simp; try with_reducible rfl)
       try simp only [Act.put, a7, b7, c7]
       refine wpAnyH_ready (rs := [21]) (by kernel_rfl) (by simp) ?rdy822
       refine AllReadyH.cons (ga7 rfl) (fun K hK => ?stp822) AllReadyH.nil
       go_simp
       go_wp2_with fail
       (refine (CM.out _).mono ?_; rintro e w12 ⟨rfl, hb12⟩)
       go_wp2_with fail
       refine hK.out _ _ ?hSn822 (fun hHeld2 => ?rest822)
       case hSn822 => with_reducible exact hHeld.below hb12
       clear hK K hHeld
       have hHeld := hHeld2
       clear hHeld2
       try simp only [Act.put, a7, b7, c7]
       refine w8 22 ((Value.bool false)) (ga7 rfl) (by kernel_rfl) (fun _ _ _ h => h) ⟨by rfl, ?y823⟩ hHeld ?_
       case y823 => (intro wq hSw; (try simp only [Two, ZP] at hSw); go_simp; (all_goals (first | rfl | (simp; done) | (simp; omega))))
       try simp only [Act.put, a7, b7, c7]
       refine w8 23 ?_ (ga7 rfl) (by kernel_rfl) (fun _ _ _ h => h) ⟨by rfl, ?y824⟩ hHeld ?_
       case y824 => (intro wq hSw; (try simp only [Two, ZP] at hSw); go_simp; try with_reducible rfl)
       try simp only [Act.put, a7, b7, c7]
       refine w8 24 ?_ (ga7 rfl) (by kernel_rfl) (fun _ _ _ h => h) ⟨by rfl, ?y825⟩ hHeld ?_
       case y825 => (intro wq hSw; (try simp only [Two, ZP] at hSw); go_simp; try with_reducible rfl)
       try simp only [Act.put, a7, b7, c7]
       refine wpAnyH_done (by kernel_rfl) ?fin800 _
       have Z3 : Hid (ZP0 w v h l b x a g r base N (usF (lkP v b) N us) us B0 n (.slice (some ⟨B', 0, none⟩) gs.length cap') gs _) := ⟨hHeld.2.out.1, hHeld.2.out.2.1⟩
       clear hHeld Z2 R1 CM
       go_wp2
       go_roundw
       case rel => exact ⟨q + 1 + 1, by omega, by go_num, Z3⟩
       case measure => simp [intOf]; omega
     ·have hjl' : ¬ (j : Int) < (gs.length : Nat) := by omega
      have B9 := hide Zr.out.1.kn.bel
      clear NH NU1 SR1 LT1 Zr
      go_wp2
      go_ret
      exact ⟨by first | rfl | simp, B9.out⟩

theorem pplay_walk {v : Bool} {h l b : Int} {n len cap bo oo : Nat} {xo : Option Addr} (hp : IsNum h l n) (w : World) (hA : PActsAt w xo len bo oo) (hL : LW w) (hT : TB w) :
  Calls Tryz.prog 4 #[pv v h l b, .slice xo len cap] w fun e w' => e = .returned (.bool true) ∧ Below w.heap.size w w' := by
 by_cases h4 : 4 ≤ szP v n b
 ·by_cases h5 : szP v n b ≤ 512
  ·exact pplay_main hp h4 h5 w hA hL hT
  ·exact pplay_big hp h4 h5 w hL hT
 ·exact pplay_small hp h4 w hL hT
end Go.Proofs.YtgbpnekinbdadaaGreatDoor
