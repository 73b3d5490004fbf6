/-
  The reference's Play: an Append to a file that wasn't there.
-/
import Derived.Test.YtoppmpodiofhhaaDkR4
namespace Go.Proofs.Ytoppmpodiofhhaa
open Go.ChangeShapes Go.WideShapes Go.ChangeAt Go.RowKit
set_option linter.unusedVariables false
set_option linter.unusedSimpArgs false

theorem getP_no {fs : List Pf} {n : Int} (h : getP fs n = none) : ∀ g, g ∈ fs → g.no ≠ n := by
  intro g hg e
  have := List.find?_eq_none.1 h g hg
  simp [e] at this

theorem atI_no {fs : List Pf} {n : Int} (h : getP fs n = none) : atI fs n = -1 :=
  atI_none (fun j g _ hg => getP_no h g (List.mem_of_getElem? hg))

theorem setP_insP {x : Pf} {u : Pf → Pf} (hu : (u x).no = x.no) : ∀ {l : List Pf}, (∀ g, g ∈ l → g.no ≠ x.no) → setP (insP x l) x.no u = insP (u x) l
  | [], _ => by simp [insP, setP]
  | y :: r, h => by
    have h1 := h y (by simp)
    simp only [insP]
    by_cases e : x.no < y.no
    · rw [if_pos e, if_pos (by rw [hu]; exact e)]
      unfold setP
      rw [List.map_cons, if_pos rfl]
      congr 1
      conv => rhs; rw [← List.map_id (y :: r)]
      refine List.map_congr_left (fun g hg => ?_)
      rw [if_neg (h g hg)]; rfl
    · rw [if_neg e, if_neg (by rw [hu]; exact e)]
      have q := setP_insP hu (l := r) (fun g hg => h g (by simp [hg]))
      unfold setP at q ⊢
      rw [List.map_cons, if_neg h1, q]

/-- Where the new file stands, and what becomes of it. -/
theorem new_split {fs : List Pf} {A : Int} (h : getP fs A = none) (t : List UInt8) (hs : (insP ⟨A, [], 0⟩ fs).Pairwise (fun a b => a.no < b.no)) : ∃ pre rr, insP ⟨A, [], 0⟩ fs = pre ++ ⟨A, [], 0⟩ :: rr ∧ (∀ g, g ∈ pre → g.no ≠ A) ∧ insP ⟨A, t, 0⟩ fs = pre ++ ⟨A, [] ++ t, 0⟩ :: rr := by
  have hn := getP_no h
  have q := getP_insP ⟨A, [], 0⟩ A fs hn
  rw [if_pos rfl] at q
  obtain ⟨pre, rr, h1, _, h3⟩ := getP_split q
  have h4 := sorted_right (h1 ▸ hs)
  refine ⟨pre, rr, h1, h3, ?_⟩
  have e := setP_insP (x := ⟨A, [], 0⟩) (u := fun f => ⟨f.no, f.bs ++ t, f.safe⟩) rfl hn
  have e2 := setP_mid (pre := pre) (r := rr) (f := ⟨A, [], 0⟩) (x := fun f => ⟨f.no, f.bs ++ t, f.safe⟩) h3 h4
  rw [h1] at e
  rw [e2] at e
  exact e.symm

theorem insP_sorted {x : Pf} : ∀ {l : List Pf}, l.Pairwise (fun a b => a.no < b.no) → (∀ g, g ∈ l → g.no ≠ x.no) → (insP x l).Pairwise (fun a b => a.no < b.no)
  | [], _, _ => by simp [insP]
  | y :: r, h, hx => by
    obtain ⟨h1, h2⟩ := List.pairwise_cons.1 h
    simp only [insP]
    by_cases e : x.no < y.no
    · rw [if_pos e]
      refine List.pairwise_cons.2 ⟨fun g hg => ?_, h⟩
      rcases List.mem_cons.1 hg with rfl | hg'
      · exact e
      · have := h1 g hg'; omega
    · rw [if_neg e]
      refine List.pairwise_cons.2 ⟨fun g hg => ?_, insP_sorted h2 (fun g hg => hx g (by simp [hg]))⟩
      rcases mem_insP hg with rfl | hg'
      · have := hx y (by simp); omega
      · exact h1 g hg'

set_option maxRecDepth 100000 in
set_option maxHeartbeats 2000000 in
theorem rplay_full {B r : Nat} {v : Value} {fs : List Pf} {st : Nat} (no N : Int) (t : ByteArray) (x : Option Addr) (n c : Nat) (n1 : 1 ≤ no) (n2 : no ≤ 1000000) (hg : getP fs no = none) (ht : t.size ≤ 1048576) (hlen : 110 ≤ fs.length) {W : World} (hB : B ≤ W.heap.size) (R : RdAt B r v fs st W) :
    Calls Try.prog 14 #[.pointer (some ⟨r, 0, none⟩), .agg #[.int .i64 1, .int .i64 no, .int .i64 N, .string t, .slice x n c]] W fun e W' => RPost B r 9 fs st W e W' := by
  have bl : Below W.heap.size W (W.alloc (.cells #[.int .i64 1, .int .i64 no, .int .i64 N, .string t, .slice x n c] 28)) := by repeat (first | with_reducible exact Below.refl _ _ | with_reducible refine Below.drew ?_ | with_reducible refine Below.alloc ?_ (by first | omega | (simp <;> omega)) _ | with_reducible refine Below.setCell ?_ (by first | omega | (simp <;> omega)) _)
  have Ra := R.below bl
  have AT := hide (rat_c no Ra)
  rw [atI_no hg] at AT
  have LV := lenR Ra.row
  have c0 : (W.alloc (.cells #[.int .i64 1, .int .i64 no, .int .i64 N, .string t, .slice x n c] 28)).cell? ⟨r, 0, none⟩ = some v := Ra.hd.cell 0
  have co : (W.alloc (.cells #[.int .i64 1, .int .i64 no, .int .i64 N, .string t, .slice x n c] 28)).cell? ⟨r, 1, none⟩ = some (.bool false) := Ra.hd.cell 1
  have hlr := Ra.hd.lt
  have BX := Blk.new W #[.int .i64 1, .int .i64 no, .int .i64 N, .string t, .slice x n c] 28
  have b0 := BX.cell 0
  have b1 := BX.cell 1
  have b3 := BX.cell 3
  have hlx := BX.lt
  simp only [List.getElem?_toArray, List.getElem?_cons_zero, List.getElem?_cons_succ] at b0 b1 b3
  have RA := hide Ra
  have BXH := hide BX
  have BL := hide bl
  obtain ⟨m, hm⟩ : ∃ m, fs.length = m := ⟨_, rfl⟩
  have m110 : m ≤ 110 := by rw [← hm]; exact R.len
  have HM := hide hm
  rw [hm] at LV hlen
  have z2 : ¬ ((t.size : Int) > 1048576) := by omega
  have d2 : decide ((t.size : Int) > 1048576) = false := decide_eq_false z2
  have hl' : (110 : Int) ≤ (m : Int) := by omega
  clear R Ra BX bl ht hm hlen
  go_enter Try.func14, Try.ntmps14
  go_wp2_with fail
  refine AT.out.mono ?_
  rintro e w1 ⟨rfl, rfl⟩
  clear AT
  go_upto_region 39 with fail
  go_quiet (fail)
  have BD := below_drewN9 (Below.refl (W.alloc (.cells #[.int .i64 1, .int .i64 no, .int .i64 N, .string t, .slice x n c] 28)).heap.size (W.alloc (.cells #[.int .i64 1, .int .i64 no, .int .i64 N, .string t, .slice x n c] 28))) nq
  have R3 := hide (RA.out.below BD)
  have B3 := hide (BL.out.trans (BD.mono BL.out.size))
  clear RA BXH BL BD b1 b3 hlx d2 z2
  go_wp2_with fail
  go_ret
  exact ⟨rfl, _, R3.out, Ch.below B3.out⟩

set_option maxRecDepth 100000 in
set_option maxHeartbeats 2000000 in
theorem rplay_new {B r : Nat} {v : Value} {fs : List Pf} {st : Nat} (no N : Int) (t : ByteArray) (x : Option Addr) (n c : Nat) (hst : st < 1000000000) (hsort : fs.Pairwise (fun a b => a.no < b.no)) (n1 : 1 ≤ no) (n2 : no ≤ 1000000) (hg : getP fs no = none) (ht : t.size ≤ 1048576) (hlen : fs.length < 110) {W : World} (hB : B ≤ W.heap.size) (R : RdAt B r v fs st W) :
    Calls Try.prog 14 #[.pointer (some ⟨r, 0, none⟩), .agg #[.int .i64 1, .int .i64 no, .int .i64 N, .string t, .slice x n c]] W fun e W' => RPost B r 0 (insP ⟨no, t.data.toList, 0⟩ fs) (st + 1) W e W' := by
  have bl : Below W.heap.size W (W.alloc (.cells #[.int .i64 1, .int .i64 no, .int .i64 N, .string t, .slice x n c] 28)) := by repeat (first | with_reducible exact Below.refl _ _ | with_reducible refine Below.drew ?_ | with_reducible refine Below.alloc ?_ (by first | omega | (simp <;> omega)) _ | with_reducible refine Below.setCell ?_ (by first | omega | (simp <;> omega)) _)
  have Ra := R.below bl
  have AT := hide (rat_c no Ra)
  rw [atI_no hg] at AT
  have LV := lenR Ra.row
  have c0 : (W.alloc (.cells #[.int .i64 1, .int .i64 no, .int .i64 N, .string t, .slice x n c] 28)).cell? ⟨r, 0, none⟩ = some v := Ra.hd.cell 0
  have co : (W.alloc (.cells #[.int .i64 1, .int .i64 no, .int .i64 N, .string t, .slice x n c] 28)).cell? ⟨r, 1, none⟩ = some (.bool false) := Ra.hd.cell 1
  have hlr := Ra.hd.lt
  have BX := Blk.new W #[.int .i64 1, .int .i64 no, .int .i64 N, .string t, .slice x n c] 28
  have b0 := BX.cell 0
  have b1 := BX.cell 1
  have b3 := BX.cell 3
  have hlx := BX.lt
  simp only [List.getElem?_toArray, List.getElem?_cons_zero, List.getElem?_cons_succ] at b0 b1 b3
  have RA := hide Ra
  have BXH := hide BX
  have BL := hide bl
  obtain ⟨m, hm⟩ : ∃ m, fs.length = m := ⟨_, rfl⟩
  have m110 : m ≤ 110 := by rw [← hm]; exact R.len
  have HM := hide hm
  rw [hm] at LV hlen
  have z2 : ¬ ((t.size : Int) > 1048576) := by omega
  have d2 : decide ((t.size : Int) > 1048576) = false := decide_eq_false z2
  have hl' : ¬ (110 : Int) ≤ (m : Int) := by omega
  obtain ⟨pre, rr, s1, s2, s3⟩ := new_split hg t.data.toList (insP_sorted hsort (getP_no hg))
  have PU := hide (fun (W1 : World) (h : RdAt B r v fs st W1) (h1 : B ≤ W1.heap.size) => rput_c no n1 n2 (getP_no hg) (show fs.length < 110 by omega) h1 h)
  rw [s1] at PU
  have AT2 := hide (fun (W1 : World) (u : Value) (h : RdAt B r u (pre ++ ⟨no, [], 0⟩ :: rr) st W1) => rat_c no h)
  have ea : atI (pre ++ ⟨no, [], 0⟩ :: rr) no = (pre.length : Int) := atI_mid (f := ⟨no, [], 0⟩) s2
  rw [ea] at AT2
  have HS3 := hide s3
  have TM := hide (fun (W1 : World) (g cap : Nat) (h : RdAt B r (.slice (some ⟨g, 0, none⟩) (pre ++ (⟨no, [], 0⟩ : Pf) :: rr).length cap) (pre ++ (⟨no, [], 0⟩ : Pf) :: rr) st W1) => tail_more h t (show ([] : List UInt8).length + t.size ≤ 1048576 by simpa using ht) rfl)
  have HT := hide ht
  have HBB := hide hB
  have HSP := hide s1
  clear R Ra BX bl ht hm hlen s1 s2 s3 ea hsort hg
  go_enter Try.func14, Try.ntmps14
  go_wp2_with fail
  refine AT.out.mono ?_
  rintro e w1 ⟨rfl, rfl⟩
  clear AT
  go_upto_region 39 with fail
  go_quiet (fail)
  have BD := below_drewN9 (Below.refl (W.alloc (.cells #[.int .i64 1, .int .i64 no, .int .i64 N, .string t, .slice x n c] 28)).heap.size (W.alloc (.cells #[.int .i64 1, .int .i64 no, .int .i64 N, .string t, .slice x n c] 28))) nq
  have R3 := hide (RA.out.below BD)
  have B3 := hide (BL.out.trans (BD.mono BL.out.size))
  have X3 := BXH.out.below BD
  have b1' := X3.cell 1
  simp only [List.getElem?_toArray, List.getElem?_cons_zero, List.getElem?_cons_succ] at b1'
  have c0' : ((W.alloc (.cells #[.int .i64 1, .int .i64 no, .int .i64 N, .string t, .slice x n c] 28)).drewN nq).cell? ⟨r, 0, none⟩ = some v := c0
  have hrl : r < ((W.alloc (.cells #[.int .i64 1, .int .i64 no, .int .i64 N, .string t, .slice x n c] 28)).drewN nq).heap.size := hlr
  have hxl : W.heap.size < ((W.alloc (.cells #[.int .i64 1, .int .i64 no, .int .i64 N, .string t, .slice x n c] 28)).drewN nq).heap.size := hlx
  have HX3 := hide X3
  obtain ⟨w3, hw3⟩ : ∃ w3, (W.alloc (.cells #[.int .i64 1, .int .i64 no, .int .i64 N, .string t, .slice x n c] 28)).drewN nq = w3 := ⟨_, rfl⟩
  obtain ⟨xb, hxb⟩ : ∃ xb, W.heap.size = xb := ⟨_, rfl⟩
  have HXB := hide hxb
  rw [hw3] at R3 B3 b1' c0' hrl hxl HX3 ⊢
  rw [hxb] at b1' hxl HX3 ⊢
  have HB3 := hide (Nat.le_trans HBB.out B3.out.size)
  clear RA BXH BL BD X3 b0 b1 b3 c0 co hlr hlx hw3 hxb d2 z2
  go_wp2_with fail
  refine (PU.out w3 R3.out HB3.out).mono ?_
  rintro e w4 ⟨rfl, u4, hR, hC⟩
  have R4 := hide hR
  have C4 := hide ((Ch.below B3.out).nextR hC)
  have X4 := hC.farR HX3.out ⟨by decide, by decide⟩
  have x1 := X4.cell 1
  simp only [List.getElem?_toArray, List.getElem?_cons_zero, List.getElem?_cons_succ] at x1
  have lx4 := X4.lt
  have HX4 := hide X4
  clear hR hC PU R3 B3 HX3 X4 HB3 b1' c0' hrl hxl LV
  go_wp2_with fail
  refine (AT2.out w4 u4 R4.out).mono ?_
  rintro e w5 ⟨rfl, rfl⟩
  clear AT2
  have RW := R4.out.row
  rcases RW.2 with ⟨rfl, h0⟩ | ⟨g, cap, cur, rfl, -, -, h3, h4, -, -⟩
  · simp at h0
  obtain ⟨q0, q1, q2⟩ := flat_at (mid_at pre rr ⟨no, [], 0⟩)
  have lp : pre.length < (pre ++ (⟨no, [], 0⟩ : Pf) :: rr).length := by simp
  have e2 : w5.cell? ⟨g, pre.length * 3 + 2, none⟩ = some (.string (tlS ⟨no, [], 0⟩)) := (World.ownsRow.cellAt RW (pre.length * 3 + 2) (by omega)).trans q2
  have c0' : w5.cell? ⟨r, 0, none⟩ = some (.slice (some ⟨g, 0, none⟩) (pre ++ (⟨no, [], 0⟩ : Pf) :: rr).length cap) := R4.out.hd.cell 0
  have hrl := R4.out.hd.lt
  have x3 := HX4.out.cell 3
  simp only [List.getElem?_toArray, List.getElem?_cons_zero, List.getElem?_cons_succ] at x3
  have fz : w5.frozen? ⟨g, pre.length * 3 + 2, none⟩ = false := by
    obtain ⟨_, _, cur, hc⟩ := rowR_block R4.out.row (k := g) rfl
    exact Blk.frozen (show Blk _ g cur 60 from hc) _
  have gr : g ≠ r := by
    obtain ⟨_, _, cur, hc⟩ := rowR_block R4.out.row (k := g) rfl
    exact blk_ne (show Blk _ g cur 60 from hc) R4.out.hd (by decide)
  have gx : g ≠ xb := by
    obtain ⟨_, _, cur, hc⟩ := rowR_block R4.out.row (k := g) rfl
    exact blk_ne (show Blk _ g cur 60 from hc) HX4.out (by decide)
  have hgl : g < w5.heap.size := by
    obtain ⟨_, h, _⟩ := rowR_block R4.out.row (k := g) rfl
    exact h
  have ml : (pre ++ (⟨no, [], 0⟩ : Pf) :: rr).length ≤ 110 := R4.out.len
  have zz : (tlS ⟨no, [], 0⟩).size + t.size ≤ 9223372036854775807 := by
    have q : (tlS (⟨no, [], 0⟩ : Pf)).size = 0 := by rw [tlS_size]; rfl
    have := HT.out
    omega
  have TMg := hide (TM.out w5 g cap R4.out)
  obtain ⟨tl, htl⟩ : ∃ tl, tlS ⟨no, [], 0⟩ = tl := ⟨_, rfl⟩
  obtain ⟨k, hk⟩ : ∃ k, pre.length = k := ⟨_, rfl⟩
  obtain ⟨m2, hm2⟩ : ∃ m2, (pre ++ (⟨no, [], 0⟩ : Pf) :: rr).length = m2 := ⟨_, rfl⟩
  rw [htl] at e2 zz TMg
  rw [hk] at e2 fz lp TMg ⊢
  rw [hm2] at c0' lp ml h3 TMg
  have kn : (k : Int) < (m2 : Int) := by omega
  clear RW q0 q1 q2 HX4 x1 hm2 hk htl R4 TM
  go_upto_region 46 with fail
  go_region
  have R6 := hide (TMg.out.1.below (Below.refl _ _).drew)
  have C6 := hide (TMg.out.2.nextR (Ch.below (Below.refl _ _).drew))
  have SC := hide (rstep_c hst R6.out)
  clear TMg R6 x3 e2 c0' fz hgl zz hst
  go_wp2_with fail
  refine SC.out.mono ?_
  rintro e w6 ⟨rfl, hR, hC⟩
  have R7 := hide hR
  have C7 := hide (C4.out.nextR (C6.out.nextR hC))
  clear hR hC SC C6 C4
  go_wp2_with fail
  go_ret
  have R8 := R7.out
  rw [← HS3.out] at R8
  exact ⟨rfl, _, R8, C7.out⟩

end Go.Proofs.Ytoppmpodiofhhaa
