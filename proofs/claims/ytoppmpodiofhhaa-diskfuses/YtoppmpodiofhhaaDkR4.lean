/-
  The reference's Play: an Append.
-/
import Derived.Test.YtoppmpodiofhhaaDkR3
import Derived.BigRegion
import Derived.RegionTactic
namespace Go.Proofs.Ytoppmpodiofhhaa
open Go.ChangeShapes Go.WideShapes Go.ChangeAt Go.RowKit
set_option linter.unusedVariables false
set_option linter.unusedSimpArgs false

/-- What Play leaves. -/
def RPost (B r : Nat) (v : Int) (fs : List Pf) (st : Nat) (W : World) (e : Ending) (W' : World) : Prop := e = .returned (.int .i64 v) ∧ ∃ u, RdAt B r u fs st W' ∧ Ch (MineR B W) W W'

theorem RPost.box {B r : Nat} {v : Int} {fs : List Pf} {st : Nat} {W Wa : World} (k : Below W.heap.size W Wa) {e : Ending} {W' : World} (h : RPost B r v fs st Wa e W') : RPost B r v fs st W e W' := by
  obtain ⟨h1, u, h2, h3⟩ := h
  exact ⟨h1, u, h2, (Ch.below k).nextR h3⟩

/-- One more piece in a file's tail. -/
theorem tail_more {B r g n cap : Nat} {pre rr : List Pf} {f : Pf} {st : Nat} {W : World} (R : RdAt B r (.slice (some ⟨g, 0, none⟩) n cap) (pre ++ f :: rr) st W) (t : ByteArray) (hl : f.bs.length + t.size ≤ 1048576) (hn : n = (pre ++ f :: rr).length) :
    RdAt B r (.slice (some ⟨g, 0, none⟩) n cap) (pre ++ ⟨f.no, f.bs ++ t.data.toList, f.safe⟩ :: rr) st (W.setCell ⟨g, pre.length * 3 + 2, none⟩ (.string (tlS f ++ t))) ∧ Ch (MineR B W) W (W.setCell ⟨g, pre.length * 3 + 2, none⟩ (.string (tlS f ++ t))) := by
  have ok := R.ok f (by simp)
  have O := R.row
  rw [← hn] at O
  have O2 := row_cell O (pre.length * 3 + 2) (.string (tlS f ++ t))
  have e := flat_tail (pre := pre) (rr := rr) (f := f) (h := ⟨f.no, f.bs ++ t.data.toList, f.safe⟩) rfl (sfS_more ok.1 t)
  rw [tlS_more ok.1 t] at e
  rw [e] at O2
  refine R.elem (h := ⟨f.no, f.bs ++ t.data.toList, f.safe⟩) ?_ ?_ ?_
  · exact Ch.cell W g _ _
  · rw [show (pre ++ (⟨f.no, f.bs ++ t.data.toList, f.safe⟩ : Pf) :: rr).length = n by rw [hn]; simp]
    exact O2
  · refine ⟨?_, ?_, ok.2.2⟩
    · show f.safe ≤ (f.bs ++ t.data.toList).length
      rw [List.length_append]; have := ok.1; omega
    · show (f.bs ++ t.data.toList).length ≤ 1048576
      rw [List.length_append, str_len]; exact hl

set_option maxRecDepth 100000 in
set_option maxHeartbeats 2000000 in
theorem rplay_found {B r : Nat} {v : Value} {pre rr : List Pf} {f : Pf} {st : Nat} (N : Int) (t : ByteArray) (x : Option Addr) (n c : Nat) (hst : st < 1000000000) (hpre : ∀ g, g ∈ pre → g.no ≠ f.no) (hl : f.bs.length + t.size ≤ 1048576) {W : World} (hB : B ≤ W.heap.size) (R : RdAt B r v (pre ++ f :: rr) st W) :
    Calls Try.prog 14 #[.pointer (some ⟨r, 0, none⟩), .agg #[.int .i64 1, .int .i64 f.no, .int .i64 N, .string t, .slice x n c]] W fun e W' => RPost B r 0 (pre ++ ⟨f.no, f.bs ++ t.data.toList, f.safe⟩ :: rr) (st + 1) W e W' := by
  have ok := R.ok f (by simp)
  have bl : Below W.heap.size W (W.alloc (.cells #[.int .i64 1, .int .i64 f.no, .int .i64 N, .string t, .slice x n c] 28)) := by repeat (first | with_reducible exact Below.refl _ _ | with_reducible refine Below.drew ?_ | with_reducible refine Below.alloc ?_ (by first | omega | (simp <;> omega)) _ | with_reducible refine Below.setCell ?_ (by first | omega | (simp <;> omega)) _)
  have Ra := R.below bl
  have AT := hide (rat_c f.no Ra)
  rw [atI_mid hpre] at AT
  have RW := Ra.row
  rcases RW.2 with ⟨rfl, h0⟩ | ⟨g, cap, cur, rfl, -, -, h3, h4, -, -⟩
  · simp at h0
  obtain ⟨q0, q1, q2⟩ := flat_at (mid_at pre rr f)
  have lp : pre.length < (pre ++ f :: rr).length := by simp
  have c0 : (W.alloc (.cells #[.int .i64 1, .int .i64 f.no, .int .i64 N, .string t, .slice x n c] 28)).cell? ⟨r, 0, none⟩ = some (.slice (some ⟨g, 0, none⟩) (pre ++ f :: rr).length cap) := Ra.hd.cell 0
  have co : (W.alloc (.cells #[.int .i64 1, .int .i64 f.no, .int .i64 N, .string t, .slice x n c] 28)).cell? ⟨r, 1, none⟩ = some (.bool false) := Ra.hd.cell 1
  have c1 := (World.ownsRow.cellAt RW (pre.length * 3 + 1) (by omega)).trans q1
  have c2 := (World.ownsRow.cellAt RW (pre.length * 3 + 2) (by omega)).trans q2
  have hlr := Ra.hd.lt
  have BX := Blk.new W #[.int .i64 1, .int .i64 f.no, .int .i64 N, .string t, .slice x n c] 28
  have b0 := BX.cell 0
  have b1 := BX.cell 1
  have b3 := BX.cell 3
  have hlx := BX.lt
  simp only [List.getElem?_toArray, List.getElem?_cons_zero, List.getElem?_cons_succ] at b0 b1 b3
  have RA := hide Ra
  have BXH := hide BX
  have BL := hide bl
  have s1 := sfS_size ok.1
  have s2 := tlS_size f
  have TM := hide (fun (W1 : World) (h : RdAt B r (.slice (some ⟨g, 0, none⟩) (pre ++ f :: rr).length cap) (pre ++ f :: rr) st W1) => tail_more h t hl rfl)
  obtain ⟨sf, hsf⟩ : ∃ sf, sfS f = sf := ⟨_, rfl⟩
  obtain ⟨tl, htl⟩ : ∃ tl, tlS f = tl := ⟨_, rfl⟩
  obtain ⟨k, hk⟩ : ∃ k, pre.length = k := ⟨_, rfl⟩
  obtain ⟨m, hm⟩ : ∃ m, (pre ++ f :: rr).length = m := ⟨_, rfl⟩
  obtain ⟨no, hno⟩ : ∃ no, f.no = no := ⟨_, rfl⟩
  have HNO := hide hno
  have n1 : 1 ≤ no ∧ no ≤ 1000000 := by rw [← hno]; exact ok.2.2
  obtain ⟨n1, n2⟩ := n1
  have m110 : m ≤ 110 := by rw [← hm]; exact R.len
  rw [hsf] at c1 s1
  rw [htl] at c2 s2 TM
  rw [hk] at c1 c2 AT lp TM
  rw [hm] at c0 lp h3 RA TM
  rw [hno] at AT b0 b1 b3 c0 co c1 c2 RA BXH BL hlr hlx ⊢
  have kn : (k : Int) < (m : Int) := by omega
  have z1 : ¬ ((sf.size : Int) + (tl.size : Int) + (t.size : Int) > 1048576) := by omega
  have z2 : ¬ ((t.size : Int) > 1048576) := by omega
  have z3 : (sf.size : Int) ≤ 1048576 := by omega
  have z4 : (tl.size : Int) ≤ 1048576 := by omega
  have d1 : decide ((sf.size : Int) + (tl.size : Int) + (t.size : Int) > 1048576) = false := decide_eq_false z1
  have d2 : decide ((t.size : Int) > 1048576) = false := decide_eq_false z2
  clear R Ra RW q0 q1 q2 BX bl ok hl hk hm hsf htl s1 s2 hno hpre
  go_enter Try.func14, Try.ntmps14
  go_wp2_with fail
  refine AT.out.mono ?_
  rintro e w1 ⟨rfl, rfl⟩
  clear AT
  go_upto_region 39 with fail
  go_quiet (fail)
  have BD := below_drewN9 (Below.refl (W.alloc (.cells #[.int .i64 1, .int .i64 no, .int .i64 N, .string t, .slice x n c] 28)).heap.size (W.alloc (.cells #[.int .i64 1, .int .i64 no, .int .i64 N, .string t, .slice x n c] 28))) nq
  have R3 := hide (RA.out.below BD)
  have B3 := hide (BL.out.trans (BD.mono BL.out.size))
  have X3 := BXH.out.below BD
  have b3' := X3.cell 3
  have b0' := X3.cell 0
  have b1' := X3.cell 1
  simp only [List.getElem?_toArray, List.getElem?_cons_zero, List.getElem?_cons_succ] at b3' b0' b1'
  have e2 : ((W.alloc (.cells #[.int .i64 1, .int .i64 no, .int .i64 N, .string t, .slice x n c] 28)).drewN nq).cell? ⟨g, k * 3 + 2, none⟩ = some (.string tl) := c2
  have c0' : ((W.alloc (.cells #[.int .i64 1, .int .i64 no, .int .i64 N, .string t, .slice x n c] 28)).drewN nq).cell? ⟨r, 0, none⟩ = some (.slice (some ⟨g, 0, none⟩) m cap) := c0
  have fz : ((W.alloc (.cells #[.int .i64 1, .int .i64 no, .int .i64 N, .string t, .slice x n c] 28)).drewN nq).frozen? ⟨g, k * 3 + 2, none⟩ = false := by
    obtain ⟨_, _, cur, hc⟩ := rowR_block R3.out.row (k := g) rfl
    exact Blk.frozen (show Blk _ g cur 60 from hc) _
  have gr : g ≠ r := by
    obtain ⟨_, _, cur, hc⟩ := rowR_block R3.out.row (k := g) rfl
    exact blk_ne (show Blk _ g cur 60 from hc) R3.out.hd (by decide)
  have gx : g ≠ W.heap.size := by
    obtain ⟨_, _, cur, hc⟩ := rowR_block R3.out.row (k := g) rfl
    exact blk_ne (show Blk _ g cur 60 from hc) X3 (by decide)
  have hgl : g < ((W.alloc (.cells #[.int .i64 1, .int .i64 no, .int .i64 N, .string t, .slice x n c] 28)).drewN nq).heap.size := by
    obtain ⟨_, h, _⟩ := rowR_block R3.out.row (k := g) rfl
    exact h
  obtain ⟨w3, hw3⟩ : ∃ w3, (W.alloc (.cells #[.int .i64 1, .int .i64 no, .int .i64 N, .string t, .slice x n c] 28)).drewN nq = w3 := ⟨_, rfl⟩
  obtain ⟨xb, hxb⟩ : ∃ xb, W.heap.size = xb := ⟨_, rfl⟩
  have hrl : r < w3.heap.size := by rw [← hw3]; exact hlr
  have hxl : xb < w3.heap.size := by rw [← hw3, ← hxb]; exact hlx
  rw [hw3] at R3 B3 b3' b0' b1' e2 c0' fz hgl ⊢
  rw [hxb] at b3' b0' b1' gx ⊢
  clear RA BXH BL BD X3 b0 b1 b3 c0 co c1 c2 hlr hlx hw3 hxb d1 d2 z1
  have zz : tl.size + t.size ≤ 9223372036854775807 := by omega
  go_upto_region 46 with fail
  go_region
  have TM3 := TM.out w3 R3.out
  have R4 := hide (TM3.1.below (Below.refl _ _).drew)
  have C4 := hide (TM3.2.nextR (Ch.below (Below.refl _ _).drew))
  have SC := hide (rstep_c hst R4.out)
  clear TM3 TM R3 R4 b3' b0' b1' e2 c0' fz hgl zz hst
  go_wp2_with fail
  refine SC.out.mono ?_
  rintro e w5 ⟨rfl, hR, hC⟩
  have R5 := hide hR
  have C5 := hide ((Ch.below B3.out).nextR (C4.out.nextR hC))
  clear hR hC SC C4 B3
  go_wp2_with fail
  go_ret
  have R6 := R5.out
  rw [HNO.out] at R6
  exact ⟨rfl, _, R6, C5.out⟩

set_option maxRecDepth 100000 in
set_option maxHeartbeats 2000000 in
theorem rplay_long {B r : Nat} {v : Value} {pre rr : List Pf} {f : Pf} {st : Nat} (N : Int) (t : ByteArray) (x : Option Addr) (n c : Nat) (hpre : ∀ g, g ∈ pre → g.no ≠ f.no) (ht : t.size ≤ 1048576) (hl : 1048576 < f.bs.length + t.size) {W : World} (hB : B ≤ W.heap.size) (R : RdAt B r v (pre ++ f :: rr) st W) :
    Calls Try.prog 14 #[.pointer (some ⟨r, 0, none⟩), .agg #[.int .i64 1, .int .i64 f.no, .int .i64 N, .string t, .slice x n c]] W fun e W' => RPost B r 5 (pre ++ f :: rr) st W e W' := by
  have ok := R.ok f (by simp)
  have bl : Below W.heap.size W (W.alloc (.cells #[.int .i64 1, .int .i64 f.no, .int .i64 N, .string t, .slice x n c] 28)) := by repeat (first | with_reducible exact Below.refl _ _ | with_reducible refine Below.drew ?_ | with_reducible refine Below.alloc ?_ (by first | omega | (simp <;> omega)) _ | with_reducible refine Below.setCell ?_ (by first | omega | (simp <;> omega)) _)
  have Ra := R.below bl
  have AT := hide (rat_c f.no Ra)
  rw [atI_mid hpre] at AT
  have RW := Ra.row
  rcases RW.2 with ⟨rfl, h0⟩ | ⟨g, cap, cur, rfl, -, -, h3, h4, -, -⟩
  · simp at h0
  obtain ⟨q0, q1, q2⟩ := flat_at (mid_at pre rr f)
  have lp : pre.length < (pre ++ f :: rr).length := by simp
  have c0 : (W.alloc (.cells #[.int .i64 1, .int .i64 f.no, .int .i64 N, .string t, .slice x n c] 28)).cell? ⟨r, 0, none⟩ = some (.slice (some ⟨g, 0, none⟩) (pre ++ f :: rr).length cap) := Ra.hd.cell 0
  have co : (W.alloc (.cells #[.int .i64 1, .int .i64 f.no, .int .i64 N, .string t, .slice x n c] 28)).cell? ⟨r, 1, none⟩ = some (.bool false) := Ra.hd.cell 1
  have c1 := (World.ownsRow.cellAt RW (pre.length * 3 + 1) (by omega)).trans q1
  have c2 := (World.ownsRow.cellAt RW (pre.length * 3 + 2) (by omega)).trans q2
  have hlr := Ra.hd.lt
  have BX := Blk.new W #[.int .i64 1, .int .i64 f.no, .int .i64 N, .string t, .slice x n c] 28
  have b0 := BX.cell 0
  have b1 := BX.cell 1
  have b3 := BX.cell 3
  have hlx := BX.lt
  simp only [List.getElem?_toArray, List.getElem?_cons_zero, List.getElem?_cons_succ] at b0 b1 b3
  have RA := hide Ra
  have BXH := hide BX
  have BL := hide bl
  have s1 := sfS_size ok.1
  have s2 := tlS_size f
  obtain ⟨sf, hsf⟩ : ∃ sf, sfS f = sf := ⟨_, rfl⟩
  obtain ⟨tl, htl⟩ : ∃ tl, tlS f = tl := ⟨_, rfl⟩
  obtain ⟨k, hk⟩ : ∃ k, pre.length = k := ⟨_, rfl⟩
  obtain ⟨m, hm⟩ : ∃ m, (pre ++ f :: rr).length = m := ⟨_, rfl⟩
  obtain ⟨no, hno⟩ : ∃ no, f.no = no := ⟨_, rfl⟩
  have HNO := hide hno
  have n1 : 1 ≤ no ∧ no ≤ 1000000 := by rw [← hno]; exact ok.2.2
  obtain ⟨n1, n2⟩ := n1
  have m110 : m ≤ 110 := by rw [← hm]; exact R.len
  rw [hsf] at c1 s1
  rw [htl] at c2 s2
  rw [hk] at c1 c2 AT lp
  rw [hm] at c0 lp h3 RA
  rw [hno] at AT b0 b1 b3 c0 co c1 c2 RA BXH BL hlr hlx ⊢
  have kn : (k : Int) < (m : Int) := by omega
  have z1 : (sf.size : Int) + (tl.size : Int) + (t.size : Int) > 1048576 := by omega
  have z3 : (sf.size : Int) ≤ 1048576 := by omega
  have z4 : (tl.size : Int) ≤ 1048576 := by omega
  have d1 : decide ((sf.size : Int) + (tl.size : Int) + (t.size : Int) > 1048576) = true := decide_eq_true z1
  have z5 : (t.size : Int) ≤ 1048576 := by omega
  clear R Ra RW q0 q1 q2 BX bl ok hl ht hk hm hsf htl s1 s2 hno hpre
  go_enter Try.func14, Try.ntmps14
  go_wp2_with fail
  refine AT.out.mono ?_
  rintro e w1 ⟨rfl, rfl⟩
  clear AT
  go_upto_region 39 with fail
  go_quiet (fail)
  have BD := below_drewN9 (Below.refl (W.alloc (.cells #[.int .i64 1, .int .i64 no, .int .i64 N, .string t, .slice x n c] 28)).heap.size (W.alloc (.cells #[.int .i64 1, .int .i64 no, .int .i64 N, .string t, .slice x n c] 28))) nq
  have R3 := hide (RA.out.below BD)
  have B3 := hide (BL.out.trans (BD.mono BL.out.size))
  clear RA BXH BL BD b0 b1 b3 c0 co c1 c2 hlr hlx d1 z1
  go_wp2_with fail
  go_ret
  exact ⟨rfl, _, R3.out, Ch.below B3.out⟩

end Go.Proofs.Ytoppmpodiofhhaa
