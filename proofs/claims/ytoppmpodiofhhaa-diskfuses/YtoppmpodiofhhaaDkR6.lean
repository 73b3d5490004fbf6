/-
  The reference's Play: Sync, Trim, Remove; what is refused.
-/
import Derived.Test.YtoppmpodiofhhaaDkR5
namespace Go.Proofs.Ytoppmpodiofhhaa
open Go.ChangeShapes Go.WideShapes Go.ChangeAt Go.RowKit
set_option linter.unusedVariables false
set_option linter.unusedSimpArgs false

set_option maxRecDepth 100000 in
set_option maxHeartbeats 1000000 in
theorem rstep2_c {B r : Nat} {v : Value} {fs : List Pf} {st : Nat} (hst : st < 1000000000) {W : World} (R : RdAt B r v fs st W) :
    Calls Try.prog 28 #[.pointer (some ⟨r, 0, none⟩)] W fun e W' => e = .returned (.bool false) ∧ RdAt B r v fs (st + 1) W' ∧ Ch (fun b => b = r) W W' := by
  have c2 : W.cell? ⟨r, 2, none⟩ = some (.int .i64 0) := R.hd.cell 2
  have c3 : W.cell? ⟨r, 3, none⟩ = some (.int .i64 (st : Int)) := R.hd.cell 3
  have f3 := R.hd.frozen 3
  have hl := R.hd.lt
  have q : Blk (W.setCell ⟨r, 3, none⟩ (.int .i64 ((st : Int) + 1))) r #[v, .bool false, .int .i64 0, .int .i64 ((st + 1 : Nat) : Int)] 39 := by
    rw [show ((st + 1 : Nat) : Int) = (st : Int) + 1 by omega]
    exact R.hd.put 3 _
  have R1 := hide (R.head (Ch.cell W r 3 _) q).1
  have K1 := hide (Ch.cell W r 3 (.int .i64 ((st : Int) + 1)))
  obtain ⟨t, ht⟩ : ∃ t : Int, (st : Int) = t := ⟨_, rfl⟩
  have t0 : 0 ≤ t := by omega
  have t1 : t < 1000000000 := by omega
  rw [ht] at c3 R1 K1
  clear R q ht hst
  go_enter Try.func28, Try.ntmps28
  go_wp2_with fail
  go_ret
  exact ⟨rfl, R1.out, K1.out⟩

theorem Ch.headR {B r : Nat} {v : Value} {fs : List Pf} {st : Nat} {W W' : World} (R : RdAt B r v fs st W) (k : Ch (fun b => b = r) W W') : Ch (MineR B W) W W' := k.mono (fun b _ e => by subst e; exact ⟨R.lo, _, _, _, R.hd, Or.inl rfl⟩)

/-- A file is written anew, all three cells. -/
theorem elem_new {B r g n cap : Nat} {pre rr : List Pf} {f : Pf} {st : Nat} {W : World} (R : RdAt B r (.slice (some ⟨g, 0, none⟩) n cap) (pre ++ f :: rr) st W) (hn : n = (pre ++ f :: rr).length) (h : Pf) (ok : h.safe ≤ h.bs.length ∧ h.bs.length ≤ 1048576 ∧ 1 ≤ h.no ∧ h.no ≤ 1000000) :
    RdAt B r (.slice (some ⟨g, 0, none⟩) n cap) (pre ++ h :: rr) st (((W.setCell ⟨g, pre.length * 3, none⟩ (.int .i64 h.no)).setCell ⟨g, pre.length * 3 + 1, none⟩ (.string (sfS h))).setCell ⟨g, pre.length * 3 + 2, none⟩ (.string (tlS h))) ∧
      Ch (MineR B W) W (((W.setCell ⟨g, pre.length * 3, none⟩ (.int .i64 h.no)).setCell ⟨g, pre.length * 3 + 1, none⟩ (.string (sfS h))).setCell ⟨g, pre.length * 3 + 2, none⟩ (.string (tlS h))) := by
  have O := R.row
  rw [← hn] at O
  have O2 := row_cell (row_cell (row_cell O (pre.length * 3) (.int .i64 h.no)) (pre.length * 3 + 1) (.string (sfS h))) (pre.length * 3 + 2) (.string (tlS h))
  rw [flat_elem] at O2
  refine R.elem (h := h) ?_ ?_ ok
  · exact ((Ch.cell W g _ _).trans (Ch.cell _ g _ _)).trans (Ch.cell _ g _ _)
  · rw [show (pre ++ h :: rr).length = n by rw [hn]; simp]
    exact O2

set_option maxRecDepth 100000 in
set_option maxHeartbeats 1000000 in
theorem rplay_less {B r : Nat} {v : Value} {fs : List Pf} {st : Nat} (K A : Int) (N : Int) (t : ByteArray) (x : Option Addr) (n c : Nat) (hK : K < 1) {W : World} (R : RdAt B r v fs st W) :
    Calls Try.prog 14 #[.pointer (some ⟨r, 0, none⟩), .agg #[.int .i64 K, .int .i64 A, .int .i64 N, .string t, .slice x n c]] W fun e W' => RPost B r 0 fs st W e W' := by
  have bl : Below W.heap.size W (W.alloc (.cells #[.int .i64 K, .int .i64 A, .int .i64 N, .string t, .slice x n c] 28)) := by repeat (first | with_reducible exact Below.refl _ _ | with_reducible refine Below.drew ?_ | with_reducible refine Below.alloc ?_ (by first | omega | (simp <;> omega)) _ | with_reducible refine Below.setCell ?_ (by first | omega | (simp <;> omega)) _)
  have Ra := R.below bl
  have co : (W.alloc (.cells #[.int .i64 K, .int .i64 A, .int .i64 N, .string t, .slice x n c] 28)).cell? ⟨r, 1, none⟩ = some (.bool false) := Ra.hd.cell 1
  have hlr := Ra.hd.lt
  have RA := hide Ra
  have BL := hide bl
  have e7 : (K == 7) = false := by simp; omega
  have e8 : decide (K < 1) = true := decide_eq_true hK
  clear R Ra bl
  go_enter Try.func14, Try.ntmps14
  go_wp2_with fail
  go_ret
  exact ⟨rfl, _, RA.out, Ch.below BL.out⟩

set_option maxRecDepth 100000 in
set_option maxHeartbeats 1000000 in
theorem rplay_arg_lo {B r : Nat} {v : Value} {fs : List Pf} {st : Nat} (K A : Int) (N : Int) (t : ByteArray) (x : Option Addr) (n c : Nat) (hK : 1 ≤ K ∧ K ≤ 4) (hA : A < 1) {W : World} (R : RdAt B r v fs st W) :
    Calls Try.prog 14 #[.pointer (some ⟨r, 0, none⟩), .agg #[.int .i64 K, .int .i64 A, .int .i64 N, .string t, .slice x n c]] W fun e W' => RPost B r 1 fs st W e W' := by
  have bl : Below W.heap.size W (W.alloc (.cells #[.int .i64 K, .int .i64 A, .int .i64 N, .string t, .slice x n c] 28)) := by repeat (first | with_reducible exact Below.refl _ _ | with_reducible refine Below.drew ?_ | with_reducible refine Below.alloc ?_ (by first | omega | (simp <;> omega)) _ | with_reducible refine Below.setCell ?_ (by first | omega | (simp <;> omega)) _)
  have Ra := R.below bl
  have co : (W.alloc (.cells #[.int .i64 K, .int .i64 A, .int .i64 N, .string t, .slice x n c] 28)).cell? ⟨r, 1, none⟩ = some (.bool false) := Ra.hd.cell 1
  have hlr := Ra.hd.lt
  have RA := hide Ra
  have BL := hide bl
  clear R Ra bl
  rcases (show K = 1 ∨ K = 2 ∨ K = 3 ∨ K = 4 by omega) with rfl | rfl | rfl | rfl
  all_goals
    clear hK
    go_enter Try.func14, Try.ntmps14
    go_wp2_with fail
    go_ret
    exact ⟨rfl, _, RA.out, Ch.below BL.out⟩

set_option maxRecDepth 100000 in
set_option maxHeartbeats 1000000 in
theorem rplay_arg_hi {B r : Nat} {v : Value} {fs : List Pf} {st : Nat} (K A : Int) (N : Int) (t : ByteArray) (x : Option Addr) (n c : Nat) (hK : 1 ≤ K ∧ K ≤ 4) (hA : 1000000 < A) {W : World} (R : RdAt B r v fs st W) :
    Calls Try.prog 14 #[.pointer (some ⟨r, 0, none⟩), .agg #[.int .i64 K, .int .i64 A, .int .i64 N, .string t, .slice x n c]] W fun e W' => RPost B r 1 fs st W e W' := by
  have bl : Below W.heap.size W (W.alloc (.cells #[.int .i64 K, .int .i64 A, .int .i64 N, .string t, .slice x n c] 28)) := by repeat (first | with_reducible exact Below.refl _ _ | with_reducible refine Below.drew ?_ | with_reducible refine Below.alloc ?_ (by first | omega | (simp <;> omega)) _ | with_reducible refine Below.setCell ?_ (by first | omega | (simp <;> omega)) _)
  have Ra := R.below bl
  have co : (W.alloc (.cells #[.int .i64 K, .int .i64 A, .int .i64 N, .string t, .slice x n c] 28)).cell? ⟨r, 1, none⟩ = some (.bool false) := Ra.hd.cell 1
  have hlr := Ra.hd.lt
  have RA := hide Ra
  have BL := hide bl
  clear R Ra bl
  rcases (show K = 1 ∨ K = 2 ∨ K = 3 ∨ K = 4 by omega) with rfl | rfl | rfl | rfl
  all_goals
    clear hK
    go_enter Try.func14, Try.ntmps14
    go_wp2_with fail
    go_ret
    exact ⟨rfl, _, RA.out, Ch.below BL.out⟩

set_option maxRecDepth 100000 in
set_option maxHeartbeats 1000000 in
theorem rplay_miss {B r : Nat} {v : Value} {fs : List Pf} {st : Nat} (K A : Int) (N : Int) (t : ByteArray) (x : Option Addr) (n c : Nat) (hK : 2 ≤ K ∧ K ≤ 4) (h1 : 1 ≤ A) (h2 : A ≤ 1000000) (hg : getP fs A = none) {W : World} (R : RdAt B r v fs st W) :
    Calls Try.prog 14 #[.pointer (some ⟨r, 0, none⟩), .agg #[.int .i64 K, .int .i64 A, .int .i64 N, .string t, .slice x n c]] W fun e W' => RPost B r 7 fs st W e W' := by
  have bl : Below W.heap.size W (W.alloc (.cells #[.int .i64 K, .int .i64 A, .int .i64 N, .string t, .slice x n c] 28)) := by repeat (first | with_reducible exact Below.refl _ _ | with_reducible refine Below.drew ?_ | with_reducible refine Below.alloc ?_ (by first | omega | (simp <;> omega)) _ | with_reducible refine Below.setCell ?_ (by first | omega | (simp <;> omega)) _)
  have Ra := R.below bl
  have AT := hide (rat_c A Ra)
  rw [atI_no hg] at AT
  have co : (W.alloc (.cells #[.int .i64 K, .int .i64 A, .int .i64 N, .string t, .slice x n c] 28)).cell? ⟨r, 1, none⟩ = some (.bool false) := Ra.hd.cell 1
  have hlr := Ra.hd.lt
  have RA := hide Ra
  have BL := hide bl
  clear R Ra bl hg
  rcases (show K = 2 ∨ K = 3 ∨ K = 4 by omega) with rfl | rfl | rfl
  all_goals
    clear hK
    go_enter Try.func14, Try.ntmps14
    go_wp2_with fail
    refine AT.out.mono ?_
    rintro e w1 ⟨rfl, rfl⟩
    clear AT
    go_wp2_with fail
    go_ret
    exact ⟨rfl, _, RA.out, Ch.below BL.out⟩

set_option maxRecDepth 100000 in
set_option maxHeartbeats 2000000 in
theorem rplay_sync {B r : Nat} {v : Value} {pre rr : List Pf} {f : Pf} {st : Nat} (N : Int) (t : ByteArray) (x : Option Addr) (n c : Nat) (hst : st < 1000000000) (hpre : ∀ g, g ∈ pre → g.no ≠ f.no)  {W : World} (hB : B ≤ W.heap.size) (R : RdAt B r v (pre ++ f :: rr) st W) :
    Calls Try.prog 14 #[.pointer (some ⟨r, 0, none⟩), .agg #[.int .i64 2, .int .i64 f.no, .int .i64 N, .string t, .slice x n c]] W fun e W' => RPost B r 0 (pre ++ ⟨f.no, f.bs, f.bs.length⟩ :: rr) (st + 1) W e W' := by
  have ok := R.ok f (by simp)
  have bl : Below W.heap.size W (W.alloc (.cells #[.int .i64 2, .int .i64 f.no, .int .i64 N, .string t, .slice x n c] 28)) := by repeat (first | with_reducible exact Below.refl _ _ | with_reducible refine Below.drew ?_ | with_reducible refine Below.alloc ?_ (by first | omega | (simp <;> omega)) _ | with_reducible refine Below.setCell ?_ (by first | omega | (simp <;> omega)) _)
  have Ra := R.below bl
  have AT := hide (rat_c f.no Ra)
  rw [atI_mid hpre] at AT
  have RW := Ra.row
  rcases RW.2 with ⟨rfl, h0⟩ | ⟨g, cap, cur, rfl, -, -, h3, h4, -, -⟩
  · simp at h0
  obtain ⟨q0, q1, q2⟩ := flat_at (mid_at pre rr f)
  have lp : pre.length < (pre ++ f :: rr).length := by simp
  have c0 : (W.alloc (.cells #[.int .i64 2, .int .i64 f.no, .int .i64 N, .string t, .slice x n c] 28)).cell? ⟨r, 0, none⟩ = some (.slice (some ⟨g, 0, none⟩) (pre ++ f :: rr).length cap) := Ra.hd.cell 0
  have co : (W.alloc (.cells #[.int .i64 2, .int .i64 f.no, .int .i64 N, .string t, .slice x n c] 28)).cell? ⟨r, 1, none⟩ = some (.bool false) := Ra.hd.cell 1
  have k0 := (World.ownsRow.cellAt RW (pre.length * 3) (by omega)).trans q0
  have k1 := (World.ownsRow.cellAt RW (pre.length * 3 + 1) (by omega)).trans q1
  have k2 := (World.ownsRow.cellAt RW (pre.length * 3 + 2) (by omega)).trans q2
  have hlr := Ra.hd.lt
  have BX := Blk.new W #[.int .i64 2, .int .i64 f.no, .int .i64 N, .string t, .slice x n c] 28
  have hlx := BX.lt
  have RA := hide Ra
  have BL := hide bl
  have s1 := sfS_size ok.1
  have s2 := tlS_size f
  have Fb := Blk.new (W.alloc (.cells #[.int .i64 2, .int .i64 f.no, .int .i64 N, .string t, .slice x n c] 28)) #[.int .i64 f.no, .string (sfS f), .string (tlS f)] 60
  rw [show (W.alloc (.cells #[.int .i64 2, .int .i64 f.no, .int .i64 N, .string t, .slice x n c] 28)).heap.size = W.heap.size + 1 by simp] at Fb
  have FB := hide Fb
  have BXF := hide (BX.alloc (.cells #[.int .i64 f.no, .string (sfS f), .string (tlS f)] 60))
  have bl2 : Below (W.alloc (.cells #[.int .i64 2, .int .i64 f.no, .int .i64 N, .string t, .slice x n c] 28)).heap.size (W.alloc (.cells #[.int .i64 2, .int .i64 f.no, .int .i64 N, .string t, .slice x n c] 28)) ((W.alloc (.cells #[.int .i64 2, .int .i64 f.no, .int .i64 N, .string t, .slice x n c] 28)).alloc (.cells #[.int .i64 f.no, .string (sfS f), .string (tlS f)] 60)) := by repeat (first | with_reducible exact Below.refl _ _ | with_reducible refine Below.drew ?_ | with_reducible refine Below.alloc ?_ (by first | omega | (simp <;> omega)) _ | with_reducible refine Below.setCell ?_ (by first | omega | (simp <;> omega)) _)
  have RF := hide (Ra.below bl2)
  have BL2 := hide (bl.trans (bl2.mono bl.size))
  have JA := join_all f
  have sj : (sfS f ++ tlS f).size = f.bs.length := by rw [JA]; show f.bs.toArray.size = _; simp
  have OKH := hide (show (⟨f.no, f.bs, f.bs.length⟩ : Pf).safe ≤ (⟨f.no, f.bs, f.bs.length⟩ : Pf).bs.length ∧ (⟨f.no, f.bs, f.bs.length⟩ : Pf).bs.length ≤ 1048576 ∧ 1 ≤ (⟨f.no, f.bs, f.bs.length⟩ : Pf).no ∧ (⟨f.no, f.bs, f.bs.length⟩ : Pf).no ≤ 1000000 from ⟨Nat.le_refl _, ok.2⟩)
  have HS1 : Hid (sfS ⟨f.no, f.bs, f.bs.length⟩ = sfS f ++ tlS f) := by
    show _ = _
    rw [JA]
    unfold sfS
    simp
  have HS2 : Hid (tlS ⟨f.no, f.bs, f.bs.length⟩ = ⟨#[]⟩) := by
    show _ = _
    unfold tlS
    simp
  have HS1' := HS1.out
  obtain ⟨sf, hsf⟩ : ∃ sf, sfS f = sf := ⟨_, rfl⟩
  obtain ⟨tl, htl⟩ : ∃ tl, tlS f = tl := ⟨_, rfl⟩
  obtain ⟨k, hk⟩ : ∃ k, pre.length = k := ⟨_, rfl⟩
  obtain ⟨m, hm⟩ : ∃ m, (pre ++ f :: rr).length = m := ⟨_, rfl⟩
  obtain ⟨no, hno⟩ : ∃ no, f.no = no := ⟨_, rfl⟩
  have HNO := hide hno
  have n1 : 1 ≤ no ∧ no ≤ 1000000 := by rw [← hno]; exact ok.2.2
  obtain ⟨n1, n2⟩ := n1
  have m110 : m ≤ 110 := by rw [← hm]; exact R.len
  have HK := hide hk
  have HM := hide hm
  rw [hsf] at k1 s1 FB BXF RF BL2 sj
  rw [htl] at k2 s2 FB BXF RF BL2 sj
  rw [hk] at k0 k1 k2 AT lp
  rw [hm] at c0 lp h3 RA RF
  rw [hno] at AT c0 co k0 k1 k2 RA BL hlr hlx FB BXF RF BL2 ⊢
  have kn : (k : Int) < (m : Int) := by omega
  have z3 : sf.size + tl.size ≤ 1048576 := by omega
  have HS1 : Hid (sfS ⟨f.no, f.bs, f.bs.length⟩ = sf ++ tl) := by show _ = _; rw [HS1', hsf, htl]
  clear HS1'
  have SC := hide (rstep2_c hst RF.out)
  have FBb := FB.out
  have BXb := BXF.out
  clear R Ra RW q0 q1 q2 BX bl ok hk hm hsf htl s1 hno hpre Fb bl2 JA hst
  go_enter Try.func14, Try.ntmps14
  go_wp2_with fail
  refine AT.out.mono ?_
  rintro e w1 ⟨rfl, rfl⟩
  clear AT
  go_wp2_with fail
  refine SC.out.mono ?_
  rintro e w5 ⟨rfl, hR, hC⟩
  have R5 := hide hR
  have C5 := hide ((Ch.below (X := MineR B W) BL2.out).nextR (Ch.headR RF.out hC))
  have F5 := hC.blk FBb (fun e => blk_ne FBb RF.out.hd (by decide) e)
  have X5 := hC.blk BXb (fun e => blk_ne BXb RF.out.hd (by decide) e)
  have FB5 := hide F5
  have g0 := F5.cell 0
  have g1 := F5.cell 1
  have g2 := F5.cell 2
  have x0 := X5.cell 0
  have x2 := X5.cell 2
  have hlf := F5.lt
  have hlx5 := X5.lt
  simp only [List.getElem?_toArray, List.getElem?_cons_zero, List.getElem?_cons_succ] at g0 g1 g2 x0 x2
  have c0' : w5.cell? ⟨r, 0, none⟩ = some (.slice (some ⟨g, 0, none⟩) m cap) := hR.hd.cell 0
  have hrl := hR.hd.lt
  obtain ⟨_, hgl, cur5, hc5⟩ := rowR_block hR.row (k := g) rfl
  have G5 : Blk w5 g cur5 60 := hc5
  have fz0 := G5.frozen (k * 3)
  have fz1 := G5.frozen (k * 3 + 1)
  have fz2 := G5.frozen (k * 3 + 2)
  have gr : g ≠ r := blk_ne G5 hR.hd (by decide)
  have gx : g ≠ W.heap.size := blk_ne G5 X5 (by decide)
  have RQ : w5.ownsRow B 60 3 (.slice (some ⟨g, 0, none⟩) m cap) m (flat (pre ++ f :: rr)) := by
    have q := hR.row
    rwa [HM.out] at q
  have w0 : ∃ z, w5.cell? ⟨g, k * 3, none⟩ = some z := ⟨_, (World.ownsRow.cellAt RQ (k * 3) (by have := HK.out; have := HM.out; omega)).trans (HK.out ▸ (flat_at (mid_at pre rr f)).1)⟩
  have w1' : ∃ z, w5.cell? ⟨g, k * 3 + 1, none⟩ = some z := ⟨_, (World.ownsRow.cellAt RQ (k * 3 + 1) (by have := HK.out; have := HM.out; omega)).trans (HK.out ▸ (flat_at (mid_at pre rr f)).2.1)⟩
  have w2' : ∃ z, w5.cell? ⟨g, k * 3 + 2, none⟩ = some z := ⟨_, (World.ownsRow.cellAt RQ (k * 3 + 2) (by have := HK.out; have := HM.out; omega)).trans (HK.out ▸ (flat_at (mid_at pre rr f)).2.2)⟩
  obtain ⟨y0, w0⟩ := w0
  obtain ⟨y1, w1'⟩ := w1'
  obtain ⟨y2, w2'⟩ := w2'
  clear hR hC SC RF FBb BXb F5 X5 hc5 G5 RQ BL2 FB BXF RA BL c0 co k0 k1 k2 hlr hlx
  have EL := hide (fun (hw : RdAt B r (.slice (some ⟨g, 0, none⟩) m cap) (pre ++ f :: rr) (st + 1) w5) => elem_new hw HM.out.symm ⟨f.no, f.bs, f.bs.length⟩ OKH.out)
  rw [HK.out, HS1.out, HS2.out] at EL
  have EL2 := hide (EL.out R5.out)
  clear EL
  rw [show (⟨f.no, f.bs, f.bs.length⟩ : Pf).no = no from HNO.out] at EL2
  go_upto_region 58 with fail
  go_region
  have R6 := hide (EL2.out.1.below (Below.refl _ _).drew)
  have C6 := hide (C5.out.nextR (EL2.out.2.nextR (Ch.below (Below.refl _ _).drew)))
  clear EL2 R5 C5 FB5 g0 g1 g2 x0 x2 hlf hlx5 c0' hrl hgl fz0 fz1 fz2 w0 w1' w2' HS1 HS2 OKH
  go_wp2_with fail
  go_ret
  exact ⟨rfl, _, R6.out, C6.out⟩

set_option maxRecDepth 100000 in
set_option maxHeartbeats 2000000 in
theorem rplay_trim1 {B r : Nat} {v : Value} {pre rr : List Pf} {f : Pf} {st : Nat} (t : ByteArray) (x : Option Addr) (n c : Nat) (hst : st < 1000000000) (hpre : ∀ g, g ∈ pre → g.no ≠ f.no) (z : Nat) (hz : z ≤ f.bs.length) (hc : z < f.safe) {W : World} (hB : B ≤ W.heap.size) (R : RdAt B r v (pre ++ f :: rr) st W) :
    Calls Try.prog 14 #[.pointer (some ⟨r, 0, none⟩), .agg #[.int .i64 3, .int .i64 f.no, .int .i64 (z : Int), .string t, .slice x n c]] W fun e W' => RPost B r 0 (pre ++ ⟨f.no, f.bs.take z, min f.safe z⟩ :: rr) (st + 1) W e W' := by
  have ok := R.ok f (by simp)
  have bl : Below W.heap.size W (W.alloc (.cells #[.int .i64 3, .int .i64 f.no, .int .i64 (z : Int), .string t, .slice x n c] 28)) := by repeat (first | with_reducible exact Below.refl _ _ | with_reducible refine Below.drew ?_ | with_reducible refine Below.alloc ?_ (by first | omega | (simp <;> omega)) _ | with_reducible refine Below.setCell ?_ (by first | omega | (simp <;> omega)) _)
  have Ra := R.below bl
  have AT := hide (rat_c f.no Ra)
  rw [atI_mid hpre] at AT
  have RW := Ra.row
  rcases RW.2 with ⟨rfl, h0⟩ | ⟨g, cap, cur, rfl, -, -, h3, h4, -, -⟩
  · simp at h0
  obtain ⟨q0, q1, q2⟩ := flat_at (mid_at pre rr f)
  have lp : pre.length < (pre ++ f :: rr).length := by simp
  have c0 : (W.alloc (.cells #[.int .i64 3, .int .i64 f.no, .int .i64 (z : Int), .string t, .slice x n c] 28)).cell? ⟨r, 0, none⟩ = some (.slice (some ⟨g, 0, none⟩) (pre ++ f :: rr).length cap) := Ra.hd.cell 0
  have co : (W.alloc (.cells #[.int .i64 3, .int .i64 f.no, .int .i64 (z : Int), .string t, .slice x n c] 28)).cell? ⟨r, 1, none⟩ = some (.bool false) := Ra.hd.cell 1
  have k0 := (World.ownsRow.cellAt RW (pre.length * 3) (by omega)).trans q0
  have k1 := (World.ownsRow.cellAt RW (pre.length * 3 + 1) (by omega)).trans q1
  have k2 := (World.ownsRow.cellAt RW (pre.length * 3 + 2) (by omega)).trans q2
  have hlr := Ra.hd.lt
  have BX := Blk.new W #[.int .i64 3, .int .i64 f.no, .int .i64 (z : Int), .string t, .slice x n c] 28
  have hlx := BX.lt
  have RA := hide Ra
  have BL := hide bl
  have s1 := sfS_size ok.1
  have s2 := tlS_size f
  have Fb := Blk.new (W.alloc (.cells #[.int .i64 3, .int .i64 f.no, .int .i64 (z : Int), .string t, .slice x n c] 28)) #[.int .i64 f.no, .string (sfS f), .string (tlS f)] 60
  rw [show (W.alloc (.cells #[.int .i64 3, .int .i64 f.no, .int .i64 (z : Int), .string t, .slice x n c] 28)).heap.size = W.heap.size + 1 by simp] at Fb
  have FB := hide Fb
  have BXF := hide (BX.alloc (.cells #[.int .i64 f.no, .string (sfS f), .string (tlS f)] 60))
  have bl2 : Below (W.alloc (.cells #[.int .i64 3, .int .i64 f.no, .int .i64 (z : Int), .string t, .slice x n c] 28)).heap.size (W.alloc (.cells #[.int .i64 3, .int .i64 f.no, .int .i64 (z : Int), .string t, .slice x n c] 28)) ((W.alloc (.cells #[.int .i64 3, .int .i64 f.no, .int .i64 (z : Int), .string t, .slice x n c] 28)).alloc (.cells #[.int .i64 f.no, .string (sfS f), .string (tlS f)] 60)) := by repeat (first | with_reducible exact Below.refl _ _ | with_reducible refine Below.drew ?_ | with_reducible refine Below.alloc ?_ (by first | omega | (simp <;> omega)) _ | with_reducible refine Below.setCell ?_ (by first | omega | (simp <;> omega)) _)
  have RF := hide (Ra.below bl2)
  have BL2 := hide (bl.trans (bl2.mono bl.size))
  have JA := join_all f
  have sj : (sfS f ++ tlS f).size = f.bs.length := by rw [JA]; show f.bs.toArray.size = _; simp
  have OKH := hide (show (⟨f.no, f.bs.take z, min f.safe z⟩ : Pf).safe ≤ (⟨f.no, f.bs.take z, min f.safe z⟩ : Pf).bs.length ∧ (⟨f.no, f.bs.take z, min f.safe z⟩ : Pf).bs.length ≤ 1048576 ∧ 1 ≤ (⟨f.no, f.bs.take z, min f.safe z⟩ : Pf).no ∧ (⟨f.no, f.bs.take z, min f.safe z⟩ : Pf).no ≤ 1000000 from ⟨by show min f.safe z ≤ (f.bs.take z).length; rw [List.length_take]; omega, by show (f.bs.take z).length ≤ 1048576; rw [List.length_take]; omega, ok.2.2⟩)
  have ja : (sfS f ++ tlS f).data.toList = f.bs := by rw [JA]
  have HS1 : Hid (sfS (⟨f.no, f.bs.take z, min f.safe z⟩ : Pf) = (sfS f ++ tlS f).extract 0 z) := by
    refine bytes_eq9 ?_
    rw [ByteArray.data_extract, Array.toList_extract]
    simp only [List.extract_eq_take_drop, Nat.sub_zero, List.drop_zero]
    rw [ja]
    show (f.bs.take z).take (min f.safe z) = _
    rw [List.take_take]
    congr 1
    omega
  have HS2 : Hid (tlS (⟨f.no, f.bs.take z, min f.safe z⟩ : Pf) = ByteArray.empty) := by
    refine bytes_eq9 ?_
    show (f.bs.take z).drop (min f.safe z) = []
    exact List.drop_eq_nil_of_le (by rw [List.length_take]; omega)
  have hz2 : (z : Int) ≤ (f.bs.length : Int) := by omega
  have hal : (sfS f ++ tlS f).size = f.bs.length := sj
  have hs0 : ((sfS f).size : Int) ≤ (f.bs.length : Int) := by omega
  obtain ⟨sf, hsf⟩ : ∃ sf, sfS f = sf := ⟨_, rfl⟩
  obtain ⟨tl, htl⟩ : ∃ tl, tlS f = tl := ⟨_, rfl⟩
  obtain ⟨k, hk⟩ : ∃ k, pre.length = k := ⟨_, rfl⟩
  obtain ⟨m, hm⟩ : ∃ m, (pre ++ f :: rr).length = m := ⟨_, rfl⟩
  obtain ⟨no, hno⟩ : ∃ no, f.no = no := ⟨_, rfl⟩
  have HNO := hide hno
  have n1 : 1 ≤ no ∧ no ≤ 1000000 := by rw [← hno]; exact ok.2.2
  obtain ⟨n1, n2⟩ := n1
  have m110 : m ≤ 110 := by rw [← hm]; exact R.len
  have HK := hide hk
  have HM := hide hm
  rw [hsf] at k1 s1 FB BXF RF BL2 sj
  rw [htl] at k2 s2 FB BXF RF BL2 sj
  rw [hk] at k0 k1 k2 AT lp
  rw [hm] at c0 lp h3 RA RF
  rw [hno] at AT c0 co k0 k1 k2 RA BL hlr hlx FB BXF RF BL2 ⊢
  have kn : (k : Int) < (m : Int) := by omega
  have z3 : sf.size + tl.size ≤ 1048576 := by omega
  rw [hsf, htl] at HS1 hal
  rw [hsf] at hs0
  have SC := hide (rstep2_c hst RF.out)
  have hc' : (z : Int) < (sf.size : Int) := by omega
  have FBb := FB.out
  have BXb := BXF.out
  clear R Ra RW q0 q1 q2 BX bl ok hk hm hsf htl s1 hno hpre Fb bl2 JA hst ja
  go_enter Try.func14, Try.ntmps14
  go_wp2_with fail
  refine AT.out.mono ?_
  rintro e w1 ⟨rfl, rfl⟩
  clear AT
  go_upto_region 52 with fail
  obtain ⟨al, hal'⟩ : ∃ al, sf ++ tl = al := ⟨_, rfl⟩
  rw [hal'] at HS1 hal ⊢
  obtain ⟨L, hL⟩ : ∃ L, f.bs.length = L := ⟨_, rfl⟩
  rw [hL] at hal hz2 hs0
  have hza : (z : Int) ≤ (al.size : Int) := by omega
  have hzc : ¬ (z : Int) > (al.size : Int) := by omega
  have hsz : (sf.size : Int) ≤ (al.size : Int) := by omega
  clear hal' hL sj s2
  go_wp2_with fail
  refine SC.out.mono ?_
  rintro e w5 ⟨rfl, hR, hC⟩
  have R5 := hide hR
  have C5 := hide ((Ch.below (X := MineR B W) BL2.out).nextR (Ch.headR RF.out hC))
  have F5 := hC.blk FBb (fun e => blk_ne FBb RF.out.hd (by decide) e)
  have X5 := hC.blk BXb (fun e => blk_ne BXb RF.out.hd (by decide) e)
  have FB5 := hide F5
  have g0 := F5.cell 0
  have g1 := F5.cell 1
  have g2 := F5.cell 2
  have x0 := X5.cell 0
  have x2 := X5.cell 2
  have hlf := F5.lt
  have hlx5 := X5.lt
  simp only [List.getElem?_toArray, List.getElem?_cons_zero, List.getElem?_cons_succ] at g0 g1 g2 x0 x2
  have c0' : w5.cell? ⟨r, 0, none⟩ = some (.slice (some ⟨g, 0, none⟩) m cap) := hR.hd.cell 0
  have hrl := hR.hd.lt
  obtain ⟨_, hgl, cur5, hc5⟩ := rowR_block hR.row (k := g) rfl
  have G5 : Blk w5 g cur5 60 := hc5
  have fz0 := G5.frozen (k * 3)
  have fz1 := G5.frozen (k * 3 + 1)
  have fz2 := G5.frozen (k * 3 + 2)
  have gr : g ≠ r := blk_ne G5 hR.hd (by decide)
  have gx : g ≠ W.heap.size := blk_ne G5 X5 (by decide)
  have RQ : w5.ownsRow B 60 3 (.slice (some ⟨g, 0, none⟩) m cap) m (flat (pre ++ f :: rr)) := by
    have q := hR.row
    rwa [HM.out] at q
  have w0 : ∃ z, w5.cell? ⟨g, k * 3, none⟩ = some z := ⟨_, (World.ownsRow.cellAt RQ (k * 3) (by have := HK.out; have := HM.out; omega)).trans (HK.out ▸ (flat_at (mid_at pre rr f)).1)⟩
  have w1' : ∃ z, w5.cell? ⟨g, k * 3 + 1, none⟩ = some z := ⟨_, (World.ownsRow.cellAt RQ (k * 3 + 1) (by have := HK.out; have := HM.out; omega)).trans (HK.out ▸ (flat_at (mid_at pre rr f)).2.1)⟩
  have w2' : ∃ z, w5.cell? ⟨g, k * 3 + 2, none⟩ = some z := ⟨_, (World.ownsRow.cellAt RQ (k * 3 + 2) (by have := HK.out; have := HM.out; omega)).trans (HK.out ▸ (flat_at (mid_at pre rr f)).2.2)⟩
  obtain ⟨y0, w0⟩ := w0
  obtain ⟨y1, w1'⟩ := w1'
  obtain ⟨y2, w2'⟩ := w2'
  clear hR hC SC RF FBb BXb F5 X5 hc5 G5 RQ BL2 FB BXF RA BL c0 co k0 k1 k2 hlr hlx
  have EL := hide (fun (hw : RdAt B r (.slice (some ⟨g, 0, none⟩) m cap) (pre ++ f :: rr) (st + 1) w5) => elem_new hw HM.out.symm (⟨f.no, f.bs.take z, min f.safe z⟩ : Pf) OKH.out)
  rw [HK.out, HS1.out, HS2.out] at EL
  have EL2 := hide (EL.out R5.out)
  clear EL
  rw [show (⟨f.no, f.bs.take z, min f.safe z⟩ : Pf).no = no from HNO.out] at EL2
  go_upto_region 63 with fail
  go_region
  have R6 := hide (EL2.out.1.below (Below.refl _ _).drew)
  have C6 := hide (C5.out.nextR (EL2.out.2.nextR (Ch.below (Below.refl _ _).drew)))
  clear EL2 R5 C5 FB5 g0 g1 g2 x0 x2 hlf hlx5 c0' hrl hgl fz0 fz1 fz2 w0 w1' w2' HS1 HS2 OKH
  go_wp2_with fail
  go_ret
  exact ⟨rfl, _, R6.out, C6.out⟩

set_option maxRecDepth 100000 in
set_option maxHeartbeats 2000000 in
theorem rplay_trim2 {B r : Nat} {v : Value} {pre rr : List Pf} {f : Pf} {st : Nat} (t : ByteArray) (x : Option Addr) (n c : Nat) (hst : st < 1000000000) (hpre : ∀ g, g ∈ pre → g.no ≠ f.no) (z : Nat) (hz : z ≤ f.bs.length) (hc : ¬ z < f.safe) {W : World} (hB : B ≤ W.heap.size) (R : RdAt B r v (pre ++ f :: rr) st W) :
    Calls Try.prog 14 #[.pointer (some ⟨r, 0, none⟩), .agg #[.int .i64 3, .int .i64 f.no, .int .i64 (z : Int), .string t, .slice x n c]] W fun e W' => RPost B r 0 (pre ++ ⟨f.no, f.bs.take z, min f.safe z⟩ :: rr) (st + 1) W e W' := by
  have ok := R.ok f (by simp)
  have bl : Below W.heap.size W (W.alloc (.cells #[.int .i64 3, .int .i64 f.no, .int .i64 (z : Int), .string t, .slice x n c] 28)) := by repeat (first | with_reducible exact Below.refl _ _ | with_reducible refine Below.drew ?_ | with_reducible refine Below.alloc ?_ (by first | omega | (simp <;> omega)) _ | with_reducible refine Below.setCell ?_ (by first | omega | (simp <;> omega)) _)
  have Ra := R.below bl
  have AT := hide (rat_c f.no Ra)
  rw [atI_mid hpre] at AT
  have RW := Ra.row
  rcases RW.2 with ⟨rfl, h0⟩ | ⟨g, cap, cur, rfl, -, -, h3, h4, -, -⟩
  · simp at h0
  obtain ⟨q0, q1, q2⟩ := flat_at (mid_at pre rr f)
  have lp : pre.length < (pre ++ f :: rr).length := by simp
  have c0 : (W.alloc (.cells #[.int .i64 3, .int .i64 f.no, .int .i64 (z : Int), .string t, .slice x n c] 28)).cell? ⟨r, 0, none⟩ = some (.slice (some ⟨g, 0, none⟩) (pre ++ f :: rr).length cap) := Ra.hd.cell 0
  have co : (W.alloc (.cells #[.int .i64 3, .int .i64 f.no, .int .i64 (z : Int), .string t, .slice x n c] 28)).cell? ⟨r, 1, none⟩ = some (.bool false) := Ra.hd.cell 1
  have k0 := (World.ownsRow.cellAt RW (pre.length * 3) (by omega)).trans q0
  have k1 := (World.ownsRow.cellAt RW (pre.length * 3 + 1) (by omega)).trans q1
  have k2 := (World.ownsRow.cellAt RW (pre.length * 3 + 2) (by omega)).trans q2
  have hlr := Ra.hd.lt
  have BX := Blk.new W #[.int .i64 3, .int .i64 f.no, .int .i64 (z : Int), .string t, .slice x n c] 28
  have hlx := BX.lt
  have RA := hide Ra
  have BL := hide bl
  have s1 := sfS_size ok.1
  have s2 := tlS_size f
  have Fb := Blk.new (W.alloc (.cells #[.int .i64 3, .int .i64 f.no, .int .i64 (z : Int), .string t, .slice x n c] 28)) #[.int .i64 f.no, .string (sfS f), .string (tlS f)] 60
  rw [show (W.alloc (.cells #[.int .i64 3, .int .i64 f.no, .int .i64 (z : Int), .string t, .slice x n c] 28)).heap.size = W.heap.size + 1 by simp] at Fb
  have FB := hide Fb
  have BXF := hide (BX.alloc (.cells #[.int .i64 f.no, .string (sfS f), .string (tlS f)] 60))
  have bl2 : Below (W.alloc (.cells #[.int .i64 3, .int .i64 f.no, .int .i64 (z : Int), .string t, .slice x n c] 28)).heap.size (W.alloc (.cells #[.int .i64 3, .int .i64 f.no, .int .i64 (z : Int), .string t, .slice x n c] 28)) ((W.alloc (.cells #[.int .i64 3, .int .i64 f.no, .int .i64 (z : Int), .string t, .slice x n c] 28)).alloc (.cells #[.int .i64 f.no, .string (sfS f), .string (tlS f)] 60)) := by repeat (first | with_reducible exact Below.refl _ _ | with_reducible refine Below.drew ?_ | with_reducible refine Below.alloc ?_ (by first | omega | (simp <;> omega)) _ | with_reducible refine Below.setCell ?_ (by first | omega | (simp <;> omega)) _)
  have RF := hide (Ra.below bl2)
  have BL2 := hide (bl.trans (bl2.mono bl.size))
  have JA := join_all f
  have sj : (sfS f ++ tlS f).size = f.bs.length := by rw [JA]; show f.bs.toArray.size = _; simp
  have OKH := hide (show (⟨f.no, f.bs.take z, min f.safe z⟩ : Pf).safe ≤ (⟨f.no, f.bs.take z, min f.safe z⟩ : Pf).bs.length ∧ (⟨f.no, f.bs.take z, min f.safe z⟩ : Pf).bs.length ≤ 1048576 ∧ 1 ≤ (⟨f.no, f.bs.take z, min f.safe z⟩ : Pf).no ∧ (⟨f.no, f.bs.take z, min f.safe z⟩ : Pf).no ≤ 1000000 from ⟨by show min f.safe z ≤ (f.bs.take z).length; rw [List.length_take]; omega, by show (f.bs.take z).length ≤ 1048576; rw [List.length_take]; omega, ok.2.2⟩)
  have ja : (sfS f ++ tlS f).data.toList = f.bs := by rw [JA]
  have HS1 : Hid (sfS (⟨f.no, f.bs.take z, min f.safe z⟩ : Pf) = (sfS f ++ tlS f).extract 0 (sfS f).size) := by
    refine bytes_eq9 ?_
    rw [ByteArray.data_extract, Array.toList_extract]
    simp only [List.extract_eq_take_drop, Nat.sub_zero, List.drop_zero]
    rw [ja]
    show (f.bs.take z).take (min f.safe z) = _
    rw [List.take_take]
    congr 1
    omega
  have HS2 : Hid (tlS (⟨f.no, f.bs.take z, min f.safe z⟩ : Pf) = (sfS f ++ tlS f).extract (sfS f).size z) := by
    refine bytes_eq9 ?_
    rw [ByteArray.data_extract, Array.toList_extract]
    simp only [List.extract_eq_take_drop]
    rw [ja]
    show (f.bs.take z).drop (min f.safe z) = _
    rw [List.drop_take]
    congr 1
    · omega
    · congr 1
      omega
  have hz2 : (z : Int) ≤ (f.bs.length : Int) := by omega
  have hal : (sfS f ++ tlS f).size = f.bs.length := sj
  have hs0 : ((sfS f).size : Int) ≤ (f.bs.length : Int) := by omega
  obtain ⟨sf, hsf⟩ : ∃ sf, sfS f = sf := ⟨_, rfl⟩
  obtain ⟨tl, htl⟩ : ∃ tl, tlS f = tl := ⟨_, rfl⟩
  obtain ⟨k, hk⟩ : ∃ k, pre.length = k := ⟨_, rfl⟩
  obtain ⟨m, hm⟩ : ∃ m, (pre ++ f :: rr).length = m := ⟨_, rfl⟩
  obtain ⟨no, hno⟩ : ∃ no, f.no = no := ⟨_, rfl⟩
  have HNO := hide hno
  have n1 : 1 ≤ no ∧ no ≤ 1000000 := by rw [← hno]; exact ok.2.2
  obtain ⟨n1, n2⟩ := n1
  have m110 : m ≤ 110 := by rw [← hm]; exact R.len
  have HK := hide hk
  have HM := hide hm
  rw [hsf] at k1 s1 FB BXF RF BL2 sj
  rw [htl] at k2 s2 FB BXF RF BL2 sj
  rw [hk] at k0 k1 k2 AT lp
  rw [hm] at c0 lp h3 RA RF
  rw [hno] at AT c0 co k0 k1 k2 RA BL hlr hlx FB BXF RF BL2 ⊢
  have kn : (k : Int) < (m : Int) := by omega
  have z3 : sf.size + tl.size ≤ 1048576 := by omega
  rw [hsf, htl] at HS1 hal
  rw [hsf] at hs0
  rw [hsf, htl] at HS2
  have hc' : ¬ (z : Int) < (sf.size : Int) := by omega
  have SC := hide (rstep2_c hst RF.out)
  have FBb := FB.out
  have BXb := BXF.out
  clear R Ra RW q0 q1 q2 BX bl ok hk hm hsf htl s1 hno hpre Fb bl2 JA hst ja
  go_enter Try.func14, Try.ntmps14
  go_wp2_with fail
  refine AT.out.mono ?_
  rintro e w1 ⟨rfl, rfl⟩
  clear AT
  go_upto_region 52 with fail
  obtain ⟨al, hal'⟩ : ∃ al, sf ++ tl = al := ⟨_, rfl⟩
  rw [hal'] at HS1 HS2 hal ⊢
  obtain ⟨L, hL⟩ : ∃ L, f.bs.length = L := ⟨_, rfl⟩
  rw [hL] at hal hz2 hs0
  have hza : (z : Int) ≤ (al.size : Int) := by omega
  have hzc : ¬ (z : Int) > (al.size : Int) := by omega
  have hsz : (sf.size : Int) ≤ (al.size : Int) := by omega
  clear hal' hL sj s2
  go_wp2_with fail
  refine SC.out.mono ?_
  rintro e w5 ⟨rfl, hR, hC⟩
  have R5 := hide hR
  have C5 := hide ((Ch.below (X := MineR B W) BL2.out).nextR (Ch.headR RF.out hC))
  have F5 := hC.blk FBb (fun e => blk_ne FBb RF.out.hd (by decide) e)
  have X5 := hC.blk BXb (fun e => blk_ne BXb RF.out.hd (by decide) e)
  have FB5 := hide F5
  have g0 := F5.cell 0
  have g1 := F5.cell 1
  have g2 := F5.cell 2
  have x0 := X5.cell 0
  have x2 := X5.cell 2
  have hlf := F5.lt
  have hlx5 := X5.lt
  simp only [List.getElem?_toArray, List.getElem?_cons_zero, List.getElem?_cons_succ] at g0 g1 g2 x0 x2
  have c0' : w5.cell? ⟨r, 0, none⟩ = some (.slice (some ⟨g, 0, none⟩) m cap) := hR.hd.cell 0
  have hrl := hR.hd.lt
  obtain ⟨_, hgl, cur5, hc5⟩ := rowR_block hR.row (k := g) rfl
  have G5 : Blk w5 g cur5 60 := hc5
  have fz0 := G5.frozen (k * 3)
  have fz1 := G5.frozen (k * 3 + 1)
  have fz2 := G5.frozen (k * 3 + 2)
  have gr : g ≠ r := blk_ne G5 hR.hd (by decide)
  have gx : g ≠ W.heap.size := blk_ne G5 X5 (by decide)
  have RQ : w5.ownsRow B 60 3 (.slice (some ⟨g, 0, none⟩) m cap) m (flat (pre ++ f :: rr)) := by
    have q := hR.row
    rwa [HM.out] at q
  have w0 : ∃ z, w5.cell? ⟨g, k * 3, none⟩ = some z := ⟨_, (World.ownsRow.cellAt RQ (k * 3) (by have := HK.out; have := HM.out; omega)).trans (HK.out ▸ (flat_at (mid_at pre rr f)).1)⟩
  have w1' : ∃ z, w5.cell? ⟨g, k * 3 + 1, none⟩ = some z := ⟨_, (World.ownsRow.cellAt RQ (k * 3 + 1) (by have := HK.out; have := HM.out; omega)).trans (HK.out ▸ (flat_at (mid_at pre rr f)).2.1)⟩
  have w2' : ∃ z, w5.cell? ⟨g, k * 3 + 2, none⟩ = some z := ⟨_, (World.ownsRow.cellAt RQ (k * 3 + 2) (by have := HK.out; have := HM.out; omega)).trans (HK.out ▸ (flat_at (mid_at pre rr f)).2.2)⟩
  obtain ⟨y0, w0⟩ := w0
  obtain ⟨y1, w1'⟩ := w1'
  obtain ⟨y2, w2'⟩ := w2'
  clear hR hC SC RF FBb BXb F5 X5 hc5 G5 RQ BL2 FB BXF RA BL c0 co k0 k1 k2 hlr hlx
  have EL := hide (fun (hw : RdAt B r (.slice (some ⟨g, 0, none⟩) m cap) (pre ++ f :: rr) (st + 1) w5) => elem_new hw HM.out.symm (⟨f.no, f.bs.take z, min f.safe z⟩ : Pf) OKH.out)
  rw [HK.out, HS1.out, HS2.out] at EL
  have EL2 := hide (EL.out R5.out)
  clear EL
  rw [show (⟨f.no, f.bs.take z, min f.safe z⟩ : Pf).no = no from HNO.out] at EL2
  go_upto_region 63 with fail
  go_region
  have R6 := hide (EL2.out.1.below (Below.refl _ _).drew)
  have C6 := hide (C5.out.nextR (EL2.out.2.nextR (Ch.below (Below.refl _ _).drew)))
  clear EL2 R5 C5 FB5 g0 g1 g2 x0 x2 hlf hlx5 c0' hrl hgl fz0 fz1 fz2 w0 w1' w2' HS1 HS2 OKH
  go_wp2_with fail
  go_ret
  exact ⟨rfl, _, R6.out, C6.out⟩

end Go.Proofs.Ytoppmpodiofhhaa
