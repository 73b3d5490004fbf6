/-
  The reference's Play: Remove; a Trim that is refused.
-/
import Derived.Test.YtoppmpodiofhhaaDkR6
namespace Go.Proofs.Ytoppmpodiofhhaa
open Go.ChangeShapes Go.WideShapes Go.ChangeAt Go.RowKit
set_option linter.unusedVariables false
set_option linter.unusedSimpArgs false

set_option maxRecDepth 100000 in
set_option maxHeartbeats 2000000 in
theorem rplay_bad_lo {B r : Nat} {v : Value} {pre rr : List Pf} {f : Pf} {st : Nat} (N : Int) (t : ByteArray) (x : Option Addr) (n c : Nat) (hst : st < 1000000000) (hpre : ∀ g, g ∈ pre → g.no ≠ f.no) (hz : N < 0) {W : World} (hB : B ≤ W.heap.size) (R : RdAt B r v (pre ++ f :: rr) st W) :
    Calls Try.prog 14 #[.pointer (some ⟨r, 0, none⟩), .agg #[.int .i64 3, .int .i64 f.no, .int .i64 N, .string t, .slice x n c]] W fun e W' => RPost B r 1 (pre ++ f :: rr) st W e W' := by
  have ok := R.ok f (by simp)
  have bl : Below W.heap.size W (W.alloc (.cells #[.int .i64 3, .int .i64 f.no, .int .i64 N, .string t, .slice x n c] 28)) := by repeat (first | with_reducible exact Below.refl _ _ | with_reducible refine Below.drew ?_ | with_reducible refine Below.alloc ?_ (by first | omega | (simp <;> omega)) _ | with_reducible refine Below.setCell ?_ (by first | omega | (simp <;> omega)) _)
  have Ra := R.below bl
  have AT := hide (rat_c f.no Ra)
  rw [atI_mid hpre] at AT
  have RW := Ra.row
  rcases RW.2 with ⟨rfl, h0⟩ | ⟨g, cap, cur, rfl, -, -, h3, h4, -, -⟩
  · simp at h0
  obtain ⟨q0, q1, q2⟩ := flat_at (mid_at pre rr f)
  have lp : pre.length < (pre ++ f :: rr).length := by simp
  have c0 : (W.alloc (.cells #[.int .i64 3, .int .i64 f.no, .int .i64 N, .string t, .slice x n c] 28)).cell? ⟨r, 0, none⟩ = some (.slice (some ⟨g, 0, none⟩) (pre ++ f :: rr).length cap) := Ra.hd.cell 0
  have co : (W.alloc (.cells #[.int .i64 3, .int .i64 f.no, .int .i64 N, .string t, .slice x n c] 28)).cell? ⟨r, 1, none⟩ = some (.bool false) := Ra.hd.cell 1
  have k0 := (World.ownsRow.cellAt RW (pre.length * 3) (by omega)).trans q0
  have k1 := (World.ownsRow.cellAt RW (pre.length * 3 + 1) (by omega)).trans q1
  have k2 := (World.ownsRow.cellAt RW (pre.length * 3 + 2) (by omega)).trans q2
  have hlr := Ra.hd.lt
  have BX := Blk.new W #[.int .i64 3, .int .i64 f.no, .int .i64 N, .string t, .slice x n c] 28
  have hlx := BX.lt
  have RA := hide Ra
  have BL := hide bl
  have s1 := sfS_size ok.1
  have s2 := tlS_size f
  have Fb := Blk.new (W.alloc (.cells #[.int .i64 3, .int .i64 f.no, .int .i64 N, .string t, .slice x n c] 28)) #[.int .i64 f.no, .string (sfS f), .string (tlS f)] 60
  rw [show (W.alloc (.cells #[.int .i64 3, .int .i64 f.no, .int .i64 N, .string t, .slice x n c] 28)).heap.size = W.heap.size + 1 by simp] at Fb
  have FB := hide Fb
  have BXF := hide (BX.alloc (.cells #[.int .i64 f.no, .string (sfS f), .string (tlS f)] 60))
  have bl2 : Below (W.alloc (.cells #[.int .i64 3, .int .i64 f.no, .int .i64 N, .string t, .slice x n c] 28)).heap.size (W.alloc (.cells #[.int .i64 3, .int .i64 f.no, .int .i64 N, .string t, .slice x n c] 28)) ((W.alloc (.cells #[.int .i64 3, .int .i64 f.no, .int .i64 N, .string t, .slice x n c] 28)).alloc (.cells #[.int .i64 f.no, .string (sfS f), .string (tlS f)] 60)) := by repeat (first | with_reducible exact Below.refl _ _ | with_reducible refine Below.drew ?_ | with_reducible refine Below.alloc ?_ (by first | omega | (simp <;> omega)) _ | with_reducible refine Below.setCell ?_ (by first | omega | (simp <;> omega)) _)
  have RF := hide (Ra.below bl2)
  have BL2 := hide (bl.trans (bl2.mono bl.size))
  have JA := join_all f
  have sj : (sfS f ++ tlS f).size = f.bs.length := by rw [JA]; show f.bs.toArray.size = _; simp
  have hal : (sfS f ++ tlS f).size = f.bs.length := sj
  obtain ⟨sf, hsf⟩ : ∃ sf, sfS f = sf := ⟨_, rfl⟩
  obtain ⟨tl, htl⟩ : ∃ tl, tlS f = tl := ⟨_, rfl⟩
  obtain ⟨k, hk⟩ : ∃ k, pre.length = k := ⟨_, rfl⟩
  obtain ⟨m, hm⟩ : ∃ m, (pre ++ f :: rr).length = m := ⟨_, rfl⟩
  obtain ⟨no, hno⟩ : ∃ no, f.no = no := ⟨_, rfl⟩
  have HNO := hide hno
  have n1 : 1 ≤ no ∧ no ≤ 1000000 := by rw [← hno]; exact ok.2.2
  obtain ⟨n1, n2⟩ := n1
  have m110 : m ≤ 110 := by rw [← hm]; exact R.len
  have HK := hide hk
  have HM := hide hm
  rw [hsf] at k1 s1 FB BXF RF BL2 sj
  rw [htl] at k2 s2 FB BXF RF BL2 sj
  rw [hk] at k0 k1 k2 AT lp
  rw [hm] at c0 lp h3 RA RF
  rw [hno] at AT c0 co k0 k1 k2 RA BL hlr hlx FB BXF RF BL2 ⊢
  have kn : (k : Int) < (m : Int) := by omega
  have z3 : sf.size + tl.size ≤ 1048576 := by omega
  clear R Ra RW q0 q1 q2 BX bl ok hk hm s1 hpre Fb bl2 JA hst
  rw [hsf, htl] at hal
  clear hsf htl hno
  go_enter Try.func14, Try.ntmps14
  go_wp2_with fail
  refine AT.out.mono ?_
  rintro e w1 ⟨rfl, rfl⟩
  clear AT
  go_upto_region 52 with fail
  obtain ⟨al, hal'⟩ : ∃ al, sf ++ tl = al := ⟨_, rfl⟩
  rw [hal'] at hal ⊢
  clear hal' sj s2 hal
  go_wp2_with fail
  go_ret
  exact ⟨rfl, _, RF.out, Ch.below BL2.out⟩

set_option maxRecDepth 100000 in
set_option maxHeartbeats 2000000 in
theorem rplay_bad_hi {B r : Nat} {v : Value} {pre rr : List Pf} {f : Pf} {st : Nat} (N : Int) (t : ByteArray) (x : Option Addr) (n c : Nat) (hst : st < 1000000000) (hpre : ∀ g, g ∈ pre → g.no ≠ f.no) (hz : (f.bs.length : Int) < N) (hz0 : 0 ≤ N) {W : World} (hB : B ≤ W.heap.size) (R : RdAt B r v (pre ++ f :: rr) st W) :
    Calls Try.prog 14 #[.pointer (some ⟨r, 0, none⟩), .agg #[.int .i64 3, .int .i64 f.no, .int .i64 N, .string t, .slice x n c]] W fun e W' => RPost B r 1 (pre ++ f :: rr) st W e W' := by
  have ok := R.ok f (by simp)
  have bl : Below W.heap.size W (W.alloc (.cells #[.int .i64 3, .int .i64 f.no, .int .i64 N, .string t, .slice x n c] 28)) := by repeat (first | with_reducible exact Below.refl _ _ | with_reducible refine Below.drew ?_ | with_reducible refine Below.alloc ?_ (by first | omega | (simp <;> omega)) _ | with_reducible refine Below.setCell ?_ (by first | omega | (simp <;> omega)) _)
  have Ra := R.below bl
  have AT := hide (rat_c f.no Ra)
  rw [atI_mid hpre] at AT
  have RW := Ra.row
  rcases RW.2 with ⟨rfl, h0⟩ | ⟨g, cap, cur, rfl, -, -, h3, h4, -, -⟩
  · simp at h0
  obtain ⟨q0, q1, q2⟩ := flat_at (mid_at pre rr f)
  have lp : pre.length < (pre ++ f :: rr).length := by simp
  have c0 : (W.alloc (.cells #[.int .i64 3, .int .i64 f.no, .int .i64 N, .string t, .slice x n c] 28)).cell? ⟨r, 0, none⟩ = some (.slice (some ⟨g, 0, none⟩) (pre ++ f :: rr).length cap) := Ra.hd.cell 0
  have co : (W.alloc (.cells #[.int .i64 3, .int .i64 f.no, .int .i64 N, .string t, .slice x n c] 28)).cell? ⟨r, 1, none⟩ = some (.bool false) := Ra.hd.cell 1
  have k0 := (World.ownsRow.cellAt RW (pre.length * 3) (by omega)).trans q0
  have k1 := (World.ownsRow.cellAt RW (pre.length * 3 + 1) (by omega)).trans q1
  have k2 := (World.ownsRow.cellAt RW (pre.length * 3 + 2) (by omega)).trans q2
  have hlr := Ra.hd.lt
  have BX := Blk.new W #[.int .i64 3, .int .i64 f.no, .int .i64 N, .string t, .slice x n c] 28
  have hlx := BX.lt
  have RA := hide Ra
  have BL := hide bl
  have s1 := sfS_size ok.1
  have s2 := tlS_size f
  have Fb := Blk.new (W.alloc (.cells #[.int .i64 3, .int .i64 f.no, .int .i64 N, .string t, .slice x n c] 28)) #[.int .i64 f.no, .string (sfS f), .string (tlS f)] 60
  rw [show (W.alloc (.cells #[.int .i64 3, .int .i64 f.no, .int .i64 N, .string t, .slice x n c] 28)).heap.size = W.heap.size + 1 by simp] at Fb
  have FB := hide Fb
  have BXF := hide (BX.alloc (.cells #[.int .i64 f.no, .string (sfS f), .string (tlS f)] 60))
  have bl2 : Below (W.alloc (.cells #[.int .i64 3, .int .i64 f.no, .int .i64 N, .string t, .slice x n c] 28)).heap.size (W.alloc (.cells #[.int .i64 3, .int .i64 f.no, .int .i64 N, .string t, .slice x n c] 28)) ((W.alloc (.cells #[.int .i64 3, .int .i64 f.no, .int .i64 N, .string t, .slice x n c] 28)).alloc (.cells #[.int .i64 f.no, .string (sfS f), .string (tlS f)] 60)) := by repeat (first | with_reducible exact Below.refl _ _ | with_reducible refine Below.drew ?_ | with_reducible refine Below.alloc ?_ (by first | omega | (simp <;> omega)) _ | with_reducible refine Below.setCell ?_ (by first | omega | (simp <;> omega)) _)
  have RF := hide (Ra.below bl2)
  have BL2 := hide (bl.trans (bl2.mono bl.size))
  have JA := join_all f
  have sj : (sfS f ++ tlS f).size = f.bs.length := by rw [JA]; show f.bs.toArray.size = _; simp
  have hal : (sfS f ++ tlS f).size = f.bs.length := sj
  obtain ⟨sf, hsf⟩ : ∃ sf, sfS f = sf := ⟨_, rfl⟩
  obtain ⟨tl, htl⟩ : ∃ tl, tlS f = tl := ⟨_, rfl⟩
  obtain ⟨k, hk⟩ : ∃ k, pre.length = k := ⟨_, rfl⟩
  obtain ⟨m, hm⟩ : ∃ m, (pre ++ f :: rr).length = m := ⟨_, rfl⟩
  obtain ⟨no, hno⟩ : ∃ no, f.no = no := ⟨_, rfl⟩
  have HNO := hide hno
  have n1 : 1 ≤ no ∧ no ≤ 1000000 := by rw [← hno]; exact ok.2.2
  obtain ⟨n1, n2⟩ := n1
  have m110 : m ≤ 110 := by rw [← hm]; exact R.len
  have HK := hide hk
  have HM := hide hm
  rw [hsf] at k1 s1 FB BXF RF BL2 sj
  rw [htl] at k2 s2 FB BXF RF BL2 sj
  rw [hk] at k0 k1 k2 AT lp
  rw [hm] at c0 lp h3 RA RF
  rw [hno] at AT c0 co k0 k1 k2 RA BL hlr hlx FB BXF RF BL2 ⊢
  have kn : (k : Int) < (m : Int) := by omega
  have z3 : sf.size + tl.size ≤ 1048576 := by omega
  clear R Ra RW q0 q1 q2 BX bl ok hk hm s1 hpre Fb bl2 JA hst
  rw [hsf, htl] at hal
  clear hsf htl hno
  go_enter Try.func14, Try.ntmps14
  go_wp2_with fail
  refine AT.out.mono ?_
  rintro e w1 ⟨rfl, rfl⟩
  clear AT
  go_upto_region 52 with fail
  obtain ⟨al, hal'⟩ : ∃ al, sf ++ tl = al := ⟨_, rfl⟩
  rw [hal'] at hal ⊢
  have hzc : N > (al.size : Int) := by omega
  clear hal' sj s2 hal
  go_wp2_with fail
  go_ret
  exact ⟨rfl, _, RF.out, Ch.below BL2.out⟩

set_option maxRecDepth 100000 in
set_option maxHeartbeats 2000000 in
theorem rplay_remove {B r : Nat} {v : Value} {pre rr : List Pf} {f : Pf} {st : Nat} (N : Int) (t : ByteArray) (x : Option Addr) (n c : Nat) (hst : st < 1000000000) (hpre : ∀ g, g ∈ pre → g.no ≠ f.no)  {W : World} (hB : B ≤ W.heap.size) (R : RdAt B r v (pre ++ f :: rr) st W) :
    Calls Try.prog 14 #[.pointer (some ⟨r, 0, none⟩), .agg #[.int .i64 4, .int .i64 f.no, .int .i64 N, .string t, .slice x n c]] W fun e W' => RPost B r 0 (pre ++ rr) (st + 1) W e W' := by
  have ok := R.ok f (by simp)
  have bl : Below W.heap.size W (W.alloc (.cells #[.int .i64 4, .int .i64 f.no, .int .i64 N, .string t, .slice x n c] 28)) := by repeat (first | with_reducible exact Below.refl _ _ | with_reducible refine Below.drew ?_ | with_reducible refine Below.alloc ?_ (by first | omega | (simp <;> omega)) _ | with_reducible refine Below.setCell ?_ (by first | omega | (simp <;> omega)) _)
  have Ra := R.below bl
  have AT := hide (rat_c f.no Ra)
  rw [atI_mid hpre] at AT
  have RW := Ra.row
  rcases RW.2 with ⟨rfl, h0⟩ | ⟨g, cap, cur, rfl, -, -, h3, h4, -, -⟩
  · simp at h0
  obtain ⟨q0, q1, q2⟩ := flat_at (mid_at pre rr f)
  have lp : pre.length < (pre ++ f :: rr).length := by simp
  have c0 : (W.alloc (.cells #[.int .i64 4, .int .i64 f.no, .int .i64 N, .string t, .slice x n c] 28)).cell? ⟨r, 0, none⟩ = some (.slice (some ⟨g, 0, none⟩) (pre ++ f :: rr).length cap) := Ra.hd.cell 0
  have co : (W.alloc (.cells #[.int .i64 4, .int .i64 f.no, .int .i64 N, .string t, .slice x n c] 28)).cell? ⟨r, 1, none⟩ = some (.bool false) := Ra.hd.cell 1
  have k0 := (World.ownsRow.cellAt RW (pre.length * 3) (by omega)).trans q0
  have k1 := (World.ownsRow.cellAt RW (pre.length * 3 + 1) (by omega)).trans q1
  have k2 := (World.ownsRow.cellAt RW (pre.length * 3 + 2) (by omega)).trans q2
  have hlr := Ra.hd.lt
  have BX := Blk.new W #[.int .i64 4, .int .i64 f.no, .int .i64 N, .string t, .slice x n c] 28
  have hlx := BX.lt
  have RA := hide Ra
  have BL := hide bl
  have s1 := sfS_size ok.1
  have s2 := tlS_size f
  have Fb := Blk.new (W.alloc (.cells #[.int .i64 4, .int .i64 f.no, .int .i64 N, .string t, .slice x n c] 28)) #[.int .i64 f.no, .string (sfS f), .string (tlS f)] 60
  rw [show (W.alloc (.cells #[.int .i64 4, .int .i64 f.no, .int .i64 N, .string t, .slice x n c] 28)).heap.size = W.heap.size + 1 by simp] at Fb
  have FB := hide Fb
  have BXF := hide (BX.alloc (.cells #[.int .i64 f.no, .string (sfS f), .string (tlS f)] 60))
  have bl2 : Below (W.alloc (.cells #[.int .i64 4, .int .i64 f.no, .int .i64 N, .string t, .slice x n c] 28)).heap.size (W.alloc (.cells #[.int .i64 4, .int .i64 f.no, .int .i64 N, .string t, .slice x n c] 28)) ((W.alloc (.cells #[.int .i64 4, .int .i64 f.no, .int .i64 N, .string t, .slice x n c] 28)).alloc (.cells #[.int .i64 f.no, .string (sfS f), .string (tlS f)] 60)) := by repeat (first | with_reducible exact Below.refl _ _ | with_reducible refine Below.drew ?_ | with_reducible refine Below.alloc ?_ (by first | omega | (simp <;> omega)) _ | with_reducible refine Below.setCell ?_ (by first | omega | (simp <;> omega)) _)
  have RF := hide (Ra.below bl2)
  have BL2 := hide (bl.trans (bl2.mono bl.size))
  have JA := join_all f
  have sj : (sfS f ++ tlS f).size = f.bs.length := by rw [JA]; show f.bs.toArray.size = _; simp
  have HBW := hide hB
  obtain ⟨sf, hsf⟩ : ∃ sf, sfS f = sf := ⟨_, rfl⟩
  obtain ⟨tl, htl⟩ : ∃ tl, tlS f = tl := ⟨_, rfl⟩
  obtain ⟨k, hk⟩ : ∃ k, pre.length = k := ⟨_, rfl⟩
  obtain ⟨m, hm⟩ : ∃ m, (pre ++ f :: rr).length = m := ⟨_, rfl⟩
  obtain ⟨no, hno⟩ : ∃ no, f.no = no := ⟨_, rfl⟩
  have HNO := hide hno
  have n1 : 1 ≤ no ∧ no ≤ 1000000 := by rw [← hno]; exact ok.2.2
  obtain ⟨n1, n2⟩ := n1
  have m110 : m ≤ 110 := by rw [← hm]; exact R.len
  have HK := hide hk
  have HM := hide hm
  rw [hsf] at k1 s1 FB BXF RF BL2 sj
  rw [htl] at k2 s2 FB BXF RF BL2 sj
  rw [hk] at k0 k1 k2 AT lp
  rw [hm] at c0 lp h3 RA RF
  rw [hno] at AT c0 co k0 k1 k2 RA BL hlr hlx FB BXF RF BL2 ⊢
  have kn : (k : Int) < (m : Int) := by omega
  have z3 : sf.size + tl.size ≤ 1048576 := by omega
  have hpn := hide hpre
  have SC := hide (rstep2_c hst RF.out)
  have FBb := FB.out
  have BXb := BXF.out
  clear R Ra RW q0 q1 q2 BX bl ok hk hm hsf htl s1 hno hpre Fb bl2 JA hst
  go_enter Try.func14, Try.ntmps14
  go_wp2_with fail
  refine AT.out.mono ?_
  rintro e w1 ⟨rfl, rfl⟩
  clear AT
  go_wp2_with fail
  refine SC.out.mono ?_
  rintro e w5 ⟨rfl, hR, hC⟩
  have R5 := hide hR
  have C5 := hide ((Ch.below (X := MineR B W) BL2.out).nextR (Ch.headR RF.out hC))
  have F5 := hC.blk FBb (fun e => blk_ne FBb RF.out.hd (by decide) e)
  have X5 := hC.blk BXb (fun e => blk_ne BXb RF.out.hd (by decide) e)
  have FB5 := hide F5
  have g0 := F5.cell 0
  have g1 := F5.cell 1
  have g2 := F5.cell 2
  have x0 := X5.cell 0
  have x2 := X5.cell 2
  have hlf := F5.lt
  have hlx5 := X5.lt
  simp only [List.getElem?_toArray, List.getElem?_cons_zero, List.getElem?_cons_succ] at g0 g1 g2 x0 x2
  have c0' : w5.cell? ⟨r, 0, none⟩ = some (.slice (some ⟨g, 0, none⟩) m cap) := hR.hd.cell 0
  have hrl := hR.hd.lt
  obtain ⟨_, hgl, cur5, hc5⟩ := rowR_block hR.row (k := g) rfl
  have G5 : Blk w5 g cur5 60 := hc5
  have fz0 := G5.frozen (k * 3)
  have fz1 := G5.frozen (k * 3 + 1)
  have fz2 := G5.frozen (k * 3 + 2)
  have gr : g ≠ r := blk_ne G5 hR.hd (by decide)
  have gx : g ≠ W.heap.size := blk_ne G5 X5 (by decide)
  have RQ : w5.ownsRow B 60 3 (.slice (some ⟨g, 0, none⟩) m cap) m (flat (pre ++ f :: rr)) := by
    have q := hR.row
    rwa [HM.out] at q
  clear hR hC SC RF FBb BXb F5 X5 hc5 G5 BL2 FB BXF RA BL c0 co k0 k1 k2 hlr hlx fz0 fz1 fz2 g0 g1 g2
  obtain ⟨i0, hi, hz0, hz1, hz2⟩ := info_parts infoF
  have O0 : Hid ((w5.alloc (.cells #[] 60)).ownsRow w5.heap.size 60 3 (.slice (some ⟨w5.heap.size, 0, none⟩) 0 0) 0 []) := World.ownsRow_made (e := 60) (size := 3) w5 #[] 0 (base := w5.heap.size) (Nat.le_refl _) (Nat.zero_le _) rfl
  have B0 : Hid (Below w5.heap.size w5 (w5.alloc (.cells #[] 60))) := (Below.refl _ _).alloc (Nat.le_refl _) _
  have RQH := hide RQ
  have NW1 : Hid (∀ (j : Nat) (u : Value), (flat pre)[j]? = some u → (w5.alloc (.cells #[] 60)).cell? ((⟨g, 0, none⟩ : Addr).add j) = some u) := by
    intro j u hj
    have e : (⟨g, 0, none⟩ : Addr).add j = ⟨g, j, none⟩ := by unfold Addr.add; split <;> simp_all
    have jl := (List.getElem?_eq_some_iff.1 hj).1
    rw [flat_length] at jl
    have q := World.ownsRow.cellAt (RQH.out.alloc (.cells #[] 60)) j (by have := HK.out; omega)
    rw [e, q, flat_append, List.getElem?_append_left (by rw [flat_length]; exact jl)]
    exact hj
  have L1 : Hid ((flat pre).length = k * 3) := by show _ = _; rw [flat_length, HK.out]
  have F1 := hide (flat_one pre)
  have hm1 : 0 + k ≤ maxLen := by unfold maxLen; omega
  have hm2 : (0 + k) * 40 ≤ 140737488355328 := by omega
  have HBa := hide (show w5.heap.size ≤ (w5.alloc (.cells #[] 60)).heap.size by simp)
  have kc : (k : Int) ≤ (cap : Int) := by omega
  clear RQ
  go_wp2_with (first | (at_builtin; refine wpList_append_own _ rfl _ _ 37 rfl w5.heap.size 60 i0 _ 3 40 Try.underlying37 hi hz0 hz1 hz2 rfl (by decide) _ 0 [] rfl O0.out ⟨g, 0, none⟩ k cap (flat pre) rfl L1.out NW1.out F1.out hm1 hm2 HBa.out ?_))
  intro v6 w6 O6 hgr hnn
  clear hnn
  have B6 := hide (bel_grown B0.out (Nat.le_refl _) O0.out (Nat.le_refl _) hgr)
  have O6H := hide O6
  have R6 := hide (R5.out.below B6.out)
  have d6 : w6.cell? ⟨r, 0, none⟩ = some (.slice (some ⟨g, 0, none⟩) m cap) := R6.out.hd.cell 0
  have f6 := R6.out.hd.frozen 0
  have hl6 := R6.out.hd.lt
  have mr : (pre ++ rr).length + 1 = m := by rw [← HM.out]; simp; omega
  have lrr : rr.length + (k + 1) = m := by rw [← HM.out, ← HK.out]; simp; omega
  have HBb := hide B6.out.size
  clear O6 hgr O0 B0 NW1 L1 F1 HBa c0' hrl hgl x0 x2 hlf hlx5
  have FINH := hide (fun (v7 : Value) (w7 : World) (b7 : Below w5.heap.size w5 w7) (O7 : w7.ownsRow w5.heap.size 60 3 v7 (pre ++ rr).length (flat (pre ++ rr))) => R5.out.row_new (gs := pre ++ rr) (Nat.le_trans HBW.out C5.out.size) b7 O7 (fun q hq => R5.out.ok q (by simp only [List.mem_append, List.mem_cons] at hq ⊢; rcases hq with h | h <;> simp [h])) (by have := HM.out; omega))
  have k1c : k + 1 ≤ cap := by omega
  have k1m : ((k : Int) + 1) ≤ (m : Int) := by omega
  by_cases hck : cap = k + 1
  · have er : rr = [] := List.eq_nil_of_length_eq_zero (by omega)
    subst er
    have NW2 : Hid (∀ (j : Nat) (u : Value), ([] : List Value)[j]? = some u → w6.cell? ((⟨g, 0, none⟩ : Addr).add j) = some u) := by
      intro j u hj
      simp at hj
    have L2 : Hid (∀ u ∈ ([] : List Value), u.oneCell' = true) := fun u hu => by cases hu
    have F2 := L2
    have em : m = k + 1 := by omega
    have hm3 : k + 0 ≤ maxLen := by omega
    have hm4 : (k + 0) * 40 ≤ 140737488355328 := by omega
    subst hck
    go_wp2_with (first | (at_builtin; refine wpList_append_own _ rfl _ _ 37 rfl w5.heap.size 60 i0 _ 3 40 Try.underlying37 hi hz0 hz1 hz2 rfl (by decide) v6 k _ rfl O6H.out ⟨g, 0, none⟩ 0 0 [] rfl rfl NW2.out L2.out hm3 hm4 HBb.out ?_))
    intro v7 w7 O7 hgr hnn
    clear hnn
    have B7 := hide (bel_grown B6.out (Nat.le_refl _) O6H.out (Nat.le_refl _) hgr)
    have FIN := hide (FINH.out v7 w7 B7.out (by
      have q := O7
      rw [flat_append, show (pre ++ ([] : List Pf)).length = k + 0 by omega]
      first | exact q | (simpa [flat] using q)))
    have R7 := R5.out.below B7.out
    have d7 : w7.cell? ⟨r, 0, none⟩ = some (.slice (some ⟨g, 0, none⟩) m (k + 1)) := R7.hd.cell 0
    have f7 := R7.hd.frozen 0
    have hl7 := R7.hd.lt
    have O8 := O7.2
    clear O7 hgr O6H B6 R6 d6 f6 hl6 NW2 L2 F2 hm3 hm4 HBb FINH R7 B7
    rcases O8 with ⟨rfl, -⟩ | ⟨g', cap', cur', rfl, -, -, -, -, -, -⟩
    all_goals
      go_wp2_with fail
      go_ret
      exact ⟨rfl, _, FIN.out.1, C5.out.nextR FIN.out.2⟩
  · have NW2 : Hid (∀ (j : Nat) (u : Value), (flat rr)[j]? = some u → w6.cell? ((⟨g, (k + 1) * 3, none⟩ : Addr).add j) = some u) := by
      intro j u hj
      have e : (⟨g, (k + 1) * 3, none⟩ : Addr).add j = ⟨g, (k + 1) * 3 + j, none⟩ := by unfold Addr.add; split <;> simp_all
      have jl := (List.getElem?_eq_some_iff.1 hj).1
      rw [flat_length] at jl
      have q6 : w6.ownsRow B 60 3 (.slice (some ⟨g, 0, none⟩) m cap) m (flat (pre ++ f :: rr)) := by
        have q := R6.out.row
        rwa [HM.out] at q
      have q := World.ownsRow.cellAt q6 ((k + 1) * 3 + j) (by omega)
      rw [e, q, ← hj]
      have ed : (flat (pre ++ f :: rr)).drop ((k + 1) * 3) = flat rr := by
        rw [flat_drop]
        congr 1
        rw [← HK.out]
        simp
      rw [← ed, List.getElem?_drop]
    have L2 : Hid ((flat rr).length = (m - (k + 1)) * 3) := by show _ = _; rw [flat_length]; omega
    have F2 := hide (flat_one rr)
    have hm3 : k + (m - (k + 1)) ≤ maxLen := by unfold maxLen; omega
    have hm4 : (k + (m - (k + 1))) * 40 ≤ 140737488355328 := by omega
    go_wp2_with (first | (at_builtin; refine wpList_append_own _ rfl _ _ 37 rfl w5.heap.size 60 i0 _ 3 40 Try.underlying37 hi hz0 hz1 hz2 rfl (by decide) v6 k _ rfl O6H.out ⟨g, (k + 1) * 3, none⟩ (m - (k + 1)) (cap - (k + 1)) (flat rr) rfl L2.out NW2.out F2.out hm3 hm4 HBb.out ?_))
    intro v7 w7 O7 hgr hnn
    clear hnn
    have B7 := hide (bel_grown B6.out (Nat.le_refl _) O6H.out (Nat.le_refl _) hgr)
    have FIN := hide (FINH.out v7 w7 B7.out (by
      have q := O7
      rw [flat_append, show (pre ++ rr).length = k + (m - (k + 1)) by omega]
      exact q))
    have R7 := R5.out.below B7.out
    have d7 : w7.cell? ⟨r, 0, none⟩ = some (.slice (some ⟨g, 0, none⟩) m cap) := R7.hd.cell 0
    have f7 := R7.hd.frozen 0
    have hl7 := R7.hd.lt
    have O8 := O7.2
    clear O7 hgr O6H B6 R6 d6 f6 hl6 NW2 L2 F2 hm3 hm4 HBb FINH R7 B7
    rcases O8 with ⟨rfl, -⟩ | ⟨g', cap', cur', rfl, -, -, -, -, -, -⟩
    all_goals
      go_wp2_with fail
      go_ret
      exact ⟨rfl, _, FIN.out.1, C5.out.nextR FIN.out.2⟩

end Go.Proofs.Ytoppmpodiofhhaa
