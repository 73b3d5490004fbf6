/-
  Append.
-/
import Derived.Test.YtoppmpodiofhhaaDk3
namespace Go.Proofs.Ytoppmpodiofhhaa
open Go.ChangeShapes Go.WideShapes Go.ChangeAt Go.RowKit
set_option linter.unusedVariables false
set_option linter.unusedSimpArgs false

theorem str_len (t : ByteArray) : t.data.toList.length = t.size := by rw [Array.length_toList]; rfl

theorem str_cells (bs : List UInt8) (t : ByteArray) : bs.map bcell ++ Lib.strCells t = (bs ++ t.data.toList).map bcell := by rw [List.map_append]; rfl

theorem ap_old {B d m : Nat} {l : List Fl} {fu : Int} {st : Nat} {on : Bool} {W w1 : World} (A : DkAt B d m l fu st on W) {f : Fl} (hf : f ∈ l) {t : ByteArray} {v1 : Value}
    (O1 : w1.ownsRow B 5 1 v1 (f.bs.length + t.size) (f.bs.map bcell ++ Lib.strCells t)) (hgr : W.grownBy w1 f.v.ownBlock) (loc : v1.ownBlock = f.v.ownBlock ∨ v1.ownBlock = some W.heap.size) (hl : f.bs.length + t.size ≤ 1048576) :
    DkAt B d m (setL l f.no (fun g => ⟨g.no, g.p, v1, g.bs ++ t.data.toList, g.safe⟩)) fu st on (w1.setCell ⟨f.p, 0, none⟩ v1) ∧ Ch (Mine B W) W (w1.setCell ⟨f.p, 0, none⟩ v1) := by
  have F := A.fl f hf
  have pl := F.hd.lt
  have ne := blk_row_ne F.hd F.row (by decide)
  have c1 : Ch (fun b => b = f.p ∨ some b = f.v.ownBlock) W w1 := (Ch.grown hgr).mono (fun b _ e => Or.inr e)
  have c2 : Ch (fun b => b = f.p ∨ some b = f.v.ownBlock) w1 (w1.setCell ⟨f.p, 0, none⟩ v1) := (Ch.cell w1 f.p 0 v1).mono (fun b _ e => Or.inl e)
  have c := c1.trans c2
  have hd1 : Blk w1 f.p #[f.v, .int .i64 (f.safe : Int)] 58 := (Ch.grown hgr).blk F.hd (fun e => ne e.symm)
  have el : (f.bs ++ t.data.toList).length = f.bs.length + t.size := by rw [List.length_append, str_len]
  refine ⟨A.file hf (fun _ => rfl) (fun _ => rfl) c ⟨hd1.put 0 v1, ?_, F.lo, F.no1, F.no2, ?_, ?_⟩ (fun b hb hlt => ?_), A.mineFile hf c⟩
  · show World.ownsRow _ B 5 1 v1 (f.bs ++ t.data.toList).length ((f.bs ++ t.data.toList).map bcell)
    rw [el, ← str_cells]
    refine (Ch.cell w1 f.p 0 v1).row O1 (fun b hb e => ?_)
    subst e
    rcases loc with q | q
    · rw [q] at hb; exact ne hb
    · rw [q] at hb; injection hb with hb; omega
  · show f.safe ≤ (f.bs ++ t.data.toList).length
    have := F.safe
    omega
  · show (f.bs ++ t.data.toList).length ≤ 1048576
    omega
  · rcases loc with q | q
    · rw [← q]; exact hb
    · have hb' : v1.ownBlock = some b := hb
      rw [q] at hb'; injection hb' with hb'; omega

theorem ap_new {B d m : Nat} {l : List Fl} {fu : Int} {st : Nat} {on : Bool} {W w1 : World} (A : DkAt B d m l fu st on W) (hB : B ≤ W.heap.size) {n : Int} (n1 : 1 ≤ n) (n2 : n ≤ 1000000) (hg : getL l n = none) {t : ByteArray} {v1 : Value}
    (O1 : w1.ownsRow W.heap.size 5 1 v1 (0 + t.size) ([] ++ Lib.strCells t)) (hgr : (W.alloc (.cells #[.slice none 0 0, .int .i64 0] 58)).grownBy w1 none) (hl : t.size ≤ 1048576) :
    DkAt B d m l fu st on (w1.setCell ⟨W.heap.size, 0, none⟩ v1) ∧ Ch (Mine B W) W (w1.setCell ⟨W.heap.size, 0, none⟩ v1) ∧ FlAt B (w1.setCell ⟨W.heap.size, 0, none⟩ v1) ⟨n, W.heap.size, v1, t.data.toList, 0⟩ ∧
      (∀ g, g ∈ l → g.no ≠ n) ∧ (∀ g, g ∈ l → Far ⟨n, W.heap.size, v1, t.data.toList, 0⟩ g) := by
  have hb := Blk.new W #[.slice none 0 0, .int .i64 0] 58
  have b0 : Below W.heap.size W (W.alloc (.cells #[.slice none 0 0, .int .i64 0] 58)) := (Below.refl _ _).alloc (Nat.le_refl _) _
  have b1 : Below W.heap.size W w1 := b0.trans ((grown_below hgr).mono (by simp))
  have hb1 : Blk w1 W.heap.size #[.slice none 0 0, .int .i64 0] 58 := hb.below (grown_below hgr)
  have b2 : Below W.heap.size W (w1.setCell ⟨W.heap.size, 0, none⟩ v1) := b1.setCell (Nat.le_refl _) _
  refine ⟨A.below b2, Ch.below b2, ⟨hb1.put 0 v1, ?_, hB, n1, n2, Nat.zero_le _, ?_⟩, getL_none hg, fun g hg' => ⟨?_, ?_⟩⟩
  · show World.ownsRow _ B 5 1 v1 t.data.toList.length (t.data.toList.map bcell)
    rw [str_len]
    have O2 : w1.ownsRow B 5 1 v1 t.size (t.data.toList.map bcell) := by
      have q := own_base O1 hB
      rw [Nat.zero_add] at q
      exact q
    exact (Ch.cell w1 W.heap.size 0 v1).row O2 (fun b hb e => by subst e; exact blk_row_ne hb1 O2 (by decide) hb)
  · show t.data.toList.length ≤ 1048576
    rw [str_len]; exact hl
  · have := (A.fl g hg').hd.lt
    show W.heap.size ≠ g.p
    omega
  · show v1.ownBlock = none ∨ v1.ownBlock ≠ g.v.ownBlock
    cases hv : v1.ownBlock with
    | none => exact Or.inl rfl
    | some k =>
      refine Or.inr (fun c => ?_)
      have h1 := (row_block O1 hv).1
      have h2 := (row_block (A.fl g hg').row c.symm).2.1
      omega

theorem stepS_fs (s : DS) : (stepS s).fs = s.fs := by unfold stepS; split <;> rfl

theorem ap_end {B d m : Nat} {l' : List Fl} {s : DS} {fs : List Pf} {W w3 w4 : World} {e : Ending} (K : Ch (Mine B W) W w3) (hv : l'.map Fl.pf = fs)
    (h : e = .returned (.int .i64 (stepV ⟨fs, s.fuse, s.steps, s.on⟩)) ∧ DkAt B d m l' (stepS ⟨fs, s.fuse, s.steps, s.on⟩).fuse (stepS ⟨fs, s.fuse, s.steps, s.on⟩).steps (stepS ⟨fs, s.fuse, s.steps, s.on⟩).on w4 ∧ Ch (Mine B w3) w3 w4) :
    e = .returned (.int .i64 (stepV s)) ∧ DkS B d (stepS ⟨fs, s.fuse, s.steps, s.on⟩) w4 ∧ Ch (Mine B W) W w4 :=
  ⟨h.1, ⟨m, l', h.2.1, by rw [stepS_fs]; exact hv⟩, K.next h.2.2⟩

set_option maxRecDepth 100000 in
set_option maxHeartbeats 2000000 in
theorem append_s {B d : Nat} (s : DS) (n : Int) (t : ByteArray) (hst : s.steps < 1000000000) {W : World} (hB : B ≤ W.heap.size) (S : DkS B d s W) :
    Calls Try.prog 19 #[.pointer (some ⟨d, 0, none⟩), .int .i64 n, .string t] W fun e W' => Left B d (apV s n t.data.toList) (apS s n t.data.toList) W e W' := by
  obtain ⟨m, l, A, hv⟩ := S
  have RC := hide (reach_c s n A)
  have AH := hide A
  have VH := hide hv
  have HB := hide hB
  unfold Left apV apS
  by_cases h : reachV s n = 0
  · obtain ⟨n1, n2, hon⟩ := reach_zero h
    rw [h] at RC
    have hR : ¬ reachV s n ≠ 0 := by omega
    rw [if_neg hR, if_neg hR, ← hv, getL_view]
    clear hR
    have LK := look_run A.map n (by omega)
    have KO := keyOfInt n (by omega)
    obtain ⟨c0, -, -, -, -, -, -, hl⟩ := A.cells
    obtain ⟨i0, hi, hz0, hz1, hz2⟩ := info_parts infoU8
    unfold atV at LK
    have LM : l.length < maxLen := by have := A.len; unfold maxLen; omega
    cases hg : getL l n with
    | some f =>
      rw [hg] at LK
      simp only [Option.map_some] at LK ⊢
      rw [show (Fl.pf f).bs = f.bs from rfl, str_len]
      obtain ⟨hm, hn⟩ := getL_mem hg
      have F := A.fl f hm
      have c4 : W.cell? ⟨f.p, 0, none⟩ = some f.v := F.hd.cell 0
      have f4 := F.hd.frozen 0
      have hl4 := F.hd.lt
      have LV := len_val F.row
      have pd : f.p ≠ d := blk_ne F.hd A.hd (by decide)
      by_cases hz : 1048576 < f.bs.length + t.size
      · rw [if_pos hz, if_pos hz]
        have hz' : (t.size : Int) > 1048576 - (f.bs.length : Int) := by omega
        obtain ⟨p, hp⟩ : ∃ p, f.p = p := ⟨_, rfl⟩
        obtain ⟨v, hfv⟩ : ∃ v, f.v = v := ⟨_, rfl⟩
        obtain ⟨k, hk⟩ : ∃ k : Int, (f.bs.length : Int) = k := ⟨_, rfl⟩
        have kb : 0 ≤ k ∧ k ≤ 1048576 := by have := F.len; omega
        obtain ⟨kb1, kb2⟩ := kb
        rw [hp] at c4 f4 hl4 LK
        rw [hfv] at c4 LV
        rw [hk] at LV hz'
        clear A hv h hg hm hn F hp hfv hk hz KO hi LM pd hon hst
        go_enter Try.func19, Try.ntmps19
        go_wp2_with fail
        refine RC.out.mono ?_
        rintro e w1 ⟨rfl, rfl⟩
        clear RC
        go_wp2_with fail
        go_ret
        exact ⟨rfl, ⟨m, l, AH.out, VH.out⟩, Ch.refl _ _⟩
      · rw [if_neg hz, if_neg hz]
        have hz' : ¬ (t.size : Int) > 1048576 - (f.bs.length : Int) := by omega
        have ROW := hide F.row
        have hm1 : f.bs.length + t.size ≤ maxLen := by unfold maxLen; omega
        have hm2 : f.bs.length + t.size ≤ 140737488355328 := by omega
        have AO := hide (fun (w1 : World) (v1 : Value) (O1 : w1.ownsRow B 5 1 v1 (f.bs.length + t.size) (f.bs.map bcell ++ Lib.strCells t)) (hgr : W.grownBy w1 f.v.ownBlock) (loc : v1.ownBlock = f.v.ownBlock ∨ v1.ownBlock = some W.heap.size) => ap_old A hm O1 hgr loc (show f.bs.length + t.size ≤ 1048576 by omega))
        have HK := hide (fun (w1 : World) (hgr : W.grownBy w1 f.v.ownBlock) => show w1.cell? ⟨f.p, 0, none⟩ = some f.v ∧ w1.frozen? ⟨f.p, 0, none⟩ = false ∧ w1.cell? ⟨d, 0, none⟩ = some (.map (some m)) ∧ f.p < w1.heap.size ∧ d < w1.heap.size from by
          have q1 := (Ch.grown hgr).blk F.hd (fun e => blk_row_ne F.hd F.row (by decide) e.symm)
          have q2 := (Ch.grown hgr).blk A.hd (fun e => blk_row_ne A.hd F.row (by decide) e.symm)
          exact ⟨q1.cell 0, q1.frozen 0, q2.cell 0, q1.lt, q2.lt⟩)
        have MS := hide (fun (v1 : Value) => show (mapL (setL l f.no (fun g => ⟨g.no, g.p, v1, g.bs ++ t.data.toList, g.safe⟩))).put (.int .i64 n) (.lit (.int .i64 (f.p : Int))) = mapL (setL l f.no (fun g => ⟨g.no, g.p, v1, g.bs ++ t.data.toList, g.safe⟩)) from by
          have q := mapL_setL l f.no (fun g => (⟨g.no, g.p, v1, g.bs ++ t.data.toList, g.safe⟩ : Fl)) (fun _ => rfl) (fun _ => rfl)
          rw [q, ← hn, mapL_same A.lies hm])
        have VV := hide (fun (v1 : Value) => show (setL l f.no (fun g => ⟨g.no, g.p, v1, g.bs ++ t.data.toList, g.safe⟩)).map Fl.pf = apF s n t.data.toList from by
          unfold apF
          rw [← hv, getL_view, hg]
          simp only [Option.map_some]
          rw [← hn]
          exact setL_is A.lies hm rfl)
        obtain ⟨p, hp⟩ : ∃ p, f.p = p := ⟨_, rfl⟩
        obtain ⟨v, hfv⟩ : ∃ v, f.v = v := ⟨_, rfl⟩
        obtain ⟨k, hk⟩ : ∃ k : Int, (f.bs.length : Int) = k := ⟨_, rfl⟩
        have kb : 0 ≤ k ∧ k ≤ 1048576 := by have := F.len; omega
        obtain ⟨kb1, kb2⟩ := kb
        rw [hp] at c4 f4 hl4 LK AO HK MS pd
        rw [hfv] at c4 LV AO ROW HK
        rw [hk] at LV hz'
        have pd' := pd.symm
        have HV : Hid (ptrElem (.pointer (some ⟨p, 0, none⟩)) = some (.lit (.int .i64 (p : Int)), [])) := rfl
        have SL : Hid (∀ v1 : Value, (setL l f.no (fun g => ⟨g.no, g.p, v1, g.bs ++ t.data.toList, g.safe⟩)).length < maxLen) := fun v1 => by rw [setL_length]; exact LM
        have STH := hide hst
        clear A hv h hg hn F hp hfv hk hz hon LM hst
        go_enter Try.func19, Try.ntmps19
        go_wp2_with fail
        refine RC.out.mono ?_
        rintro e w0 ⟨rfl, rfl⟩
        clear RC
        go_wp2_with (first | (at_builtin; refine wpList_app_str _ rfl _ _ 56 9 rfl B 5 i0 Try.underlying56 Try.underlying9 hi hz0 hz1 hz2 v f.bs.length (f.bs.map bcell) rfl ROW.out t rfl hm1 hm2 HB.out ?_))
        intro v1 w1 O1 hgr hloc
        have S2 := hide (AO.out w1 v1 O1 hgr hloc)
        obtain ⟨d4, g4, d0, hl1, hl2⟩ := HK.out w1 hgr
        have O2 := O1.2
        clear O1 hgr hloc AO HK ROW c4 f4 hl4 c0 hl LK
        rcases O2 with ⟨rfl, -⟩ | ⟨g', cap', cur', rfl, -, -, -, -, -, -⟩
        all_goals
          have M2 := hide S2.out.1.map
          go_wp2_with (first | (at_mapUpdate; refine wpList_mapUpdate_own _ rfl _ _ _ 49 rfl 3 53 keyInt Try.underlying49 ptrElem m _ _ rfl M2.out (SL.out _) _ _ _ rfl rfl KO _ [] HV.out ?_; intro w3 hown hgrow))
          rw [MS.out] at hown
          have S3 := hide (S2.out.1.map_same hgrow hown)
          have K3 := hide (S2.out.2.next (S2.out.1.mineMap hgrow))
          have SC := hide (step_c ⟨apF s n t.data.toList, s.fuse, s.steps, s.on⟩ STH.out S3.out)
          clear hown hgrow S2 M2
          go_wp2_with fail
          refine SC.out.mono ?_
          intro e w4 hh
          have E4 := hide (ap_end K3.out (VV.out _) hh)
          obtain ⟨rfl, -⟩ := hh
          clear SC S3 K3
          go_wp2_with fail
          go_ret
          exact E4.out
    | none =>
      rw [hg] at LK
      simp only [Option.map_none] at LK ⊢
      rw [str_len]
      rw [List.length_map]
      have Ba : Below W.heap.size W (W.alloc (.cells #[.slice none 0 0, .int .i64 0] 58)) := (Below.refl _ _).alloc (Nat.le_refl _) _
      have LN := (A.below Ba).map.len Try.underlying49 3
      rw [mapL_size] at LN
      have AB := hide (A.below Ba)
      have CB := hide (Ch.below (X := Mine B W) Ba)
      by_cases hz : 1048576 < t.size
      · rw [if_pos hz, if_pos hz]
        have hz' : (t.size : Int) > 1048576 := by omega
        clear A hv h hg hz KO hi LM hon hst LN Ba
        go_enter Try.func19, Try.ntmps19
        go_wp2_with fail
        refine RC.out.mono ?_
        rintro e w1 ⟨rfl, rfl⟩
        clear RC
        go_wp2_with fail
        go_ret
        exact ⟨rfl, ⟨m, l, AB.out, VH.out⟩, CB.out⟩
      · rw [if_neg hz, if_neg hz]
        have hz' : ¬ (t.size : Int) > 1048576 := by omega
        by_cases h110 : l.length = 110
        · rw [if_pos h110, if_pos h110]
          have hb : ((l.length : Int) == 110) = true := by simp; omega
          obtain ⟨k, hk⟩ : ∃ k : Int, (l.length : Int) = k := ⟨_, rfl⟩
          rw [hk] at LN hb
          clear A hv h hg hz KO hi LM hon hst Ba hk h110
          go_enter Try.func19, Try.ntmps19
          go_wp2_with fail
          refine RC.out.mono ?_
          rintro e w1 ⟨rfl, rfl⟩
          clear RC
          go_wp2_with fail
          go_ret
          exact ⟨rfl, ⟨m, l, AB.out, VH.out⟩, CB.out⟩
        · rw [if_neg h110, if_neg h110]
          have hb : ((l.length : Int) == 110) = false := by simp; omega
          have l110 : l.length < 110 := by have := A.len; omega
          have hm1 : 0 + t.size ≤ maxLen := by unfold maxLen; omega
          have hm2 : 0 + t.size ≤ 140737488355328 := by omega
          have AN := hide (fun (w1 : World) (v1 : Value) (O1 : w1.ownsRow W.heap.size 5 1 v1 (0 + t.size) ([] ++ Lib.strCells t)) (hgr : (W.alloc (.cells #[.slice none 0 0, .int .i64 0] 58)).grownBy w1 none) => ap_new A hB n1 n2 hg O1 hgr (show t.size ≤ 1048576 by omega))
          have HK := hide (fun (w1 : World) (hgr : (W.alloc (.cells #[.slice none 0 0, .int .i64 0] 58)).grownBy w1 none) => show w1.cell? ⟨W.heap.size, 0, none⟩ = some (.slice none 0 0) ∧ w1.frozen? ⟨W.heap.size, 0, none⟩ = false ∧ w1.cell? ⟨d, 0, none⟩ = some (.map (some m)) ∧ W.heap.size < w1.heap.size ∧ d < w1.heap.size from by
            have q1 := (Blk.new W #[.slice none 0 0, .int .i64 0] 58).below (grown_below hgr)
            have q2 := (A.hd.below Ba).below (grown_below hgr)
            exact ⟨q1.cell 0, q1.frozen 0, q2.cell 0, q1.lt, q2.lt⟩)
          have VV := hide (fun (v1 : Value) => show (insL ⟨n, W.heap.size, v1, t.data.toList, 0⟩ l).map Fl.pf = apF s n t.data.toList from by
            unfold apF
            rw [← hv, getL_view, hg]
            simp only [Option.map_none]
            exact insL_view _ l)
          have HV : Hid (ptrElem (.pointer (some ⟨W.heap.size, 0, none⟩)) = some (.lit (.int .i64 (W.heap.size : Int)), [])) := rfl
          have STH := hide hst
          have LMH := hide LM
          have L1 := hide l110
          have pd : d ≠ W.heap.size := by omega
          have pd' := pd.symm
          have hBa := hide (show W.heap.size ≤ (W.alloc (.cells #[.slice none 0 0, .int .i64 0] 58)).heap.size by simp)
          obtain ⟨k, hk⟩ : ∃ k : Int, (l.length : Int) = k := ⟨_, rfl⟩
          rw [hk] at LN hb
          clear A hv h hg hz hon LM hst Ba hk h110 l110 AB CB
          go_enter Try.func19, Try.ntmps19
          go_wp2_with fail
          refine RC.out.mono ?_
          rintro e w0 ⟨rfl, rfl⟩
          clear RC
          go_wp2_with (first | (at_builtin; refine wpList_app_str _ rfl _ _ 56 9 rfl w0.heap.size 5 i0 Try.underlying56 Try.underlying9 hi hz0 hz1 hz2 (.slice none 0 0) 0 [] rfl (World.ownsRow_nil _ _ _ _) t rfl hm1 hm2 hBa.out ?_))
          intro v1 w1 O1 hgr hloc
          have S2 := hide (AN.out w1 v1 (by rw [Nat.zero_add, List.nil_append]; exact O1) hgr)
          obtain ⟨d4, g4, d0, hl1, hl2⟩ := HK.out w1 hgr
          have O2 := O1.2
          clear O1 hgr hloc AN HK c0 hl LK hBa LN
          obtain ⟨p, hp⟩ : ∃ p, w0.heap.size = p := ⟨_, rfl⟩
          rw [hp] at S2 d4 g4 hl1 HV pd pd' VV O2 ⊢
          rcases O2 with ⟨rfl, -⟩ | ⟨g', cap', cur', rfl, -, -, -, -, -, -⟩
          all_goals
            have M2 := hide S2.out.1.map
            go_wp2_with (first | (at_mapUpdate; refine wpList_mapUpdate_own _ rfl _ _ _ 49 rfl 3 53 keyInt Try.underlying49 ptrElem m _ _ rfl M2.out LMH.out _ _ _ rfl rfl KO _ [] HV.out ?_; intro w3 hown hgrow))
            have S3 := hide (S2.out.1.map_new S2.out.2.2.1 S2.out.2.2.2.1 S2.out.2.2.2.2 L1.out hgrow hown)
            have K3 := hide (S2.out.2.1.next (S2.out.1.mineMap hgrow))
            have SC := hide (step_c ⟨apF s n t.data.toList, s.fuse, s.steps, s.on⟩ STH.out S3.out)
            clear hown hgrow S2 M2
            go_wp2_with fail
            refine SC.out.mono ?_
            intro e w4 hh
            have E4 := hide (ap_end K3.out (VV.out _) hh)
            obtain ⟨rfl, -⟩ := hh
            clear SC S3 K3
            go_wp2_with fail
            go_ret
            exact E4.out
  · rw [if_pos h, if_pos h]
    generalize reachV s n = r at *
    have hb : (r != 0) = true := by simpa using h
    clear A hv
    go_enter Try.func19, Try.ntmps19
    go_wp2_with fail
    refine RC.out.mono ?_
    rintro e w1 ⟨rfl, rfl⟩
    clear RC
    go_wp2_with fail
    go_ret
    exact ⟨rfl, ⟨m, l, AH.out, VH.out⟩, Ch.refl _ _⟩

end Go.Proofs.Ytoppmpodiofhhaa
