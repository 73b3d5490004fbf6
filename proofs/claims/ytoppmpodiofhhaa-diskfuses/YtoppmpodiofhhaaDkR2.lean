/-
  The reference's Put.
-/
import Derived.Test.YtoppmpodiofhhaaDkR1
import Derived.Laws.AppendOwnNone
import Derived.Deep.QuietTactic
import Derived.BigQuiet
namespace Go.Proofs.Ytoppmpodiofhhaa
open Go.ChangeShapes Go.WideShapes Go.ChangeAt Go.RowKit
set_option linter.unusedVariables false
set_option linter.unusedSimpArgs false

theorem infoF : (Try.prog.info? 60).map (fun i => (i.zero, i.size, i.bytes)) = some (some (.agg #[.int .i64 0, .string ⟨#[]⟩, .string ⟨#[]⟩]), 3, 40) := by kernel_rfl

theorem bel_grown {B c n sz : Nat} {w a b : World} {v : Value} {e : TypeId} {xs : List Value} (h : Below B w a) (hB : B ≤ w.heap.size) (O : a.ownsRow c e sz v n xs) (hc : B ≤ c) (g : a.grownBy b v.ownBlock) : Below B w b := by
  refine ⟨g.os.trans h.os, g.tape.trans h.tape, g.output.trans h.output, Nat.le_trans h.size g.size, fun i hi => ?_⟩
  refine (g.block i (by have := h.size; omega) (fun q => ?_)).trans (h.block i hi)
  have := (O.lt i q.symm).1
  omega

theorem blk_grown {c n sz x : Nat} {a b : World} {v : Value} {e t : TypeId} {xs : List Value} {cs : Array Value} (h : Blk a x cs t) (O : a.ownsRow c e sz v n xs) (hc : x < c) (g : a.grownBy b v.ownBlock) : Blk b x cs t := by
  refine (g.block x h.lt (fun q => ?_)).trans h
  have := (O.lt x q.symm).1
  omega

theorem three_new (W : World) (x y z : Value) (t : TypeId) : ∀ (j : Nat) (u : Value), [x, y, z][j]? = some u → (W.alloc (.cells #[x, y, z] t)).cell? ((⟨W.heap.size, 0, none⟩ : Addr).add j) = some u := by
  intro j u hj
  match j, hj with
  | 0, hj => simp at hj; subst hj; simp [Addr.add]
  | 1, hj => simp at hj; subst hj; simp [Addr.add]
  | 2, hj => simp at hj; subst hj; simp [Addr.add]

/-- Where it is put. -/
theorem ins_at {x : Pf} : ∀ {l : List Pf} {k : Nat}, (∀ j g, j < k → l[j]? = some g → g.no < x.no) → (∀ g, l[k]? = some g → ¬ g.no < x.no) → (∀ g, g ∈ l → g.no ≠ x.no) → k ≤ l.length → insP x l = l.take k ++ x :: l.drop k
  | [], k, _, _, _, hk => by
    obtain rfl : k = 0 := by simpa using hk
    rfl
  | y :: r, 0, _, h2, h3, _ => by
    have a := h2 y rfl
    have b := h3 y (by simp)
    simp only [insP]
    rw [if_pos (by omega)]
    rfl
  | y :: r, k + 1, h1, h2, h3, hk => by
    have a := h1 0 y (by omega) rfl
    simp only [insP]
    rw [if_neg (by omega), ins_at (k := k) (fun j g hj hg => h1 (j + 1) g (by omega) (by simpa using hg)) (fun g hg => h2 g (by simpa using hg)) (fun g hg => h3 g (by simp [hg])) (by simpa using hk)]
    rfl

theorem insP_length (x : Pf) : ∀ l : List Pf, (insP x l).length = l.length + 1
  | [] => rfl
  | y :: r => by
    simp only [insP]
    split
    · rfl
    · rw [List.length_cons, insP_length x r, List.length_cons]

theorem mem_insP {x f : Pf} : ∀ {l : List Pf}, f ∈ insP x l → f = x ∨ f ∈ l
  | [], h => by simpa [insP] using h
  | y :: r, h => by
    simp only [insP] at h
    split at h
    · rcases List.mem_cons.1 h with h | h
      · exact Or.inl h
      · exact Or.inr h
    · rcases List.mem_cons.1 h with h | h
      · exact Or.inr (by simp [h])
      · rcases mem_insP h with h | h
        · exact Or.inl h
        · exact Or.inr (by simp [h])

/-- A new row in the head. -/
theorem RdAt.row_new {B r : Nat} {v : Value} {fs gs : List Pf} {st : Nat} {W W' : World} (R : RdAt B r v fs st W) (hB : B ≤ W.heap.size) {v' : Value} (k : Below W.heap.size W W') (O : W'.ownsRow W.heap.size 60 3 v' gs.length (flat gs))
    (ok : ∀ f, f ∈ gs → f.safe ≤ f.bs.length ∧ f.bs.length ≤ 1048576 ∧ 1 ≤ f.no ∧ f.no ≤ 1000000) (len : gs.length ≤ 110) : RdAt B r v' gs st (W'.setCell ⟨r, 0, none⟩ v') ∧ Ch (MineR B W) W (W'.setCell ⟨r, 0, none⟩ v') := by
  have hr := R.hd.lt
  have h1 := R.hd.below k
  refine ⟨⟨h1.put 0 v', ?_, R.lo, ok, len⟩, ?_⟩
  · refine (Ch.cell W' r 0 v').row (own_base O hB) (fun b hb e => ?_)
    have := (rowR_block O hb).1
    omega
  · have a : Ch (fun b => b = r) W (W'.setCell ⟨r, 0, none⟩ v') := (Ch.below k).trans (Ch.cell W' r 0 v')
    refine a.mono (fun b _ e => ?_)
    subst e
    exact ⟨R.lo, _, _, _, R.hd, Or.inl rfl⟩

set_option maxRecDepth 100000 in
set_option maxHeartbeats 2000000 in
theorem rput_c {B r : Nat} {v : Value} {fs : List Pf} {st : Nat} (n : Int) (n1 : 1 ≤ n) (n2 : n ≤ 1000000) (hno : ∀ g, g ∈ fs → g.no ≠ n) (hlen : fs.length < 110) {W : World} (hB : B ≤ W.heap.size) (R : RdAt B r v fs st W) :
    Calls Try.prog 27 #[.pointer (some ⟨r, 0, none⟩), .agg #[.int .i64 n, .string ⟨#[]⟩, .string ⟨#[]⟩]] W fun e W' => e = .returned (.tuple #[]) ∧ ∃ v', RdAt B r v' (insP ⟨n, [], 0⟩ fs) st W' ∧ Ch (MineR B W) W W' := by
  obtain ⟨i0, hi, hz0, hz1, hz2⟩ := info_parts infoF
  have O0 : Hid (((W.alloc (.cells #[.int .i64 n, .string ⟨#[]⟩, .string ⟨#[]⟩] 60)).alloc (.cells #[] 60)).ownsRow (W.heap.size + 1) 60 3 (.slice (some ⟨W.heap.size + 1, 0, none⟩) 0 0) 0 (flat (fs.take 0))) := by
    have q := World.ownsRow_made (e := 60) (size := 3) (W.alloc (.cells #[.int .i64 n, .string ⟨#[]⟩, .string ⟨#[]⟩] 60)) #[] 0 (base := W.heap.size + 1) (by simp) (Nat.zero_le _) rfl
    rw [show (W.alloc (.cells #[.int .i64 n, .string ⟨#[]⟩, .string ⟨#[]⟩] 60)).heap.size = W.heap.size + 1 by simp] at q
    exact q
  have bl : Below W.heap.size W ((W.alloc (.cells #[.int .i64 n, .string ⟨#[]⟩, .string ⟨#[]⟩] 60)).alloc (.cells #[] 60)) := by repeat (first | with_reducible exact Below.refl _ _ | with_reducible refine Below.drew ?_ | with_reducible refine Below.alloc ?_ (by first | omega | (simp <;> omega)) _ | with_reducible refine Below.setCell ?_ (by first | omega | (simp <;> omega)) _)
  have BL := hide bl
  have BX := hide ((Blk.new W #[.int .i64 n, .string ⟨#[]⟩, .string ⟨#[]⟩] 60).alloc (.cells #[] 60))
  have RH := hide R
  obtain ⟨m, hm⟩ : ∃ m, fs.length = m := ⟨_, rfl⟩
  have HM := hide hm
  have ll := hlen
  rw [hm] at ll
  clear bl R hm hlen
  go_enter Try.func27, Try.ntmps27
  go_wp2_with fail
  go_loopw [4, 5] (fun ov iv wr => ∃ k : Nat, k ≤ m ∧ iv = .int .i64 k ∧ Hid (wr.ownsRow (W.heap.size + 1) 60 3 ov k (flat (fs.take k))) ∧ Hid (Below W.heap.size W wr) ∧ Hid (Blk wr W.heap.size #[.int .i64 n, .string ⟨#[]⟩, .string ⟨#[]⟩] 60) ∧ Hid (∀ j g, j < k → fs[j]? = some g → g.no < n)) (fun _ iv _ => m - (intOf iv).toNat)
  case atStart => exact ⟨0, by omega, rfl, O0, BL, BX, fun j g hj => by omega⟩
  case round =>
    clear O0 BL BX
    obtain ⟨k, hk, rfl, O, BW, BX, HK⟩ := hrel
    have Rw := RH.out.below BW.out
    have c0 : wr.cell? ⟨r, 0, none⟩ = some v := Rw.hd.cell 0
    have hl := Rw.hd.lt
    have LV := lenR Rw.row
    rw [HM.out] at LV
    have b0 : wr.cell? ⟨W.heap.size, 0, none⟩ = some (.int .i64 n) := BX.out.cell 0
    have hlb := BX.out.lt
    have RW := hide Rw.row
    by_cases hlt : k < m ∧ ∃ f, fs[k]? = some f ∧ f.no < n
    · obtain ⟨hlt, f, hf, hfn⟩ := hlt
      have hlt' : (k : Int) < (m : Int) := by omega
      have q := flat_at hf
      rcases RW.out.2 with ⟨-, h0⟩ | ⟨g, cap, cur, rfl, -, -, -, -, -, -⟩
      · have := HM.out; omega
      have cj : wr.cell? ⟨g, k * 3, none⟩ = some (.int .i64 f.no) := by
        rw [World.ownsRow.cellAt RW.out (k * 3) (by have := HM.out; omega)]
        exact q.1
      have cj1 : wr.cell? ⟨g, k * 3 + 1, none⟩ = some (.string (sfS f)) := by
        rw [World.ownsRow.cellAt RW.out (k * 3 + 1) (by have := HM.out; omega)]
        exact q.2.1
      have cj2 : wr.cell? ⟨g, k * 3 + 2, none⟩ = some (.string (tlS f)) := by
        rw [World.ownsRow.cellAt RW.out (k * 3 + 2) (by have := HM.out; omega)]
        exact q.2.2
      have hj0 : (k : Int) < (fs.length : Int) := by have := HM.out; omega
      have et : flat (fs.take (k + 1)) = flat (fs.take k) ++ [.int .i64 f.no, .string (sfS f), .string (tlS f)] := by
        rw [List.take_add_one, hf, flat_append]
        rfl
      have HK2 : Hid (∀ j g, j < k + 1 → fs[j]? = some g → g.no < n) := by
        intro j g hj hg
        by_cases e : j = k
        · subst e
          rw [hf] at hg
          obtain rfl := Option.some.inj hg
          exact hfn
        · exact HK.out j g (by omega) hg
      obtain ⟨no, hno⟩ : ∃ no, f.no = no := ⟨_, rfl⟩
      obtain ⟨sf, hsf⟩ : ∃ sf, sfS f = sf := ⟨_, rfl⟩
      obtain ⟨tl, htl⟩ : ∃ tl, tlS f = tl := ⟨_, rfl⟩
      rw [hno] at cj et hfn
      rw [hsf] at cj1 et
      rw [htl] at cj2 et
      have ET := hide et
      clear q hf hno hsf htl et HK RW Rw
      have hnb : decide (no < n) = true := decide_eq_true hfn
      go_upto_region 3 with fail
      go_quiet (fail)
      have BD := below_drewN9 (Below.refl wr.heap.size wr) nq
      have O3 := hide ((O.out).kept (w' := wr.drewN nq) (row := none) ⟨rfl, rfl, rfl, Nat.le_refl _, fun _ _ _ => rfl⟩ (by cases hv : u4.ownBlock <;> simp))
      have B3 := hide (BW.out.trans (BD.mono BW.out.size))
      have BX3 := hide (BX.out.below BD)
      have d0 : (wr.drewN nq).cell? ⟨g, k * 3, none⟩ = some (.int .i64 no) := cj
      have d1 : (wr.drewN nq).cell? ⟨g, k * 3 + 1, none⟩ = some (.string sf) := cj1
      have d2 : (wr.drewN nq).cell? ⟨g, k * 3 + 2, none⟩ = some (.string tl) := cj2
      have d3 : (wr.drewN nq).cell? ⟨r, 0, none⟩ = some (.slice (some ⟨g, 0, none⟩) fs.length cap) := c0
      have hl3 : r < (wr.drewN nq).heap.size := hl
      obtain ⟨w3, hw3⟩ : ∃ w3, wr.drewN nq = w3 := ⟨_, rfl⟩
      rw [hw3] at O3 B3 BX3 d0 d1 d2 d3 hl3 ⊢
      clear O BW BX cj cj1 cj2 c0 hl LV b0 hlb hw3 BD
      have h1 : ∀ u ∈ [Value.int .i64 no, .string sf, .string tl], u.oneCell' = true := by
        intro u hu
        simp only [List.mem_cons, List.not_mem_nil, or_false] at hu
        rcases hu with rfl | rfl | rfl <;> rfl
      have hm1 : k + 1 ≤ maxLen := by unfold maxLen; omega
      have hm2 : (k + 1) * 40 ≤ 140737488355328 := by omega
      have hb3 : W.heap.size + 1 ≤ (w3.alloc (.cells #[.int .i64 no, .string sf, .string tl] 60)).heap.size := by have := BX3.out.lt; simp; omega
      have H1 := hide h1
      have HB3 := hide hb3
      have TN := hide (three_new w3 (.int .i64 no) (.string sf) (.string tl) 60)
      clear h1 hb3
      go_wp2_with (first | (at_builtin; refine wpList_append_own _ rfl _ _ 37 rfl (W.heap.size + 1) 60 i0 _ 3 40 Try.underlying37 hi hz0 hz1 hz2 rfl (by decide) u4 k (flat (fs.take k)) rfl (O3.out.alloc _) ⟨w3.heap.size, 0, none⟩ 1 1 [.int .i64 no, .string sf, .string tl] rfl rfl TN.out H1.out hm1 hm2 HB3.out ?_))
      intro v4 w4 O4 hgr hnn
      clear hnn
      have B4 := hide (bel_grown ((B3.out).alloc (Nat.le_trans B3.out.size (Nat.le_refl _)) _) (Nat.le_refl _) (O3.out.alloc _) (by omega) hgr)
      have BX4 := hide (blk_grown (BX3.out.alloc _) (O3.out.alloc _) (by omega) hgr)
      have OO : Hid (w4.ownsRow (W.heap.size + 1) 60 3 v4 (k + 1) (flat (fs.take (k + 1)))) := by
        show World.ownsRow _ _ _ _ _ _ _
        rw [ET.out]; exact O4
      clear O4 hgr O3 B3 BX3 TN H1 HB3 ET hm1 hm2 d0 d1 d2 d3 hl3 hi hz0 hz1 hz2
      go_wp2_with fail
      go_roundw
      case rel => exact ⟨k + 1, by omega, by go_num, OO, B4, BX4, HK2⟩
      case measure => simp [intOf]; omega
    · have hkl : k ≤ fs.length := by have := HM.out; omega
      have hend : ∀ g : Pf, fs[k]? = some g → ¬ g.no < n := fun g hg c => hlt ⟨by
        have := (List.getElem?_eq_some_iff.1 hg).1
        have := HM.out
        omega, g, hg, c⟩
      have IA := hide (ins_at (x := ⟨n, [], 0⟩) HK.out hend hno hkl)
      have H1 : Hid (∀ u ∈ [Value.int .i64 n, .string ⟨#[]⟩, .string ⟨#[]⟩], u.oneCell' = true) := by
        intro u hu
        simp only [List.mem_cons, List.not_mem_nil, or_false] at hu
        rcases hu with rfl | rfl | rfl <;> rfl
      have hm1 : k + 1 ≤ maxLen := by unfold maxLen; omega
      have hm2 : (k + 1) * 40 ≤ 140737488355328 := by omega
      have b1 : wr.cell? ⟨W.heap.size, 1, none⟩ = some (.string ⟨#[]⟩) := BX.out.cell 1
      have b2 : wr.cell? ⟨W.heap.size, 2, none⟩ = some (.string ⟨#[]⟩) := BX.out.cell 2
      rcases RW.out.2 with ⟨rfl, h0⟩ | ⟨g, cap, cur, rfl, -, -, h3, h4, -, -⟩
      · have hm0 : m = 0 := by have := HM.out; omega
        obtain rfl : k = 0 := by omega
        have hd : decide ((0 : Int) < (m : Int)) = false := by simp; omega
        go_upto_region 3 with fail
        go_quiet (fail)
        have BD := below_drewN9 (Below.refl wr.heap.size wr) nq
        have O3 := hide ((O.out).kept (w' := wr.drewN nq) (row := none) ⟨rfl, rfl, rfl, Nat.le_refl _, fun _ _ _ => rfl⟩ (by cases hv : u4.ownBlock <;> simp))
        have B3 := hide (BW.out.trans (BD.mono BW.out.size))
        have BX3 := hide (BX.out.below BD)
        have d3 : (wr.drewN nq).cell? ⟨r, 0, none⟩ = some (.slice none 0 0) := c0
        have hl3 : r < (wr.drewN nq).heap.size := hl
        have e0 : (wr.drewN nq).cell? ⟨W.heap.size, 0, none⟩ = some (.int .i64 n) := b0
        have e1 : (wr.drewN nq).cell? ⟨W.heap.size, 1, none⟩ = some (.string ⟨#[]⟩) := b1
        have e2 : (wr.drewN nq).cell? ⟨W.heap.size, 2, none⟩ = some (.string ⟨#[]⟩) := b2
        obtain ⟨w3, hw3⟩ : ∃ w3, wr.drewN nq = w3 := ⟨_, rfl⟩
        rw [hw3] at O3 B3 BX3 d3 hl3 e0 e1 e2 ⊢
        clear O BW BX b0 b1 b2 c0 hl LV hlb hw3 BD RW Rw hd hlt hend HK
        have TN := hide (three_new w3 (.int .i64 n) (.string ⟨#[]⟩) (.string ⟨#[]⟩) 60)
        have HB3 := hide (show W.heap.size + 1 ≤ (w3.alloc (.cells #[.int .i64 n, .string ⟨#[]⟩, .string ⟨#[]⟩] 60)).heap.size by have := BX3.out.lt; simp; omega)
        go_wp2_with (first | (at_builtin; refine wpList_append_own _ rfl _ _ 37 rfl (W.heap.size + 1) 60 i0 _ 3 40 Try.underlying37 hi hz0 hz1 hz2 rfl (by decide) u4 0 (flat (fs.take 0)) rfl (O3.out.alloc _) ⟨w3.heap.size, 0, none⟩ 1 1 [.int .i64 n, .string ⟨#[]⟩, .string ⟨#[]⟩] rfl rfl TN.out H1.out hm1 hm2 HB3.out ?_))
        intro v4 w4 O4 hgr hnn
        clear hnn
        have B4 := hide (bel_grown ((B3.out).alloc (Nat.le_trans B3.out.size (Nat.le_refl _)) _) (Nat.le_refl _) (O3.out.alloc _) (by omega) hgr)
        have OH := hide O4
        have BX4 := hide (blk_grown (BX3.out.alloc _) (O3.out.alloc _) (by omega) hgr)
        have R4 := hide (RH.out.below B4.out)
        have d4 : w4.cell? ⟨r, 0, none⟩ = some (.slice none 0 0) := R4.out.hd.cell 0
        have hl4 := R4.out.hd.lt
        clear O4 hgr O3 B3 BX3 TN HB3 d3 hl3 e0 e1 e2
        have FIN := hide (RH.out.row_new hB B4.out (v' := v4) (gs := insP ⟨n, [], 0⟩ fs) (by
          have e : fs = [] := List.eq_nil_of_length_eq_zero h0
          subst e
          exact own_base OH.out (Nat.le_succ W.heap.size)) (fun f hf => by
            rcases mem_insP hf with rfl | h
            · exact ⟨Nat.le_refl _, by simp, n1, n2⟩
            · exact RH.out.ok f h) (by rw [insP_length]; have := HM.out; omega))
        have f4 := R4.out.hd.frozen 0
        have O6 := OH.out.2
        clear B4 BX4 R4 IA
        rcases O6 with ⟨rfl, -⟩ | ⟨g', cap', cur', rfl, -, -, -, -, -, -⟩
        all_goals
          go_wp2_with (first | (at_builtin; refine wpList_append_own_none rfl _ _ 37 rfl (W.heap.size + 1) 60 i0 3 Try.underlying37 hi _ (0 + 1) _ rfl OH.out rfl ?_))
          go_end0
          exact ⟨rfl, _, FIN.out⟩
      · have hex : ¬ k < m ∨ (k < m ∧ ∃ f, fs[k]? = some f ∧ ¬ f.no < n) := by
          by_cases e : k < m
          · have hf := List.getElem?_eq_getElem (show k < fs.length by have := HM.out; omega)
            exact Or.inr ⟨e, _, hf, hend _ hf⟩
          · exact Or.inl e
        have go : ∀ wx : World, Below wr.heap.size wr wx → True := fun _ _ => trivial
        clear go hlt hend HK
        rcases hex with he | ⟨he, f, hf, hfn⟩
        · have hd : decide ((k : Int) < (m : Int)) = false := by simp; omega
          go_upto_region 3 with fail
          go_quiet (fail)
          have BD := below_drewN9 (Below.refl wr.heap.size wr) nq
          have O3 := hide ((O.out).kept (w' := wr.drewN nq) (row := none) ⟨rfl, rfl, rfl, Nat.le_refl _, fun _ _ _ => rfl⟩ (by cases hv : u4.ownBlock <;> simp))
          have B3 := hide (BW.out.trans (BD.mono BW.out.size))
          have BX3 := hide (BX.out.below BD)
          have d3 : (wr.drewN nq).cell? ⟨r, 0, none⟩ = some (.slice (some ⟨g, 0, none⟩) fs.length cap) := c0
          have hl3 : r < (wr.drewN nq).heap.size := hl
          have e0 : (wr.drewN nq).cell? ⟨W.heap.size, 0, none⟩ = some (.int .i64 n) := b0
          have e1 : (wr.drewN nq).cell? ⟨W.heap.size, 1, none⟩ = some (.string ⟨#[]⟩) := b1
          have e2 : (wr.drewN nq).cell? ⟨W.heap.size, 2, none⟩ = some (.string ⟨#[]⟩) := b2
          obtain ⟨w3, hw3⟩ : ∃ w3, wr.drewN nq = w3 := ⟨_, rfl⟩
          rw [hw3] at O3 B3 BX3 d3 hl3 e0 e1 e2 ⊢
          clear O BW BX b0 b1 b2 c0 hl LV hlb hw3 BD RW Rw hd he
          have TN := hide (three_new w3 (.int .i64 n) (.string ⟨#[]⟩) (.string ⟨#[]⟩) 60)
          have HB3 := hide (show W.heap.size + 1 ≤ (w3.alloc (.cells #[.int .i64 n, .string ⟨#[]⟩, .string ⟨#[]⟩] 60)).heap.size by have := BX3.out.lt; simp; omega)
          go_wp2_with (first | (at_builtin; refine wpList_append_own _ rfl _ _ 37 rfl (W.heap.size + 1) 60 i0 _ 3 40 Try.underlying37 hi hz0 hz1 hz2 rfl (by decide) u4 k (flat (fs.take k)) rfl (O3.out.alloc _) ⟨w3.heap.size, 0, none⟩ 1 1 [.int .i64 n, .string ⟨#[]⟩, .string ⟨#[]⟩] rfl rfl TN.out H1.out hm1 hm2 HB3.out ?_))
          intro v4 w4 O4 hgr hnn
          clear hnn
          have B4 := hide (bel_grown ((B3.out).alloc (Nat.le_trans B3.out.size (Nat.le_refl _)) _) (Nat.le_refl _) (O3.out.alloc _) (by omega) hgr)
          have OH := hide O4
          have BX4 := hide (blk_grown (BX3.out.alloc _) (O3.out.alloc _) (by omega) hgr)
          have R4 := hide (RH.out.below B4.out)
          have d4 : w4.cell? ⟨r, 0, none⟩ = some (.slice (some ⟨g, 0, none⟩) fs.length cap) := R4.out.hd.cell 0
          have hl4 := R4.out.hd.lt
          clear O4 hgr O3 B3 BX3 TN HB3 d3 hl3 e0 e1 e2
          have hl5 : Hid ((flat (fs.drop k)).length = (fs.length - k) * 3) := by show _ = _; rw [flat_length, List.length_drop]
          have F1 := hide (flat_one (fs.drop k))
          have hm3 : k + 1 + (fs.length - k) ≤ maxLen := by have := HM.out; unfold maxLen; omega
          have hm4 : (k + 1 + (fs.length - k)) * 40 ≤ 140737488355328 := by have := HM.out; omega
          have HB4 := hide (show W.heap.size + 1 ≤ w4.heap.size by have := BX4.out.lt; omega)
          have hkc : k ≤ cap := by omega
          have hkl' : (k : Int) ≤ (fs.length : Int) := by omega
          by_cases hck : cap = k
          · have hck' : k = cap := hck.symm
            subst hck'
            have ek : fs.length = k := by omega
            have ed : fs.drop k = [] := List.drop_eq_nil_of_le (by omega)
            have NW : Hid (∀ (j : Nat) (u : Value), ([] : List Value)[j]? = some u → w4.cell? ((⟨g, 0, none⟩ : Addr).add j) = some u) := by
              intro j u hj
              simp at hj
            have N1 : Hid (∀ u ∈ ([] : List Value), u.oneCell' = true) := fun u hu => by cases hu
            have EK := hide ek
            have ED := hide ed
            have hm5 : k + 1 + 0 ≤ maxLen := by omega
            have hm6 : (k + 1 + 0) * 40 ≤ 140737488355328 := by omega
            clear ek ed
            go_wp2_with (first | (at_builtin; refine wpList_append_own _ rfl _ _ 37 rfl (W.heap.size + 1) 60 i0 _ 3 40 Try.underlying37 hi hz0 hz1 hz2 rfl (by decide) v4 (k + 1) _ rfl OH.out ⟨g, 0, none⟩ 0 0 [] rfl rfl NW.out N1.out hm5 hm6 HB4.out ?_))
            intro v5 w5 O5 hgr hnn
            clear hnn
            have B5 := hide (bel_grown B4.out (Nat.le_refl _) OH.out (by omega) hgr)
            have FIN := hide (RH.out.row_new hB B5.out (v' := v5) (gs := insP ⟨n, [], 0⟩ fs) (by
              rw [insP_length, IA.out, flat_append, flat_cons]
              have q := own_base O5 (Nat.le_succ W.heap.size)
              rw [EK.out, ED.out]
              rw [show flat [] = [] from rfl]
              first | exact q | simpa using q) (fun f hf => by
                rcases mem_insP hf with rfl | h
                · exact ⟨Nat.le_refl _, by simp, n1, n2⟩
                · exact RH.out.ok f h) (by rw [insP_length]; have := HM.out; omega))
            have d5 : w5.cell? ⟨r, 0, none⟩ = some (.slice (some ⟨g, 0, none⟩) fs.length k) := (RH.out.below B5.out).hd.cell 0
            have f5 := (RH.out.below B5.out).hd.frozen 0
            have hl6 := (RH.out.below B5.out).hd.lt
            have O6 := O5.2
            clear O5 hgr OH B4 BX4 R4 d4 hl4 NW hl5 F1 hm3 hm4 HB4 IA EK ED N1 hm5 hm6
            rcases O6 with ⟨rfl, -⟩ | ⟨g', cap', cur', rfl, -, -, -, -, -, -⟩
            all_goals
              go_wp2_with fail
              go_end0
              exact ⟨rfl, _, FIN.out⟩
          · skip
            have NW : Hid (∀ (j : Nat) (u : Value), (flat (fs.drop k))[j]? = some u → w4.cell? ((⟨g, k * 3, none⟩ : Addr).add j) = some u) := by
              intro j u hj
              have e : (⟨g, k * 3, none⟩ : Addr).add j = ⟨g, k * 3 + j, none⟩ := by unfold Addr.add; split <;> simp_all
              rw [← flat_drop, List.getElem?_drop] at hj
              have jl := (List.getElem?_eq_some_iff.1 hj).1
              rw [flat_length] at jl
              rw [e, World.ownsRow.cellAt R4.out.row (k * 3 + j) jl]
              exact hj
            go_wp2_with (first | (at_builtin; refine wpList_append_own _ rfl _ _ 37 rfl (W.heap.size + 1) 60 i0 _ 3 40 Try.underlying37 hi hz0 hz1 hz2 rfl (by decide) v4 (k + 1) _ rfl OH.out ⟨g, k * 3, none⟩ (fs.length - k) (cap - k) (flat (fs.drop k)) rfl hl5.out NW.out F1.out hm3 hm4 HB4.out ?_))
            intro v5 w5 O5 hgr hnn
            clear hnn
            have B5 := hide (bel_grown B4.out (Nat.le_refl _) OH.out (by omega) hgr)
            have FIN := hide (RH.out.row_new hB B5.out (v' := v5) (gs := insP ⟨n, [], 0⟩ fs) (by
              rw [insP_length, IA.out, flat_append, flat_cons]
              have q := own_base O5 (Nat.le_succ W.heap.size)
              rw [show k + 1 + (fs.length - k) = fs.length + 1 by omega] at q
              first | exact q | (rw [List.append_assoc] at q; exact q)) (fun f hf => by
                rcases mem_insP hf with rfl | h
                · exact ⟨Nat.le_refl _, by simp, n1, n2⟩
                · exact RH.out.ok f h) (by rw [insP_length]; have := HM.out; omega))
            have d5 : w5.cell? ⟨r, 0, none⟩ = some (.slice (some ⟨g, 0, none⟩) fs.length cap) := (RH.out.below B5.out).hd.cell 0
            have f5 := (RH.out.below B5.out).hd.frozen 0
            have hl6 := (RH.out.below B5.out).hd.lt
            have O6 := O5.2
            clear O5 hgr OH B4 BX4 R4 d4 hl4 NW hl5 F1 hm3 hm4 HB4 IA
            rcases O6 with ⟨rfl, -⟩ | ⟨g', cap', cur', rfl, -, -, -, -, -, -⟩
            all_goals
              go_wp2_with fail
              go_end0
              exact ⟨rfl, _, FIN.out⟩
        · have HKM := hide he
          have hlt' : (k : Int) < (m : Int) := by omega
          have q := flat_at hf
          have cj : wr.cell? ⟨g, k * 3, none⟩ = some (.int .i64 f.no) := by
            rw [World.ownsRow.cellAt RW.out (k * 3) (by have := HM.out; omega)]
            exact q.1
          have hj0 : (k : Int) < (fs.length : Int) := by have := HM.out; omega
          obtain ⟨no, hno'⟩ : ∃ no, f.no = no := ⟨_, rfl⟩
          rw [hno'] at cj hfn
          have hnb : decide (no < n) = false := by simpa using hfn
          clear q hf hno'
          go_upto_region 3 with fail
          go_quiet (fail)
          have BD := below_drewN9 (Below.refl wr.heap.size wr) nq
          have O3 := hide ((O.out).kept (w' := wr.drewN nq) (row := none) ⟨rfl, rfl, rfl, Nat.le_refl _, fun _ _ _ => rfl⟩ (by cases hv : u4.ownBlock <;> simp))
          have B3 := hide (BW.out.trans (BD.mono BW.out.size))
          have BX3 := hide (BX.out.below BD)
          have d3 : (wr.drewN nq).cell? ⟨r, 0, none⟩ = some (.slice (some ⟨g, 0, none⟩) fs.length cap) := c0
          have hl3 : r < (wr.drewN nq).heap.size := hl
          have e0 : (wr.drewN nq).cell? ⟨W.heap.size, 0, none⟩ = some (.int .i64 n) := b0
          have e1 : (wr.drewN nq).cell? ⟨W.heap.size, 1, none⟩ = some (.string ⟨#[]⟩) := b1
          have e2 : (wr.drewN nq).cell? ⟨W.heap.size, 2, none⟩ = some (.string ⟨#[]⟩) := b2
          obtain ⟨w3, hw3⟩ : ∃ w3, wr.drewN nq = w3 := ⟨_, rfl⟩
          rw [hw3] at O3 B3 BX3 d3 hl3 e0 e1 e2 ⊢
          clear O BW BX b0 b1 b2 c0 hl LV hlb hw3 BD RW Rw he hlt' cj hj0 hnb hfn
          have TN := hide (three_new w3 (.int .i64 n) (.string ⟨#[]⟩) (.string ⟨#[]⟩) 60)
          have HB3 := hide (show W.heap.size + 1 ≤ (w3.alloc (.cells #[.int .i64 n, .string ⟨#[]⟩, .string ⟨#[]⟩] 60)).heap.size by have := BX3.out.lt; simp; omega)
          go_wp2_with (first | (at_builtin; refine wpList_append_own _ rfl _ _ 37 rfl (W.heap.size + 1) 60 i0 _ 3 40 Try.underlying37 hi hz0 hz1 hz2 rfl (by decide) u4 k (flat (fs.take k)) rfl (O3.out.alloc _) ⟨w3.heap.size, 0, none⟩ 1 1 [.int .i64 n, .string ⟨#[]⟩, .string ⟨#[]⟩] rfl rfl TN.out H1.out hm1 hm2 HB3.out ?_))
          intro v4 w4 O4 hgr hnn
          clear hnn
          have B4 := hide (bel_grown ((B3.out).alloc (Nat.le_trans B3.out.size (Nat.le_refl _)) _) (Nat.le_refl _) (O3.out.alloc _) (by omega) hgr)
          have OH := hide O4
          have BX4 := hide (blk_grown (BX3.out.alloc _) (O3.out.alloc _) (by omega) hgr)
          have R4 := hide (RH.out.below B4.out)
          have d4 : w4.cell? ⟨r, 0, none⟩ = some (.slice (some ⟨g, 0, none⟩) fs.length cap) := R4.out.hd.cell 0
          have hl4 := R4.out.hd.lt
          clear O4 hgr O3 B3 BX3 TN HB3 d3 hl3 e0 e1 e2
          have hl5 : Hid ((flat (fs.drop k)).length = (fs.length - k) * 3) := by show _ = _; rw [flat_length, List.length_drop]
          have F1 := hide (flat_one (fs.drop k))
          have hm3 : k + 1 + (fs.length - k) ≤ maxLen := by have := HM.out; unfold maxLen; omega
          have hm4 : (k + 1 + (fs.length - k)) * 40 ≤ 140737488355328 := by have := HM.out; omega
          have HB4 := hide (show W.heap.size + 1 ≤ w4.heap.size by have := BX4.out.lt; omega)
          have hkc : k ≤ cap := by omega
          have hkl' : (k : Int) ≤ (fs.length : Int) := by omega
          have hck : ¬ cap = k := by have := HM.out; have := HKM.out; omega
          have NW : Hid (∀ (j : Nat) (u : Value), (flat (fs.drop k))[j]? = some u → w4.cell? ((⟨g, k * 3, none⟩ : Addr).add j) = some u) := by
            intro j u hj
            have e : (⟨g, k * 3, none⟩ : Addr).add j = ⟨g, k * 3 + j, none⟩ := by unfold Addr.add; split <;> simp_all
            rw [← flat_drop, List.getElem?_drop] at hj
            have jl := (List.getElem?_eq_some_iff.1 hj).1
            rw [flat_length] at jl
            rw [e, World.ownsRow.cellAt R4.out.row (k * 3 + j) jl]
            exact hj
          go_wp2_with (first | (at_builtin; refine wpList_append_own _ rfl _ _ 37 rfl (W.heap.size + 1) 60 i0 _ 3 40 Try.underlying37 hi hz0 hz1 hz2 rfl (by decide) v4 (k + 1) _ rfl OH.out ⟨g, k * 3, none⟩ (fs.length - k) (cap - k) (flat (fs.drop k)) rfl hl5.out NW.out F1.out hm3 hm4 HB4.out ?_))
          intro v5 w5 O5 hgr hnn
          clear hnn
          have B5 := hide (bel_grown B4.out (Nat.le_refl _) OH.out (by omega) hgr)
          have FIN := hide (RH.out.row_new hB B5.out (v' := v5) (gs := insP ⟨n, [], 0⟩ fs) (by
            rw [insP_length, IA.out, flat_append, flat_cons]
            have q := own_base O5 (Nat.le_succ W.heap.size)
            rw [show k + 1 + (fs.length - k) = fs.length + 1 by omega] at q
            first | exact q | (rw [List.append_assoc] at q; exact q)) (fun f hf => by
              rcases mem_insP hf with rfl | h
              · exact ⟨Nat.le_refl _, by simp, n1, n2⟩
              · exact RH.out.ok f h) (by rw [insP_length]; have := HM.out; omega))
          have d5 : w5.cell? ⟨r, 0, none⟩ = some (.slice (some ⟨g, 0, none⟩) fs.length cap) := (RH.out.below B5.out).hd.cell 0
          have f5 := (RH.out.below B5.out).hd.frozen 0
          have hl6 := (RH.out.below B5.out).hd.lt
          have O6 := O5.2
          clear O5 hgr OH B4 BX4 R4 d4 hl4 NW hl5 F1 hm3 hm4 HB4 IA
          rcases O6 with ⟨rfl, -⟩ | ⟨g', cap', cur', rfl, -, -, -, -, -, -⟩
          all_goals
            go_wp2_with fail
            go_end0
            exact ⟨rfl, _, FIN.out⟩

end Go.Proofs.Ytoppmpodiofhhaa
