/-
  What becomes of the reference's files: plain facts.
-/
import Derived.Test.YtoppmpodiofhhaaDkR2
namespace Go.Proofs.Ytoppmpodiofhhaa
open Go.ChangeShapes Go.WideShapes Go.ChangeAt Go.RowKit
set_option linter.unusedVariables false
set_option linter.unusedSimpArgs false

theorem getP_split {fs : List Pf} {A : Int} {f : Pf} (h : getP fs A = some f) : ∃ pre rr, fs = pre ++ f :: rr ∧ f.no = A ∧ ∀ g, g ∈ pre → g.no ≠ A := by
  unfold getP at h
  obtain ⟨h1, pre, rr, h2, h3⟩ := List.find?_eq_some_iff_append.1 h
  exact ⟨pre, rr, h2, by simpa using h1, fun g hg => by simpa using h3 g hg⟩

theorem sorted_right {pre rr : List Pf} {f : Pf} (h : (pre ++ f :: rr).Pairwise (fun a b => a.no < b.no)) : ∀ g, g ∈ rr → g.no ≠ f.no := by
  intro g hg
  rw [List.pairwise_append] at h
  have := (List.pairwise_cons.1 h.2.1).1 g hg
  omega

theorem atI_mid {pre rr : List Pf} {f : Pf} (h : ∀ g, g ∈ pre → g.no ≠ f.no) : atI (pre ++ f :: rr) f.no = (pre.length : Int) :=
  atI_is (fun j g hj hg => by
    rw [List.getElem?_append_left hj] at hg
    exact h g (List.mem_of_getElem? hg)) (by simp) rfl

theorem mid_at (pre rr : List Pf) (f : Pf) : (pre ++ f :: rr)[pre.length]? = some f := by simp

theorem row_cell {W : World} {B g cap n sz : Nat} {e : TypeId} {xs : List Value} (h : W.ownsRow B e sz (.slice (some ⟨g, 0, none⟩) n cap) n xs) (i : Nat) (u : Value) : (W.setCell ⟨g, i, none⟩ u).ownsRow B e sz (.slice (some ⟨g, 0, none⟩) n cap) n (xs.set i u) := by
  refine ⟨by rw [List.length_set]; exact h.1, ?_⟩
  rcases h.2 with ⟨q, _⟩ | ⟨g', cap', cur, q, hb, hg, h1, h2, h3, h4⟩
  · cases q
  · injection q with q1 q2 q3
    injection q1 with q1
    injection q1 with q1 _
    subst q1 q3
    refine .inr ⟨g, cap, cur.setIfInBounds i u, rfl, hb, Blk.put hg i u, h1, h2, by simp [h3], ?_⟩
    rw [Array.toList_setIfInBounds, List.take_set, h4]

theorem flat_tail {pre rr : List Pf} {f h : Pf} (h1 : h.no = f.no) (h2 : sfS h = sfS f) : (flat (pre ++ f :: rr)).set (pre.length * 3 + 2) (.string (tlS h)) = flat (pre ++ h :: rr) := by
  rw [flat_append, flat_append, List.set_append, if_neg (by rw [flat_length]; omega), flat_length, show pre.length * 3 + 2 - pre.length * 3 = 2 by omega, flat_cons, flat_cons, h1, h2]
  rfl

theorem flat_elem {pre rr : List Pf} {f h : Pf} : (((flat (pre ++ f :: rr)).set (pre.length * 3) (.int .i64 h.no)).set (pre.length * 3 + 1) (.string (sfS h))).set (pre.length * 3 + 2) (.string (tlS h)) = flat (pre ++ h :: rr) := by
  rw [flat_append, flat_append, List.set_append, if_neg (by rw [flat_length]; omega), flat_length, List.set_append, if_neg (by rw [flat_length]; omega), flat_length, List.set_append, if_neg (by rw [flat_length]; omega), flat_length,
    show pre.length * 3 - pre.length * 3 = 0 by omega, show pre.length * 3 + 1 - pre.length * 3 = 1 by omega, show pre.length * 3 + 2 - pre.length * 3 = 2 by omega, flat_cons, flat_cons]
  rfl

/-- A file is another. -/
theorem RdAt.elem {B r g n cap : Nat} {pre rr : List Pf} {f h : Pf} {st : Nat} {W W' : World} (R : RdAt B r (.slice (some ⟨g, 0, none⟩) n cap) (pre ++ f :: rr) st W) (k : Ch (fun b => b = g) W W')
    (O : W'.ownsRow B 60 3 (.slice (some ⟨g, 0, none⟩) n cap) (pre ++ h :: rr).length (flat (pre ++ h :: rr))) (ok : h.safe ≤ h.bs.length ∧ h.bs.length ≤ 1048576 ∧ 1 ≤ h.no ∧ h.no ≤ 1000000) :
    RdAt B r (.slice (some ⟨g, 0, none⟩) n cap) (pre ++ h :: rr) st W' ∧ Ch (MineR B W) W W' := by
  obtain ⟨g1, _, cur, g3⟩ := rowR_block R.row (k := g) rfl
  refine ⟨⟨k.blk R.hd (fun e => ?_), O, R.lo, fun x hx => ?_, ?_⟩, k.mono (fun b _ e => ?_)⟩
  · subst e
    have q := R.hd
    unfold Blk at q
    rw [q] at g3
    injection g3 with g3
    injection g3 with _ e2
    cases e2
  · simp only [List.mem_append, List.mem_cons] at hx
    rcases hx with hx | rfl | hx
    · exact R.ok x (by simp [hx])
    · exact ok
    · exact R.ok x (by simp [hx])
  · have := R.len
    simp only [List.length_append, List.length_cons] at this ⊢
    exact this
  · subst e
    exact ⟨g1, _, _, _, g3, Or.inr rfl⟩

theorem bytes_eq9 {a b : ByteArray} (h : a.data.toList = b.data.toList) : a = b := by
  cases a
  cases b
  congr 1
  exact Array.ext' h

theorem sfS_size {f : Pf} (h : f.safe ≤ f.bs.length) : (sfS f).size = f.safe := by
  show (f.bs.take f.safe).toArray.size = _
  simp [h]

theorem tlS_size (f : Pf) : (tlS f).size = f.bs.length - f.safe := by
  show (f.bs.drop f.safe).toArray.size = _
  simp

theorem join_all (f : Pf) : sfS f ++ tlS f = ⟨f.bs.toArray⟩ := by
  refine bytes_eq9 ?_
  rw [ByteArray.data_append]
  simp [sfS, tlS]

theorem tlS_more {f : Pf} (h : f.safe ≤ f.bs.length) (t : ByteArray) : tlS ⟨f.no, f.bs ++ t.data.toList, f.safe⟩ = tlS f ++ t := by
  refine bytes_eq9 ?_
  rw [ByteArray.data_append]
  simp [tlS, List.drop_append_of_le_length h]

theorem sfS_more {f : Pf} (h : f.safe ≤ f.bs.length) (t : ByteArray) : sfS ⟨f.no, f.bs ++ t.data.toList, f.safe⟩ = sfS f := by
  refine bytes_eq9 ?_
  simp [sfS, List.take_append_of_le_length h]

theorem delP_mid {pre rr : List Pf} {f : Pf} (h1 : ∀ g, g ∈ pre → g.no ≠ f.no) (h2 : ∀ g, g ∈ rr → g.no ≠ f.no) : delP (pre ++ f :: rr) f.no = pre ++ rr := by
  unfold delP
  rw [List.filter_append, List.filter_cons]
  rw [List.filter_eq_self.2 (fun g hg => by simpa using h1 g hg), List.filter_eq_self.2 (fun g hg => by simpa using h2 g hg)]
  simp

end Go.Proofs.Ytoppmpodiofhhaa
