/-
  The argument that is a slice of calls: what its cells are.
-/
import Derived.Test.YtkfglbmhpdcfpaaDoorBmDoor
import Derived.Test.YtkfglbmhpdcfpaaDoorBmK
import Derived.Deep.Slices
import Derived.Deep.Strs
namespace Go.Proofs.YtkfglbmhpdcfpaaDoor
open Go.ChangeShapes Go.WideShapes Go.ChangeAt Go.RowKit Go.Joins
set_option linter.unusedVariables false

theorem cellsAct : Tryd.prog.cellsOf 44 = 3 := by kernel_rfl
theorem cellsInt : Tryd.prog.cellsOf 3 = 1 := by kernel_rfl

theorem addr_at {W : World} {a : Addr} {v : Value} (h : W.cell? (a.add 0) = some v) : a = ⟨a.block, a.off, none⟩ := by
  have e : a.add 0 = a := by simp [Addr.add]
  rw [e] at h
  obtain ⟨b, o, s⟩ := a
  cases s with
  | none => rfl
  | some z =>
    simp only [World.cell?] at h
    split at h <;> simp at h

theorem add_none (b o i j : Nat) : ((⟨b, o, none⟩ : Addr).add i).add j = ⟨b, o + i + j, none⟩ := by
  unfold Addr.add
  by_cases hi : i = 0 <;> by_cases hj : j = 0 <;> simp [hi, hj]

set_option maxRecDepth 100000 in
theorem open_acts {H : Type} {enc : TypeId × Value → H} {w : World} {base : Nat} {spare : Nat → Bool} {held : Bool} {r : Reach} {b0 : Nat} {v : Value} {d : DataW H} {p : List MemPlace}
    (hv : Value.okWide Tryd.prog w r b0 34 v) (h : DataW.Trod enc Tryd.prog w base spare held 34 v d p) : ∃ (x : Option Addr) (len cap b o : Nat), ActsAt w x len b o ∧ v = .slice x len cap := by
  obtain ⟨a0, len, cap, rfl⟩ := okWide_slice Tryd.underlying34 hv
  obtain ⟨fuel, hf⟩ := h
  rcases Deep.open_slice Tryd.underlying34 hf with ⟨hcs, _⟩ | ⟨a, len', cap', m, n, D, Pl, hcs, hb, hl, hm, hmm, hx, hi⟩
  · have e : Value.slice a0 len cap = .slice none 0 0 := by simpa [Value.cells] using hcs
    injection e with e1 e2 e3
    subst e2
    exact ⟨a0, 0, cap, 0, 0, ⟨Or.inr rfl, by omega, fun i hi => by omega⟩, rfl⟩
  · have e : Value.slice a0 len cap = .slice (some a) len' cap' := by simpa [Value.cells] using hcs
    injection e with e1 e2 e3
    subst e1 e2 e3
    have hlm : len ≤ m := by rw [hmm]; split <;> omega
    have each : ∀ i, i < len → ∃ K A B : Int, (-9223372036854775808 ≤ A ∧ A ≤ 9223372036854775807) ∧ w.cell? ((a.add (i * 3)).add 0) = some (.int .i64 K) ∧ w.cell? ((a.add (i * 3)).add 1) = some (.int .i64 A) ∧ w.cell? ((a.add (i * 3)).add 2) = some (.int .i64 B) := by
      intro i hil
      obtain ⟨cs', h1, h2⟩ := hi i (by omega)
      rw [cellsAct] at h1
      obtain ⟨_, hlen, hcell⟩ := World.cells?_some h1
      obtain ⟨y0, y1, y2, n', _, _, g0, g1, g2⟩ := Deep.trod_struct3 Tryd.underlying44 h2
      match cs', hlen with
      | [v0, v1, v2], _ =>
        obtain ⟨K, e0, _, _⟩ := DataW.trod_int Tryd.underlying3 (show DataW.trod enc Tryd.prog w base spare held n' 3 (([v0, v1, v2].drop 0).take (Tryd.prog.cellsOf 3)) = some y0 from g0)
        obtain ⟨A, e1, _, wa⟩ := DataW.trod_int Tryd.underlying3 (show DataW.trod enc Tryd.prog w base spare held n' 3 (([v0, v1, v2].drop 1).take (Tryd.prog.cellsOf 3)) = some y1 from g1)
        obtain ⟨B, e2, _, _⟩ := DataW.trod_int Tryd.underlying3 (show DataW.trod enc Tryd.prog w base spare held n' 3 (([v0, v1, v2].drop 2).take (Tryd.prog.cellsOf 3)) = some y2 from g2)
        rw [cellsInt] at e0 e1 e2
        simp at e0 e1 e2
        subst e0 e1 e2
        refine ⟨K, A, B, by simpa [Lit.wf, IntKind.min, IntKind.max, IntKind.signed, IntKind.bits] using wa, ?_, ?_, ?_⟩
        · simpa using hcell 0 (by omega)
        · simpa using hcell 1 (by omega)
        · simpa using hcell 2 (by omega)
    by_cases h0 : len = 0
    · exact ⟨some a, len, cap, 0, 0, ⟨Or.inr h0, by omega, fun i hi => by omega⟩, rfl⟩
    · obtain ⟨K, A, B, _, c0, _, _⟩ := each 0 (by omega)
      rw [Nat.zero_mul] at c0
      have ea : a = ⟨a.block, a.off, none⟩ := addr_at (by
        have : (a.add 0).add 0 = a.add 0 := by simp [Addr.add]
        rw [this] at c0
        exact c0)
      refine ⟨some a, len, cap, a.block, a.off, ⟨Or.inl (by rw [← ea]), by unfold maxLen at hm; omega, fun i hi => ?_⟩, rfl⟩
      obtain ⟨K, A, B, hA, c0, c1, c2⟩ := each i hi
      rw [ea, add_none] at c0 c1 c2
      exact ⟨K, A, B, hA, c0, c1, c2⟩

end Go.Proofs.YtkfglbmhpdcfpaaDoor
