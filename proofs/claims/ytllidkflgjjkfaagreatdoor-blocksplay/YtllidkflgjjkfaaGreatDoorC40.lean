/-
  Texts SeDoor of the proof.
-/
import Derived.Deep.Slices
import Derived.Deep.Strs
import Derived.Test.YtllidkflgjjkfaaGreatDoorC19
import Derived.Test.YtllidkflgjjkfaaGreatDoorC39

namespace Go.Proofs.YtllidkflgjjkfaaGreatDoor
open Go.ChangeShapes Go.WideShapes Go.ChangeAt Go.RowKit Go.Joins
set_option linter.unusedVariables false

theorem cellsAct7 : Tryz.prog.cellsOf 69 = 6 := by kernel_rfl

theorem cellsInt7 : Tryz.prog.cellsOf 3 = 1 := by kernel_rfl

theorem cellsPfx7 : Tryz.prog.cellsOf 28 = 4 := by kernel_rfl

theorem addr_at7 {W : World} {a : Addr} {v : Value} (h : W.cell? (a.add 0) = some v) : a = ⟨a.block, a.off, none⟩ := by
  have e : a.add 0 = a := by simp [Addr.add]
  rw [e] at h
  obtain ⟨b, o, s⟩ := a
  cases s with
  | none => rfl
  | some z =>
    simp only [World.cell?] at h
    split at h <;> simp at h

theorem add_none7 (b o i j : Nat) : ((⟨b, o, none⟩ : Addr).add i).add j = ⟨b, o + i + j, none⟩ := by
  unfold Addr.add
  by_cases hi : i = 0 <;> by_cases hj : j = 0 <;> simp [hi, hj]

set_option maxRecDepth 100000 in
theorem open_pfx4 {H : Type} {enc : TypeId × Value → H} {w : World} {base : Nat} {spare : Nat → Bool} {held : Bool} {fuel : Nat} {c0 c1 c2 c3 : Value} {x : DataW H × List MemPlace}
    (hf : DataW.trod enc Tryz.prog w base spare held fuel 28 [c0, c1, c2, c3] = some x) : ∃ (b : Bool) (hi lo : Int) (n : Nat) (k : Int), IsNum hi lo n ∧ c0 = .bool b ∧ c1 = .int .u64 hi ∧ c2 = .int .u64 lo ∧ c3 = .int .i64 k := by
  obtain ⟨y0, y1, n, _, _, h0, h1⟩ := trod_struct2 Tryz.underlying28 hf
  obtain ⟨b, hi, lo, m, hm, rfl, rfl, rfl⟩ := open_addr3 (show DataW.trod enc Tryz.prog w base spare held n 26 [c0, c1, c2] = some y0 from h0)
  obtain ⟨k, e, _, wk⟩ := DataW.trod_int Tryz.underlying3 (show DataW.trod enc Tryz.prog w base spare held n 3 [c3] = some y1 from h1)
  simp at e
  exact ⟨b, hi, lo, m, k, hm, rfl, rfl, rfl, e⟩

set_option maxRecDepth 100000 in
theorem open_pfxs {H : Type} {enc : TypeId × Value → H} {w : World} {base : Nat} {spare : Nat → Bool} {held : Bool} {r : Reach} {b0 : Nat} {v : Value} {d : DataW H} {p : List MemPlace}
    (hv : Value.okWide Tryz.prog w r b0 72 v) (h : DataW.Trod enc Tryz.prog w base spare held 72 v d p) : ∃ (x : Option Addr) (len cap b o : Nat), PfxsAt w x len b o ∧ v = .slice x len cap := by
  obtain ⟨a0, len, cap, rfl⟩ := okWide_slice Tryz.underlying72 hv
  obtain ⟨fuel, hf⟩ := h
  rcases Deep.open_slice Tryz.underlying72 hf with ⟨hcs, _⟩ | ⟨a, len', cap', m, n, D, Pl, hcs, hb, hl, hm, hmm, hx, hi⟩
  · have e : Value.slice a0 len cap = .slice none 0 0 := by simpa [Value.cells] using hcs
    injection e with e1 e2 e3
    subst e2
    exact ⟨a0, 0, cap, 0, 0, ⟨Or.inr rfl, by omega, fun i hi => by omega⟩, rfl⟩
  · have e : Value.slice a0 len cap = .slice (some a) len' cap' := by simpa [Value.cells] using hcs
    injection e with e1 e2 e3
    subst e1 e2 e3
    have hlm : len ≤ m := by rw [hmm]; split <;> omega
    have each : ∀ i, i < len → ∃ (u : Bool) (qh ql : Int) (n : Nat) (c : Int), IsNum qh ql n ∧ w.cell? ((a.add (i * 4)).add 0) = some (.bool u) ∧ w.cell? ((a.add (i * 4)).add 1) = some (.int .u64 qh) ∧ w.cell? ((a.add (i * 4)).add 2) = some (.int .u64 ql) ∧ w.cell? ((a.add (i * 4)).add 3) = some (.int .i64 c) := by
      intro i hil
      obtain ⟨cs', h1, h2⟩ := hi i (by omega)
      rw [cellsPfx7] at h1
      obtain ⟨_, hlen, hcell⟩ := World.cells?_some h1
      match cs', hlen with
      | [v0, v1, v2, v3], _ =>
        obtain ⟨u, qh, ql, n, c, hn, rfl, rfl, rfl, rfl⟩ := open_pfx4 h2
        exact ⟨u, qh, ql, n, c, hn, by simpa using hcell 0 (by omega), by simpa using hcell 1 (by omega), by simpa using hcell 2 (by omega), by simpa using hcell 3 (by omega)⟩
    by_cases h0 : len = 0
    · exact ⟨some a, len, cap, 0, 0, ⟨Or.inr h0, by omega, fun i hi => by omega⟩, rfl⟩
    · obtain ⟨_, _, _, _, _, _, c0, _, _, _⟩ := each 0 (by omega)
      rw [Nat.zero_mul] at c0
      have ea : a = ⟨a.block, a.off, none⟩ := addr_at7 (by
        have : (a.add 0).add 0 = a.add 0 := by simp [Addr.add]
        rw [this] at c0
        exact c0)
      refine ⟨some a, len, cap, a.block, a.off, ⟨Or.inl (by rw [← ea]), by unfold maxLen at hm; omega, fun i hi => ?_⟩, rfl⟩
      obtain ⟨u, qh, ql, n, c, hn, c0, c1, c2, c3⟩ := each i hi
      rw [ea, add_none7] at c0 c1 c2 c3
      exact ⟨u, qh, ql, n, c, hn, c0, c1, c2, c3⟩

set_option maxRecDepth 100000 in
theorem open_bacts {H : Type} {enc : TypeId × Value → H} {w : World} {base : Nat} {spare : Nat → Bool} {held : Bool} {r : Reach} {b0 : Nat} {v : Value} {d : DataW H} {p : List MemPlace}
    (hv : Value.okWide Tryz.prog w r b0 58 v) (h : DataW.Trod enc Tryz.prog w base spare held 58 v d p) : ∃ (x : Option Addr) (len cap b o : Nat), BActsAt w x len b o ∧ v = .slice x len cap := by
  obtain ⟨a0, len, cap, rfl⟩ := okWide_slice Tryz.underlying58 hv
  obtain ⟨fuel, hf⟩ := h
  rcases Deep.open_slice Tryz.underlying58 hf with ⟨hcs, _⟩ | ⟨a, len', cap', m, n, D, Pl, hcs, hb, hl, hm, hmm, hx, hi⟩
  · have e : Value.slice a0 len cap = .slice none 0 0 := by simpa [Value.cells] using hcs
    injection e with e1 e2 e3
    subst e2
    exact ⟨a0, 0, cap, 0, 0, ⟨Or.inr rfl, by omega, fun i hi => by omega⟩, rfl⟩
  · have e : Value.slice a0 len cap = .slice (some a) len' cap' := by simpa [Value.cells] using hcs
    injection e with e1 e2 e3
    subst e1 e2 e3
    have hlm : len ≤ m := by rw [hmm]; split <;> omega
    have each : ∀ i, i < len → ∃ (K : Int) (u : Bool) (qh ql : Int) (n : Nat) (c A : Int), IsNum qh ql n ∧ (-9223372036854775808 ≤ A ∧ A ≤ 9223372036854775807) ∧ w.cell? ((a.add (i * 6)).add 0) = some (.int .i64 K) ∧ w.cell? ((a.add (i * 6)).add 1) = some (.bool u) ∧ w.cell? ((a.add (i * 6)).add 2) = some (.int .u64 qh) ∧ w.cell? ((a.add (i * 6)).add 3) = some (.int .u64 ql) ∧ w.cell? ((a.add (i * 6)).add 4) = some (.int .i64 c) ∧ w.cell? ((a.add (i * 6)).add 5) = some (.int .i64 A) := by
      intro i hil
      obtain ⟨cs', h1, h2⟩ := hi i (by omega)
      rw [cellsAct7] at h1
      obtain ⟨_, hlen, hcell⟩ := World.cells?_some h1
      match cs', hlen with
      | [v0, v1, v2, v3, v4, v5], _ =>
        obtain ⟨y0, y1, y2, n', _, _, g0, g1, g2⟩ := Deep.trod_struct3 Tryz.underlying69 h2
        obtain ⟨K, e0, _, _⟩ := DataW.trod_int Tryz.underlying3 (show DataW.trod enc Tryz.prog w base spare held n' 3 (([v0, v1, v2, v3, v4, v5].drop 0).take (Tryz.prog.cellsOf 3)) = some y0 from g0)
        have g1' : DataW.trod enc Tryz.prog w base spare held n' 28 (([v0, v1, v2, v3, v4, v5].drop 1).take (Tryz.prog.cellsOf 28)) = some y1 := g1
        rw [cellsPfx7] at g1'
        obtain ⟨u, qh, ql, n, c, hn, rfl, rfl, rfl, rfl⟩ := open_pfx4 (show DataW.trod enc Tryz.prog w base spare held n' 28 [v1, v2, v3, v4] = some y1 from g1')
        obtain ⟨A, e2, _, wa⟩ := DataW.trod_int Tryz.underlying3 (show DataW.trod enc Tryz.prog w base spare held n' 3 (([v0, .bool u, .int .u64 qh, .int .u64 ql, .int .i64 c, v5].drop 5).take (Tryz.prog.cellsOf 3)) = some y2 from g2)
        rw [cellsInt7] at e0 e2
        simp at e0 e2
        subst e0 e2
        exact ⟨K, u, qh, ql, n, c, A, hn, by simpa [Lit.wf, IntKind.min, IntKind.max, IntKind.signed, IntKind.bits] using wa, by simpa using hcell 0 (by omega), by simpa using hcell 1 (by omega), by simpa using hcell 2 (by omega), by simpa using hcell 3 (by omega), by simpa using hcell 4 (by omega), by simpa using hcell 5 (by omega)⟩
    by_cases h0 : len = 0
    · exact ⟨some a, len, cap, 0, 0, ⟨Or.inr h0, by omega, fun i hi => by omega⟩, rfl⟩
    · obtain ⟨_, _, _, _, _, _, _, _, _, c0, _⟩ := each 0 (by omega)
      rw [Nat.zero_mul] at c0
      have ea : a = ⟨a.block, a.off, none⟩ := addr_at7 (by
        have : (a.add 0).add 0 = a.add 0 := by simp [Addr.add]
        rw [this] at c0
        exact c0)
      refine ⟨some a, len, cap, a.block, a.off, ⟨Or.inl (by rw [← ea]), by unfold maxLen at hm; omega, fun i hi => ?_⟩, rfl⟩
      obtain ⟨K, u, qh, ql, n, c, A, hn, hA, c0, c1, c2, c3, c4, c5⟩ := each i hi
      rw [ea, add_none7] at c0 c1 c2 c3 c4 c5
      exact ⟨K, u, qh, ql, n, c, A, hn, hA, c0, c1, c2, c3, c4, c5⟩
end Go.Proofs.YtllidkflgjjkfaaGreatDoor
