/-
  Texts PoDoor3 of the proof.
-/
import Derived.Deep.Slices
import Derived.Deep.Strs
import Derived.Lib.SmallJoins
import Derived.Test.YtgbpnekinbdadaaGreatDoorPQ17
import Derived.Test.YtgbpnekinbdadaaGreatDoorPQ48

namespace Go.Proofs.YtgbpnekinbdadaaGreatDoor
open Go.ChangeShapes Go.WideShapes Go.ChangeAt Go.RowKit Go.Joins
set_option linter.unusedVariables false

theorem cellsAct9 : Tryz.prog.cellsOf 49 = 6 := by kernel_rfl

theorem cellsInt9 : Tryz.prog.cellsOf 3 = 1 := by kernel_rfl

theorem cellsAddr9 : Tryz.prog.cellsOf 26 = 3 := by kernel_rfl

theorem addr_at9 {W : World} {a : Addr} {v : Value} (h : W.cell? (a.add 0) = some v) : a = ⟨a.block, a.off, none⟩ := by
 have e : a.add 0 = a := by simp [Addr.add]
 rw [e] at h
 obtain ⟨b, o, s⟩ := a
 cases s with
 | none => rfl
 | some z =>
  simp only [World.cell?] at h
  split at h <;> simp at h

theorem add_none9 (b o i j : Nat) : ((⟨b, o, none⟩ : Addr).add i).add j = ⟨b, o + i + j, none⟩ := by
 unfold Addr.add
 by_cases hi : i = 0 <;> by_cases hj : j = 0 <;> simp [hi, hj]

set_option maxRecDepth 100000 in
theorem open_pacts {H : Type} {enc : TypeId × Value → H} {w : World} {base : Nat} {spare : Nat → Bool} {held : Bool} {r : Reach} {b0 : Nat} {v : Value} {d : DataW H} {p : List MemPlace}
  (hv : Value.okWide Tryz.prog w r b0 36 v) (h : DataW.Trod enc Tryz.prog w base spare held 36 v d p) : ∃ (x : Option Addr) (len cap b o : Nat), PActsAt w x len b o ∧ v = .slice x len cap := by
 obtain ⟨a0, len, cap, rfl⟩ := okWide_slice Tryz.underlying36 hv
 obtain ⟨fuel, hf⟩ := h
 rcases Deep.open_slice Tryz.underlying36 hf with ⟨hcs, _⟩ | ⟨a, len', cap', m, n, D, Pl, hcs, hb, hl, hm, hmm, hx, hi⟩
 ·have e : Value.slice a0 len cap = .slice none 0 0 := by simpa [Value.cells] using hcs
  injection e with e1 e2 e3
  subst e2
  exact ⟨a0, 0, cap, 0, 0, ⟨Or.inr rfl, by omega, fun i hi => by omega⟩, rfl⟩
 ·have e : Value.slice a0 len cap = .slice (some a) len' cap' := by simpa [Value.cells] using hcs
  injection e with e1 e2 e3
  subst e1 e2 e3
  have hlm : len ≤ m := by rw [hmm]; split <;> omega
  have each : ∀ i, i < len → ∃ (K : Int) (u : Bool) (qh ql : Int) (n : Nat) (A M : Int), IsNum qh ql n ∧ (-9223372036854775808 ≤ M ∧ M ≤ 9223372036854775807) ∧ w.cell? ((a.add (i * 6)).add 0) = some (.int .i64 K) ∧ w.cell? ((a.add (i * 6)).add 1) = some (.bool u) ∧ w.cell? ((a.add (i * 6)).add 2) = some (.int .u64 qh) ∧ w.cell? ((a.add (i * 6)).add 3) = some (.int .u64 ql) ∧ w.cell? ((a.add (i * 6)).add 4) = some (.int .i64 A) ∧ w.cell? ((a.add (i * 6)).add 5) = some (.int .i64 M) := by
   intro i hil
   obtain ⟨cs', h1, h2⟩ := hi i (by omega)
   rw [cellsAct9] at h1
   obtain ⟨_, hlen, hcell⟩ := World.cells?_some h1
   match cs', hlen with
   | [v0, v1, v2, v3, v4, v5], _ =>
    obtain ⟨y0, y1, y2, y3, n', _, _, g0, g1, g2, g3⟩ := trod_struct4 Tryz.underlying49 h2
    obtain ⟨K, e0, _, _⟩ := DataW.trod_int Tryz.underlying3 (show DataW.trod enc Tryz.prog w base spare held n' 3 (([v0, v1, v2, v3, v4, v5].drop 0).take (Tryz.prog.cellsOf 3)) = some y0 from g0)
    have g1' : DataW.trod enc Tryz.prog w base spare held n' 26 (([v0, v1, v2, v3, v4, v5].drop 1).take (Tryz.prog.cellsOf 26)) = some y1 := g1
    rw [cellsAddr9] at g1'
    obtain ⟨u, qh, ql, n, hn, rfl, rfl, rfl⟩ := open_addr3 (show DataW.trod enc Tryz.prog w base spare held n' 26 [v1, v2, v3] = some y1 from g1')
    obtain ⟨A, e2, _, _⟩ := DataW.trod_int Tryz.underlying3 (show DataW.trod enc Tryz.prog w base spare held n' 3 (([v0, .bool u, .int .u64 qh, .int .u64 ql, v4, v5].drop 4).take (Tryz.prog.cellsOf 3)) = some y2 from g2)
    obtain ⟨M, e3, _, wm⟩ := DataW.trod_int Tryz.underlying3 (show DataW.trod enc Tryz.prog w base spare held n' 3 (([v0, .bool u, .int .u64 qh, .int .u64 ql, v4, v5].drop 5).take (Tryz.prog.cellsOf 3)) = some y3 from g3)
    rw [cellsInt9] at e0 e2 e3
    simp at e0 e2 e3
    subst e0 e2 e3
    exact ⟨K, u, qh, ql, n, A, M, hn, by simpa [Lit.wf, IntKind.min, IntKind.max, IntKind.signed, IntKind.bits] using wm, by simpa using hcell 0 (by omega), by simpa using hcell 1 (by omega), by simpa using hcell 2 (by omega), by simpa using hcell 3 (by omega), by simpa using hcell 4 (by omega), by simpa using hcell 5 (by omega)⟩
  by_cases h0 : len = 0
  ·exact ⟨some a, len, cap, 0, 0, ⟨Or.inr h0, by omega, fun i hi => by omega⟩, rfl⟩
  ·obtain ⟨_, _, _, _, _, _, _, _, _, c0, _⟩ := each 0 (by omega)
   rw [Nat.zero_mul] at c0
   have ea : a = ⟨a.block, a.off, none⟩ := addr_at9 (by
    have : (a.add 0).add 0 = a.add 0 := by simp [Addr.add]
    rw [this] at c0
    exact c0)
   refine ⟨some a, len, cap, a.block, a.off, ⟨Or.inl (by rw [← ea]), by unfold maxLen at hm; omega, fun i hi => ?_⟩, rfl⟩
   obtain ⟨K, u, qh, ql, n, A, M, hn, hA, c0, c1, c2, c3, c4, c5⟩ := each i hi
   rw [ea, add_none9] at c0 c1 c2 c3 c4 c5
   exact ⟨K, u, qh, ql, n, A, M, hn, hA, c0, c1, c2, c3, c4, c5⟩
end Go.Proofs.YtgbpnekinbdadaaGreatDoor
