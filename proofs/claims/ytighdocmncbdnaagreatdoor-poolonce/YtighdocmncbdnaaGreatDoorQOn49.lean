/-
  Texts PoDoor2 of the proof.
-/
import Derived.Deep.Slices
import Derived.Deep.Strs
import Derived.Test.YtighdocmncbdnaaGreatDoorQOn19
import Derived.Test.YtighdocmncbdnaaGreatDoorQOn48

namespace Go.Proofs.YtighdocmncbdnaaGreatDoor
open Go.ChangeShapes Go.WideShapes Go.ChangeAt Go.RowKit Go.Joins
set_option linter.unusedVariables false

theorem ponce_walk {v : Bool} {h l b : Int} {n len cap bo oo : Nat} {xo : Option Addr} (hp : IsNum h l n) (w : World) (hA : IntsAt w xo len bo oo) (hL : LW w) (hT : TB w) :
    Calls Tryz.prog 6 #[pv v h l b, .slice xo len cap] w fun e w' => e = .returned (.bool true) ∧ Below w.heap.size w w' := by
  by_cases c1 : cnP v n b = 0
  · exact ponce_out hp hA.2.1 (Or.inl c1) w hL hT
  · by_cases c2 : 512 < cnP v n b
    · exact ponce_out hp hA.2.1 (Or.inr (Or.inl ⟨c1, c2⟩)) w hL hT
    · by_cases c3 : 20 < len
      · exact ponce_out hp hA.2.1 (Or.inr (Or.inr ⟨c1, c2, c3⟩)) w hL hT
      · have h4 : 4 ≤ szP v n b := by
          apply Classical.byContradiction
          intro c
          exact c1 (by unfold cnP; rw [if_neg c])
        have e : cnP v n b = szP v n b := by unfold cnP; rw [if_pos h4]
        exact ponce_main hp (by omega) h4 (by omega) w hA hL hT

theorem cellsInt6 : Tryz.prog.cellsOf 3 = 1 := by kernel_rfl

theorem addr_at6 {W : World} {a : Addr} {v : Value} (h : W.cell? (a.add 0) = some v) : a = ⟨a.block, a.off, none⟩ := by
  have e : a.add 0 = a := by simp [Addr.add]
  rw [e] at h
  obtain ⟨b, o, s⟩ := a
  cases s with
  | none => rfl
  | some z =>
    simp only [World.cell?] at h
    split at h <;> simp at h

theorem add_none6 (b o i j : Nat) : ((⟨b, o, none⟩ : Addr).add i).add j = ⟨b, o + i + j, none⟩ := by
  unfold Addr.add
  by_cases hi : i = 0 <;> by_cases hj : j = 0 <;> simp [hi, hj]

set_option maxRecDepth 100000 in
theorem open_ints {H : Type} {enc : TypeId × Value → H} {w : World} {base : Nat} {spare : Nat → Bool} {held : Bool} {r : Reach} {b0 : Nat} {v : Value} {d : DataW H} {p : List MemPlace}
    (hv : Value.okWide Tryz.prog w r b0 57 v) (h : DataW.Trod enc Tryz.prog w base spare held 57 v d p) : ∃ (x : Option Addr) (len cap b o : Nat), IntsAt w x len b o ∧ v = .slice x len cap := by
  obtain ⟨a0, len, cap, rfl⟩ := okWide_slice Tryz.underlying57 hv
  obtain ⟨fuel, hf⟩ := h
  rcases Deep.open_slice Tryz.underlying57 hf with ⟨hcs, _⟩ | ⟨a, len', cap', m, n, D, Pl, hcs, hb, hl, hm, hmm, hx, hi⟩
  · have e : Value.slice a0 len cap = .slice none 0 0 := by simpa [Value.cells] using hcs
    injection e with e1 e2 e3
    subst e2
    exact ⟨a0, 0, cap, 0, 0, ⟨Or.inr rfl, by omega, fun i hi => by omega⟩, rfl⟩
  · have e : Value.slice a0 len cap = .slice (some a) len' cap' := by simpa [Value.cells] using hcs
    injection e with e1 e2 e3
    subst e1 e2 e3
    have hlm : len ≤ m := by rw [hmm]; split <;> omega
    have each : ∀ i, i < len → ∃ K : Int, (-9223372036854775808 ≤ K ∧ K ≤ 9223372036854775807) ∧ w.cell? ((a.add (i * 1)).add 0) = some (.int .i64 K) := by
      intro i hil
      obtain ⟨cs', h1, h2⟩ := hi i (by omega)
      rw [cellsInt6] at h1
      obtain ⟨_, hlen, hcell⟩ := World.cells?_some h1
      match cs', hlen with
      | [v0], _ =>
        obtain ⟨K, e0, _, wa⟩ := DataW.trod_int Tryz.underlying3 h2
        simp at e0
        subst e0
        refine ⟨K, by simpa [Lit.wf, IntKind.min, IntKind.max, IntKind.signed, IntKind.bits] using wa, ?_⟩
        simpa using hcell 0 (by omega)
    by_cases h0 : len = 0
    · exact ⟨some a, len, cap, 0, 0, ⟨Or.inr h0, by omega, fun i hi => by omega⟩, rfl⟩
    · obtain ⟨K, _, c0⟩ := each 0 (by omega)
      rw [Nat.zero_mul] at c0
      have ea : a = ⟨a.block, a.off, none⟩ := addr_at6 (by
        have : (a.add 0).add 0 = a.add 0 := by simp [Addr.add]
        rw [this] at c0
        exact c0)
      refine ⟨some a, len, cap, a.block, a.off, ⟨Or.inl (by rw [← ea]), by unfold maxLen at hm; omega, fun i hi => ?_⟩, rfl⟩
      obtain ⟨K, hK, c0⟩ := each i hi
      rw [ea, add_none6, Nat.mul_one, Nat.add_zero] at c0
      exact ⟨K, hK, c0⟩
end Go.Proofs.YtighdocmncbdnaaGreatDoor
