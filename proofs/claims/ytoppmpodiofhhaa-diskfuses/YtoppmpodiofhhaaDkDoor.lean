/-
  The arguments: a call; a slice of calls: what their cells are.
-/
import Derived.Test.YtoppmpodiofhhaaDk7
import Derived.OpenShut
import Derived.Lib.SmallJoins
import Derived.Deep.Slices
import Derived.Deep.Strs
namespace Go.Proofs.Ytoppmpodiofhhaa
open Go.ChangeShapes Go.WideShapes Go.ChangeAt Go.RowKit Go.Joins
set_option linter.unusedVariables false

theorem cellsAct9 : Try.prog.cellsOf 28 = 5 := by kernel_rfl
theorem cellsInt9 : Try.prog.cellsOf 3 = 1 := by kernel_rfl
theorem cellsStr9 : Try.prog.cellsOf 9 = 1 := by kernel_rfl
theorem cellsInts9 : Try.prog.cellsOf 26 = 1 := by kernel_rfl

/-- What a call's five cells are. -/
structure ActV (W : World) (K A N : Int) (t : ByteArray) (x : Option Addr) (xs : List Int) (cap : Nat) : Prop where
  k : -9223372036854775808 ≤ K ∧ K ≤ 9223372036854775807
  a : -9223372036854775808 ≤ A ∧ A ≤ 9223372036854775807
  n : -9223372036854775808 ≤ N ∧ N ≤ 9223372036854775807
  t : t.size ≤ maxLen
  p : PkAt W x xs
  room : xs.length ≤ cap
  nil : x = none → xs.length = 0 ∧ cap = 0

theorem list_of {n : Nat} {P : Nat → Int → Prop} (h : ∀ i, i < n → ∃ k, P i k) : ∃ xs : List Int, xs.length = n ∧ ∀ i, i < n → P i (xs.getD i 0) := by
  induction n with
  | zero => exact ⟨[], rfl, fun i hi => by omega⟩
  | succ n ih =>
    obtain ⟨xs, hl, hx⟩ := ih (fun i hi => h i (by omega))
    obtain ⟨k, hk⟩ := h n (by omega)
    refine ⟨xs ++ [k], by simp [hl], fun i hi => ?_⟩
    by_cases e : i < n
    · have := hx i e
      rwa [List.getD_eq_getElem?_getD, List.getElem?_append_left (by omega), ← List.getD_eq_getElem?_getD]
    · obtain rfl : i = n := by omega
      rw [List.getD_eq_getElem?_getD, List.getElem?_append_right (by omega), hl, Nat.sub_self]
      exact hk

theorem addr_at9 {W : World} {a : Addr} {v : Value} (h : W.cell? (a.add 0) = some v) : a = ⟨a.block, a.off, none⟩ := by
  have e : a.add 0 = a := by simp [Addr.add]
  rw [e] at h
  obtain ⟨b, o, s⟩ := a
  cases s with
  | none => rfl
  | some z =>
    simp only [World.cell?] at h
    split at h <;> simp at h

theorem add_none9 (b o i j : Nat) : ((⟨b, o, none⟩ : Addr).add i).add j = ⟨b, o + i + j, none⟩ := by
  unfold Addr.add
  by_cases hi : i = 0 <;> by_cases hj : j = 0 <;> simp [hi, hj]

set_option maxRecDepth 100000 in
theorem open_picks {H : Type} {enc : TypeId × Value → H} {w : World} {base : Nat} {spare : Nat → Bool} {held : Bool} {fuel : Nat} {c : Value} {y : DataW H × List MemPlace}
    (hf : DataW.trod enc Try.prog w base spare held fuel 26 [c] = some y) : ∃ (x : Option Addr) (xs : List Int) (cap : Nat), c = .slice x xs.length cap ∧ PkAt w x xs ∧ xs.length ≤ cap ∧ (x = none → xs.length = 0 ∧ cap = 0) := by
  rcases Deep.open_slice Try.underlying26 hf with ⟨hcs, _⟩ | ⟨a, len, cap, m, n, D, Pl, hcs, hb, hl, hm, hmm, hx, hi⟩
  · obtain rfl : c = .slice none 0 0 := by simpa using hcs
    exact ⟨none, [], 0, rfl, ⟨Or.inl rfl, fun i hi => by simp at hi, by simp⟩, Nat.le_refl _, fun _ => ⟨rfl, rfl⟩⟩
  · obtain rfl : c = .slice (some a) len cap := by simpa using hcs
    have hlm : len ≤ m := by rw [hmm]; split <;> omega
    have each : ∀ i, i < len → ∃ K : Int, (-9223372036854775808 ≤ K ∧ K ≤ 9223372036854775807) ∧ w.cell? ((a.add (i * 1)).add 0) = some (.int .i64 K) := by
      intro i hil
      obtain ⟨cs', h1, h2⟩ := hi i (by omega)
      rw [cellsInt9] at h1
      obtain ⟨_, hlen, hcell⟩ := World.cells?_some h1
      match cs', hlen with
      | [v0], _ =>
        obtain ⟨K, e0, _, wk⟩ := DataW.trod_int Try.underlying3 h2
        simp at e0
        subst e0
        exact ⟨K, by simpa [Lit.wf, IntKind.min, IntKind.max, IntKind.signed, IntKind.bits] using wk, by simpa using hcell 0 (by omega)⟩
    obtain ⟨xs, hxl, hxs⟩ := list_of each
    unfold maxLen at hm
    refine ⟨some a, xs, cap, by rw [hxl], ⟨?_, fun i hi' => (hxs i (by omega)).1, by omega⟩, by omega, fun c => by cases c⟩
    by_cases h0 : len = 0
    · exact Or.inl (by omega)
    · obtain ⟨_, c0⟩ := hxs 0 (by omega)
      rw [Nat.zero_mul] at c0
      have ea : a = ⟨a.block, a.off, none⟩ := addr_at9 (by
        have : (a.add 0).add 0 = a.add 0 := by simp [Addr.add]
        rw [this] at c0
        exact c0)
      refine Or.inr ⟨a.block, a.off, by rw [← ea], fun i hi' => ?_⟩
      obtain ⟨_, c1⟩ := hxs i (by omega)
      rw [ea, add_none9] at c1
      simpa using c1

set_option maxRecDepth 100000 in
theorem open_act5 {H : Type} {enc : TypeId × Value → H} {w : World} {base : Nat} {spare : Nat → Bool} {held : Bool} {fuel : Nat} {c0 c1 c2 c3 c4 : Value} {y : DataW H × List MemPlace}
    (hf : DataW.trod enc Try.prog w base spare held fuel 28 [c0, c1, c2, c3, c4] = some y) : ∃ (K A N : Int) (t : ByteArray) (x : Option Addr) (xs : List Int) (cap : Nat), ActV w K A N t x xs cap ∧ c0 = .int .i64 K ∧ c1 = .int .i64 A ∧ c2 = .int .i64 N ∧ c3 = .string t ∧ c4 = .slice x xs.length cap := by
  obtain ⟨ys, n, _, _, _, hlen, h⟩ := DataW.trod_struct Try.underlying28 hf
  have g0 := h 0 _ rfl
  have g1 := h 1 _ rfl
  have g2 := h 2 _ rfl
  have g3 := h 3 _ rfl
  have g4 := h 4 _ rfl
  match ys, hlen with
  | [y0, y1, y2, y3, y4], _ =>
    obtain ⟨K, e0, _, w0⟩ := DataW.trod_int Try.underlying3 (show DataW.trod enc Try.prog w base spare held n 3 (([c0, c1, c2, c3, c4].drop 0).take (Try.prog.cellsOf 3)) = some y0 from g0)
    obtain ⟨A, e1, _, w1⟩ := DataW.trod_int Try.underlying3 (show DataW.trod enc Try.prog w base spare held n 3 (([c0, c1, c2, c3, c4].drop 1).take (Try.prog.cellsOf 3)) = some y1 from g1)
    obtain ⟨N, e2, _, w2⟩ := DataW.trod_int Try.underlying3 (show DataW.trod enc Try.prog w base spare held n 3 (([c0, c1, c2, c3, c4].drop 2).take (Try.prog.cellsOf 3)) = some y2 from g2)
    obtain ⟨t, e3, _, w3⟩ := DataW.trod_string Try.underlying9 (show DataW.trod enc Try.prog w base spare held n 9 (([c0, c1, c2, c3, c4].drop 3).take (Try.prog.cellsOf 9)) = some y3 from g3)
    have g4' : DataW.trod enc Try.prog w base spare held n 26 (([c0, c1, c2, c3, c4].drop 4).take (Try.prog.cellsOf 26)) = some y4 := g4
    rw [cellsInts9] at g4'
    obtain ⟨x, xs, cap, e4, hp, hc, hn⟩ := open_picks (show DataW.trod enc Try.prog w base spare held n 26 [c4] = some y4 from g4')
    rw [cellsInt9] at e0 e1 e2
    rw [cellsStr9] at e3
    simp at e0 e1 e2 e3
    exact ⟨K, A, N, t, x, xs, cap, ⟨by simpa [Lit.wf, IntKind.min, IntKind.max, IntKind.signed, IntKind.bits] using w0, by simpa [Lit.wf, IntKind.min, IntKind.max, IntKind.signed, IntKind.bits] using w1, by simpa [Lit.wf, IntKind.min, IntKind.max, IntKind.signed, IntKind.bits] using w2, w3, hp, hc, hn⟩, e0, e1, e2, e3, e4⟩

theorem array5 {α : Type} {cs : Array α} (h : cs.size = 5) : ∃ c0 c1 c2 c3 c4, cs = #[c0, c1, c2, c3, c4] := by
  obtain ⟨l⟩ := cs
  match l, h with
  | [c0, c1, c2, c3, c4], _ => exact ⟨c0, c1, c2, c3, c4, rfl⟩

theorem open_act9 {H : Type} {enc : TypeId × Value → H} {w : World} {base : Nat} {spare : Nat → Bool} {held : Bool} {r : Reach} {b0 : Nat} {v : Value} {d : DataW H} {p : List MemPlace}
    (hv : Value.okWide Try.prog w r b0 28 v) (h : DataW.Trod enc Try.prog w base spare held 28 v d p) : ∃ (K A N : Int) (t : ByteArray) (x : Option Addr) (xs : List Int) (cap : Nat), ActV w K A N t x xs cap ∧ v = .agg #[.int .i64 K, .int .i64 A, .int .i64 N, .string t, .slice x xs.length cap] := by
  obtain ⟨cs, rfl, hsz⟩ := okWide_struct Try.underlying28 hv
  obtain ⟨c0, c1, c2, c3, c4, rfl⟩ := array5 (hsz.trans cellsAct9)
  obtain ⟨fuel, hf⟩ := h
  obtain ⟨K, A, N, t, x, xs, cap, ha, rfl, rfl, rfl, rfl, rfl⟩ := open_act5 (show DataW.trod enc Try.prog w base spare held fuel 28 [c0, c1, c2, c3, c4] = some (d, p) from hf)
  exact ⟨K, A, N, t, x, xs, cap, ha, rfl⟩

/-- What the argument's calls are, cell by cell. -/
def ActsAt (W : World) (x : Option Addr) (len b o : Nat) : Prop := (x = some ⟨b, o, none⟩ ∨ len = 0) ∧ len ≤ 9223372036854775807 ∧
  ∀ i, i < len → ∃ (K A N : Int) (t : ByteArray) (y : Option Addr) (xs : List Int) (cap : Nat), ActV W K A N t y xs cap ∧ W.cell? ⟨b, o + i * 5, none⟩ = some (.int .i64 K) ∧ W.cell? ⟨b, o + i * 5 + 1, none⟩ = some (.int .i64 A) ∧ W.cell? ⟨b, o + i * 5 + 2, none⟩ = some (.int .i64 N) ∧ W.cell? ⟨b, o + i * 5 + 3, none⟩ = some (.string t) ∧ W.cell? ⟨b, o + i * 5 + 4, none⟩ = some (.slice y xs.length cap)

set_option maxRecDepth 100000 in
theorem open_acts9 {H : Type} {enc : TypeId × Value → H} {w : World} {base : Nat} {spare : Nat → Bool} {held : Bool} {r : Reach} {b0 : Nat} {v : Value} {d : DataW H} {p : List MemPlace}
    (hv : Value.okWide Try.prog w r b0 22 v) (h : DataW.Trod enc Try.prog w base spare held 22 v d p) : ∃ (x : Option Addr) (len cap b o : Nat), ActsAt w x len b o ∧ v = .slice x len cap := by
  obtain ⟨a0, len, cap, rfl⟩ := okWide_slice Try.underlying22 hv
  obtain ⟨fuel, hf⟩ := h
  rcases Deep.open_slice Try.underlying22 hf with ⟨hcs, _⟩ | ⟨a, len', cap', m, n, D, Pl, hcs, hb, hl, hm, hmm, hx, hi⟩
  · have e : Value.slice a0 len cap = .slice none 0 0 := by simpa [Value.cells] using hcs
    injection e with e1 e2 e3
    subst e2
    exact ⟨a0, 0, cap, 0, 0, ⟨Or.inr rfl, by omega, fun i hi => by omega⟩, rfl⟩
  · have e : Value.slice a0 len cap = .slice (some a) len' cap' := by simpa [Value.cells] using hcs
    injection e with e1 e2 e3
    subst e1 e2 e3
    have hlm : len ≤ m := by rw [hmm]; split <;> omega
    have each : ∀ i, i < len → ∃ (K A N : Int) (t : ByteArray) (y : Option Addr) (xs : List Int) (c : Nat), ActV w K A N t y xs c ∧ w.cell? ((a.add (i * 5)).add 0) = some (.int .i64 K) ∧ w.cell? ((a.add (i * 5)).add 1) = some (.int .i64 A) ∧ w.cell? ((a.add (i * 5)).add 2) = some (.int .i64 N) ∧ w.cell? ((a.add (i * 5)).add 3) = some (.string t) ∧ w.cell? ((a.add (i * 5)).add 4) = some (.slice y xs.length c) := by
      intro i hil
      obtain ⟨cs', h1, h2⟩ := hi i (by omega)
      rw [cellsAct9] at h1
      obtain ⟨_, hlen, hcell⟩ := World.cells?_some h1
      match cs', hlen with
      | [v0, v1, v2, v3, v4], _ =>
        obtain ⟨K, A, N, t, y, xs, c, ha, rfl, rfl, rfl, rfl, rfl⟩ := open_act5 h2
        exact ⟨K, A, N, t, y, xs, c, ha, by simpa using hcell 0 (by omega), by simpa using hcell 1 (by omega), by simpa using hcell 2 (by omega), by simpa using hcell 3 (by omega), by simpa using hcell 4 (by omega)⟩
    by_cases h0 : len = 0
    · exact ⟨some a, len, cap, 0, 0, ⟨Or.inr h0, by omega, fun i hi => by omega⟩, rfl⟩
    · obtain ⟨_, _, _, _, _, _, _, _, c0, _⟩ := each 0 (by omega)
      rw [Nat.zero_mul] at c0
      have ea : a = ⟨a.block, a.off, none⟩ := addr_at9 (by
        have : (a.add 0).add 0 = a.add 0 := by simp [Addr.add]
        rw [this] at c0
        exact c0)
      refine ⟨some a, len, cap, a.block, a.off, ⟨Or.inl (by rw [← ea]), by unfold maxLen at hm; omega, fun i hi => ?_⟩, rfl⟩
      obtain ⟨K, A, N, t, y, xs, c, ha, c0, c1, c2, c3, c4⟩ := each i hi
      rw [ea, add_none9] at c0 c1 c2 c3 c4
      exact ⟨K, A, N, t, y, xs, c, ha, c0, c1, c2, c3, c4⟩

end Go.Proofs.Ytoppmpodiofhhaa
