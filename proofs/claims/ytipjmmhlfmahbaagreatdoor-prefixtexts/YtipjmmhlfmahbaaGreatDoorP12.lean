/-
  Texts Door3 of the proof.
-/
import Derived.Test.YtipjmmhlfmahbaaGreatDoorP10
import Derived.Test.YtipjmmhlfmahbaaGreatDoorP11

namespace Go.Proofs.YtipjmmhlfmahbaaGreatDoor
open Go.ChangeShapes Go.WideShapes Go.ChangeAt Go.RowKit
set_option linter.unusedVariables false

theorem cellsPrefix : Tryz.prog.cellsOf 28 = 4 := by kernel_rfl

theorem array4 {cs : Array Value} (h : cs.size = 4) : ∃ a b c d, cs = #[a, b, c, d] := by
  obtain ⟨l⟩ := cs
  match l, h with
  | [a, b, c, d], _ => exact ⟨a, b, c, d, rfl⟩

set_option maxRecDepth 100000 in
theorem open_addr3 {H : Type} {enc : TypeId × Value → H} {w : World} {base : Nat} {spare : Nat → Bool} {held : Bool} {fuel : Nat} {c0 c1 c2 : Value} {x : DataW H × List MemPlace}
    (hf : DataW.trod enc Tryz.prog w base spare held fuel 26 [c0, c1, c2] = some x) : ∃ (b : Bool) (hi lo : Int) (n : Nat), IsNum hi lo n ∧ c0 = .bool b ∧ c1 = .int .u64 hi ∧ c2 = .int .u64 lo := by
  obtain ⟨y0, y1, n, _, _, h0, h1⟩ := trod_struct2 Tryz.underlying26 hf
  obtain ⟨hi, lo, m, hm, rfl, rfl⟩ := open_num2 (show DataW.trod enc Tryz.prog w base spare held n 24 [c1, c2] = some y1 from h1)
  obtain ⟨b, e, _⟩ := DataW.trod_bool Tryz.underlying4 (show DataW.trod enc Tryz.prog w base spare held n 4 [c0] = some y0 from h0)
  simp at e
  exact ⟨b, hi, lo, m, hm, e, rfl, rfl⟩

set_option maxRecDepth 100000 in
theorem open_pfx {H : Type} {enc : TypeId × Value → H} {w : World} {base : Nat} {spare : Nat → Bool} {held : Bool} {r : Reach} {b0 : Nat} {v : Value} {d : DataW H} {p : List MemPlace}
    (hv : Value.okWide Tryz.prog w r b0 28 v) (h : DataW.Trod enc Tryz.prog w base spare held 28 v d p) : ∃ (b : Bool) (hi lo : Int) (n : Nat) (k : Int), IsNum hi lo n ∧ (-9223372036854775808 ≤ k ∧ k ≤ 9223372036854775807) ∧ v = pv b hi lo k := by
  obtain ⟨cs, rfl, hsz⟩ := okWide_struct Tryz.underlying28 hv
  obtain ⟨c0, c1, c2, c3, rfl⟩ := array4 (hsz.trans cellsPrefix)
  obtain ⟨fuel, hf⟩ := h
  obtain ⟨y0, y1, n, _, _, h0, h1⟩ := trod_struct2 Tryz.underlying28 hf
  obtain ⟨b, hi, lo, m, hm, rfl, rfl, rfl⟩ := open_addr3 (show DataW.trod enc Tryz.prog w base spare held n 26 [c0, c1, c2] = some y0 from h0)
  obtain ⟨k, e, _, wk⟩ := DataW.trod_int Tryz.underlying3 (show DataW.trod enc Tryz.prog w base spare held n 3 [c3] = some y1 from h1)
  simp at e
  exact ⟨b, hi, lo, m, k, hm, by simpa [Lit.wf, IntKind.min, IntKind.max, IntKind.signed, IntKind.bits] using wk, by rw [e]⟩
end Go.Proofs.YtipjmmhlfmahbaaGreatDoor
