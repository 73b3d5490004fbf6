/-
  Texts Door of the proof.
-/
import Derived.HandedShaped
import Derived.LaidMore
import Derived.Lib.SmallJoins
import Derived.MakeChecks
import Derived.OpenShut
import Derived.ProofKit
import Derived.Stop.LaidErr
import Derived.Test.YtipjmmhlfmahbaaGreatDoorP9
import Derived.Test.YtipjmmhlfmahbaaGreatDoorP8
import Derived.Test.YtipjmmhlfmahbaaGreatDoorRows

namespace Go.Proofs.YtipjmmhlfmahbaaGreatDoor
open Go.ChangeShapes Go.WideShapes Go.ChangeAt Go.RowKit
set_option linter.unusedVariables false

/-- The wrap with a condition on variables and the world's shape. -/
theorem handed_and_shaped {H : Type} {enc : TypeId × Value → H} {a : Assume} {C : Checked} {os : Os} {f : FuncId} {fn : Func} {s : ChangeSpec} {conds : List PathCond} {apart fresh handsOn again : Bool} {X : World → Array Value → Prop}
    (hX : ∀ (w w' : World) (args : Array Value), w.heap = w'.heap → X w args → X w' args)
    (own : ownKnob C.prog.godebug = none) (started : os.Started) (noInit : C.prog.inits.idxOf? f = none) (hfn : C.prog.funcs[f]? = some fn)
    (witness : ∃ (w : World) (tape : Tape) (i : Input), w.os = os ∧ (w.forCall tape i).Shaped C.prog ∧ i.vars = [] ∧ Input.okWide C.prog (w.forCall tape i) .any w.heap.size f i ∧
      ((s.pre enc C.prog fn conds apart (w.forCall tape i).memory i.args ∧ X (w.forCall tape i).memory i.args) ∧ sizedMet enc C.prog fn (OpenSpec.ofChange s) apart (w.forCall tape i).memory i.args) ∧ a.holds C.prog (lone (Frame.enter C.prog f i.args .normal) [] (w.forCall tape i)))
    (contract : ∀ (W : World) (base : Nat) (args : Array Value) (ds gs : List (DataW H)) (before : List MemPlace),
      (∀ (j : Nat) t v, fn.params[j]? = some t → args[j]? = some v → Value.okWide C.prog W .any base t v) →
      DataW.Whole enc C.prog fn.params.toList s.vars apart W args.toList ds gs before →
      W.ShapedOpen C.prog → X W args →
      Calls C.prog f args W fun e W' => ∃ v, e = .returned v ∧ s.post enc C.prog fn apart fresh handsOn again W args v W') :
    ReturnsInHanded a C os f .any (fun w args => (s.pre enc C.prog fn conds apart w args ∧ X w args) ∧ sizedMet enc C.prog fn (OpenSpec.ofChange s) apart w args) (s.post enc C.prog fn apart fresh handsOn again) := by
  refine returnsInHanded_of_calls own started noInit witness ?_
  intro w tape i _ hsh _ hok hpre hholds
  obtain ⟨_, _, _, fn', hfn', _, _, _, _, hval⟩ := hok
  have e : fn' = fn := Option.some.inj (hfn'.symm.trans hfn)
  subst e
  obtain ⟨⟨⟨ds, gs, before, hw, hc⟩, hx⟩, hz⟩ := hpre
  have hw' := DataW.Whole.of_heap (w' := w.forCall tape i) (by rfl) hw
  refine (contract (w.forCall tape i) w.heap.size i.args ds gs before hval hw' hsh (hX _ _ _ (by rfl) hx)).mono fun e W' ⟨v, he, hp⟩ => ?_
  subst he
  exact ChangeSpec.post_blind hp

/-- What the rows list. -/
abbrev laid5 : List (String × DataW Unit) := [("math/bits.deBruijn32tab", Rows.laid_math_bits_deBruijn32tab), ("math/bits.deBruijn64tab", Rows.laid_math_bits_deBruijn64tab), ("internal/strconv.uint64pow10", Rows.laid_internal_strconv_uint64pow10), ("strconv.ErrRange", Rows.laid_strconv_ErrRange), ("strconv.ErrSyntax", Rows.laid_strconv_ErrSyntax)]

/-- A table's numbers. -/
def tabNums : DataW Unit → List Int
  | .agg l => l.map fun d => match d with | .lit (.int _ z) => z | _ => 0
  | _ => []

theorem es_row : ∀ u, Tryz.prog.typeName? 3 u = some "*errors.errorString" → u = 140 := typeName_ptr_named (nm := "errors.errorString") (by kernel_rfl) (by kernel_rfl) (by decide)

theorem LW_of {W : World} (h : laidMetH Tryz.prog laid5 W) (hsh : W.ShapedOpen Tryz.prog) : LW W := by
  rw [MakeChecks.laidMetH_plain _ _ _ (by kernel_rfl)] at h
  have h1 := h.tail
  have h2 := h1.tail
  have h4 := h2.tail.tail
  have d64 : Lib.TabIs Tryz.prog W "math/bits.deBruijn64tab" .u8 (tabNums Rows.laid_math_bits_deBruijn64tab) :=
    Lib.tabIs_of_head (g := 3) (t := 135) (e := 5) (n := 64) (by kernel_rfl) (by kernel_rfl) Tryz.underlying135 Tryz.underlying5 (by kernel_rfl) (by kernel_rfl) h1
  have p10 : Lib.TabIs Tryz.prog W "internal/strconv.uint64pow10" .u64 Lib.pow10Tab :=
    Lib.tabIs_of_head (g := 1) (t := 121) (e := 22) (n := 20) (by kernel_rfl) (by kernel_rfl) Tryz.underlying121 Tryz.underlying22 (by kernel_rfl) (by kernel_rfl) h2
  have db : W.cell? ⟨3, 15, none⟩ = some (.int .u8 4) := (World.var?_cell (g := 3) (by kernel_rfl) d64 15).trans (by kernel_rfl)
  obtain ⟨a0, s0, hv0, _⟩ := laid_sentinel (g := 4) (ti := 106) (tp := 140) (te := 142) (ts := 9) h4 (by kernel_rfl) (by kernel_rfl) Tryz.underlying106 es_row Tryz.underlying140 Tryz.underlying142 rfl rfl Tryz.underlying9 (by kernel_rfl) (by kernel_rfl)
  refine ⟨Tryz.laysM145.s1_3 W hsh, ⟨_, (World.var?_cell (g := 4) (by kernel_rfl) hv0 0).trans rfl, Or.inr ⟨_, _, rfl⟩⟩, p10, db, ?_⟩
  obtain ⟨a1, s1, hv1, _⟩ := laid_sentinel (g := 5) (ti := 106) (tp := 140) (te := 142) (ts := 9) h2.tail (by kernel_rfl) (by kernel_rfl) Tryz.underlying106 es_row Tryz.underlying140 Tryz.underlying142 rfl rfl Tryz.underlying9 (by kernel_rfl) (by kernel_rfl)
  have er : W.cell? ⟨5, 0, none⟩ = some _ := (World.var?_cell (g := 5) (by kernel_rfl) hv1 0).trans rfl
  have : 5 < W.heap.size := by
    apply Classical.byContradiction
    intro c
    simp only [World.cell?] at er
    rw [Array.getElem?_eq_none (by omega)] at er
    cases er
  have : 3 < W.heap.size := by
    apply Classical.byContradiction
    intro c
    simp only [World.cell?] at db
    rw [Array.getElem?_eq_none (by omega)] at db
    cases db
  omega

theorem isNum_wf {h l : Int} (wh : (Lit.int .u64 h).wf = true) (wl : (Lit.int .u64 l).wf = true) : ∃ n, IsNum h l n := by
  have a : 0 ≤ h ∧ h ≤ 18446744073709551615 := by simpa [Lit.wf, IntKind.min, IntKind.max, IntKind.signed, IntKind.bits] using wh
  have b : 0 ≤ l ∧ l ≤ 18446744073709551615 := by simpa [Lit.wf, IntKind.min, IntKind.max, IntKind.signed, IntKind.bits] using wl
  exact ⟨_, IsNum.mk' a.1 (by omega) b.1 (by omega)⟩

theorem cellsU64 : Tryz.prog.cellsOf 22 = 1 := by kernel_rfl

set_option maxRecDepth 100000 in
theorem open_num2 {H : Type} {enc : TypeId × Value → H} {w : World} {base : Nat} {spare : Nat → Bool} {held : Bool} {fuel : Nat} {c1 c2 : Value} {x : DataW H × List MemPlace}
    (h : DataW.trod enc Tryz.prog w base spare held fuel 24 [c1, c2] = some x) : ∃ hi lo n, IsNum hi lo n ∧ c1 = .int .u64 hi ∧ c2 = .int .u64 lo := by
  obtain ⟨y0, y1, n, _, _, h0, h1⟩ := trod_struct2 Tryz.underlying24 h
  obtain ⟨a, e0, _, wa⟩ := DataW.trod_int Tryz.underlying22 (show DataW.trod enc Tryz.prog w base spare held n 22 (([c1, c2].drop 0).take (Tryz.prog.cellsOf 22)) = some y0 from h0)
  obtain ⟨b, e1, _, wb⟩ := DataW.trod_int Tryz.underlying22 (show DataW.trod enc Tryz.prog w base spare held n 22 (([c1, c2].drop 1).take (Tryz.prog.cellsOf 22)) = some y1 from h1)
  rw [cellsU64] at e0 e1
  simp at e0 e1
  obtain ⟨n, hn⟩ := isNum_wf wa wb
  exact ⟨a, b, n, hn, e0, e1⟩

end Go.Proofs.YtipjmmhlfmahbaaGreatDoor
