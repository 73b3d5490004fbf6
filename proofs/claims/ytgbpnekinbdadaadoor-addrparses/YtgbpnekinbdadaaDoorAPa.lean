/-
  The walk of AddrParses.
-/
import Derived.Test.YtgbpnekinbdadaaDoorRfS
import Derived.Test.YtgbpnekinbdadaaDoorAwake2
import Derived.Test.YtgbpnekinbdadaaDoorPrSz
namespace Go.Proofs.YtgbpnekinbdadaaDoor
open Go.ChangeShapes Go.WideShapes Go.ChangeAt Go.RowKit
set_option linter.unusedVariables false
set_option linter.unusedSimpArgs false

/-- Parse of the reference. -/
theorem rparse_c (s : ByteArray) (hs : s.size ≤ 1000) (w : World) :
    Calls Tryd.prog 14 #[.string s] w fun e w' => RPRet s.data.toList w e w' := by
  cases hc : colonF s.data.toList
  · exact rparse_short s hs hc w
  · exact rparse_long s hs hc w

set_option maxRecDepth 100000 in
set_option maxHeartbeats 1600000 in
theorem aparses_walk (s : ByteArray) (w : World) (hL : LW w) :
    Calls Tryd.prog 4 #[.string s] w fun e w' => e = .returned (.bool true) ∧ Below w.heap.size w w' := by
  have hz := hL.sz
  have Lx := hide (fun W (hb : Below w.heap.size w W) => hL.of hb hz)
  have AW := hide (awake_c w hL)
  have KH := hide (Kn.nil w)
  by_cases hs : s.size ≤ 1000
  · have PA := hide (fun w' hb => aparse_c s (Nat.le_trans hs (by omega)) w' (Lx.out w' hb))
    have RP := hide (fun w' => rparse_c s hs w')
    have hs' : ¬ (s.size : Int) > 1000 := by omega
    clear hL hz hs Lx
    go_enter Tryd.func4, Tryd.ntmps4
    go_wp2_with fail
    refine AW.out.mono ?_
    rintro e w0 ⟨rfl, hb⟩
    have K0 := hide (KH.out.below hb)
    clear AW hb KH
    go_wp2_with fail
    refine (PA.out _ K0.out.bel).mono ?_
    rintro e w1 ⟨v, h, l, c, rfl, hp, hb⟩
    have K1 := hide ((K0.out.below hb).push (b := w1.heap.size) (cs := [.bool v, .int .u64 h, .int .u64 l]) (t := 26) rfl)
    have F1 := K1.out.1
    simp only [Facts, CellsAt] at F1
    clear PA hb K0
    go_wp2_with fail
    refine (RP.out _).mono ?_
    rintro e w2 ⟨v', h', l', c', rfl, hp', hb⟩
    obtain ⟨rfl, rfl, rfl, rfl⟩ := hp.out.uniq hp'.out
    have K2 := hide ((K1.out.below hb).push (b := w2.heap.size) (cs := [.bool v, .int .u64 h, .int .u64 l]) (t := 26) rfl)
    have F2 := K2.out.1
    simp only [Facts, CellsAt] at F2
    have B2 := hide K2.out.bel
    clear RP hb K1 F1 hp hp'
    go_wp2
    go_ret
    exact ⟨by first | rfl | simp, B2.out⟩
  · have hs' : (s.size : Int) > 1000 := by omega
    clear hL hz hs Lx
    go_enter Tryd.func4, Tryd.ntmps4
    go_wp2_with fail
    refine AW.out.mono ?_
    rintro e w0 ⟨rfl, hb⟩
    have B0 := hide hb
    clear AW hb KH
    go_wp2
    go_ret
    exact ⟨by first | rfl | simp, B0.out⟩
end Go.Proofs.YtgbpnekinbdadaaDoor
