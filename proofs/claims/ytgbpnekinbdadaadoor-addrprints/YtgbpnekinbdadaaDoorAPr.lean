/-
  The walk of AddrPrints.
-/
import Derived.Test.YtgbpnekinbdadaaDoorPrRd
import Derived.Test.YtgbpnekinbdadaaDoorAwake2
import Derived.Test.YtgbpnekinbdadaaDoorPrSz
namespace Go.Proofs.YtgbpnekinbdadaaDoor
open Go.ChangeShapes Go.WideShapes Go.ChangeAt Go.RowKit
set_option linter.unusedVariables false
set_option linter.unusedSimpArgs false

/-- The text of an address, with its size. -/
theorem prA_small (v : Bool) (a : Nat) : (prA v a).size ≤ 2000 := prA_size v a

set_option maxRecDepth 100000 in
set_option maxHeartbeats 1600000 in
theorem aprints_walk {v : Bool} {h l : Int} {a : Nat} (ha : IsNum h l a) (w : World) (hL : LW w) :
    Calls Tryd.prog 3 #[av v h l] w fun e w' => e = .returned (.bool true) ∧ Below w.heap.size w w' := by
  have hz := hL.sz
  have K : Kn w [(w.heap.size, [.bool v, .int .u64 h, .int .u64 l], 26)] (w.alloc (.cells #[.bool v, .int .u64 h, .int .u64 l] 26)) := (Kn.nil w).push rfl
  have Lx := hide (fun W (hb : Below w.heap.size w W) => hL.of hb hz)
  have AW := hide (awake_c _ (hL.of K.bel hz))
  have PR := hide (fun w' hb => aprint_c (v := v) ha w' (Lx.out w' hb))
  have RP := hide (fun w' => rprint02_c (v := v) ha w')
  have RT := hide (fun w' => rright_c (v := v) ha w')
  have KH := hide K
  have HA := hide ha
  clear hL hz K ha
  cases hok : okA v a
  · have e : prA v a = ⟨#[]⟩ := by unfold prA; rw [hok]; rfl
    rw [e] at PR RP
    rw [hok] at RT
    clear e hok HA
    go_enter Tryd.func3, Tryd.ntmps3
    go_wp2_with fail
    refine AW.out.mono ?_
    rintro e w0 ⟨rfl, hb⟩
    have K0 := hide (KH.out.below hb)
    have F := K0.out.1
    simp only [Facts, CellsAt] at F
    clear AW hb KH
    go_wp2_with fail
    refine (PR.out _ K0.out.bel).mono ?_
    rintro e w1 ⟨rfl, hb⟩
    have K1 := hide (K0.out.below hb)
    have F1 := K1.out.1
    simp only [Facts, CellsAt] at F1
    clear PR hb K0 F
    go_wp2_with fail
    refine (RP.out _).mono ?_
    rintro e w2 ⟨rfl, hb⟩
    have K2 := hide (K1.out.below hb)
    have F2 := K2.out.1
    simp only [Facts, CellsAt] at F2
    clear RP hb K1 F1
    go_wp2_with fail
    refine (RT.out _).mono ?_
    rintro e w3 ⟨rfl, hb⟩
    have B3 := hide (K2.out.below hb).bel
    clear RT hb K2 F2
    go_wp2
    go_ret
    exact ⟨by first | rfl | simp, B3.out⟩
  · have PI : ParseIs (prA v a).data.toList v h l 0 := Or.inl ⟨a, parse_print HA.out.lt hok, HA.out, rfl⟩
    have PA := hide (fun w' hb => aparse_is (prA v a) (Nat.le_trans (prA_small v a) (by omega)) PI w' (Lx.out w' hb))
    obtain ⟨S, hS⟩ : ∃ S, prA v a = S := ⟨_, rfl⟩
    rw [hS] at PR RP PA
    rw [hok] at RT
    clear PI hS hok HA
    go_enter Tryd.func3, Tryd.ntmps3
    go_wp2_with fail
    refine AW.out.mono ?_
    rintro e w0 ⟨rfl, hb⟩
    have K0 := hide (KH.out.below hb)
    have F := K0.out.1
    simp only [Facts, CellsAt] at F
    clear AW hb KH
    go_wp2_with fail
    refine (PR.out _ K0.out.bel).mono ?_
    rintro e w1 ⟨rfl, hb⟩
    have K1 := hide (K0.out.below hb)
    have F1 := K1.out.1
    simp only [Facts, CellsAt] at F1
    clear PR hb K0 F
    go_wp2_with fail
    refine (RP.out _).mono ?_
    rintro e w2 ⟨rfl, hb⟩
    have K2 := hide (K1.out.below hb)
    have F2 := K2.out.1
    simp only [Facts, CellsAt] at F2
    clear RP hb K1 F1
    go_wp2_with fail
    refine (RT.out _).mono ?_
    rintro e w3 ⟨rfl, hb⟩
    have K3 := hide (K2.out.below hb)
    have F3 := K3.out.1
    simp only [Facts, CellsAt] at F3
    clear RT hb K2 F2
    go_wp2_with fail
    refine (PA.out _ K3.out.bel).mono ?_
    rintro e w4 ⟨rfl, hb⟩
    have K4 := hide (((K3.out.below hb).push (b := w4.heap.size) (cs := [.bool v, .int .u64 h, .int .u64 l]) (t := 26) rfl))
    have F4 := K4.out.1
    simp only [Facts, CellsAt] at F4
    have B4 := hide K4.out.bel
    clear PA hb K3 F3
    go_wp2
    go_ret
    exact ⟨by first | rfl | simp, B4.out⟩
end Go.Proofs.YtgbpnekinbdadaaDoor
