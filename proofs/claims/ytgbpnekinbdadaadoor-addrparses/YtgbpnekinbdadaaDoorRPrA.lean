/-
  Print of the reference of package addr, for any address.
-/
import Derived.Test.YtgbpnekinbdadaaDoorRPr4
import Derived.Test.YtgbpnekinbdadaaDoorRPr6
namespace Go.Proofs.YtgbpnekinbdadaaDoor
open Go.ChangeShapes Go.WideShapes Go.ChangeAt Go.RowKit
set_option linter.unusedVariables false
set_option linter.unusedSimpArgs false

set_option maxHeartbeats 800000 in
theorem rprint02_no {v : Bool} {h l : Int} {a : Nat} (ha : IsNum h l a) (hok : okA v a = false) (w : World) :
    Calls Tryd.prog 11 #[av v h l] w fun e w' => e = .returned (.string (prA v a)) ∧ Below w.heap.size w w' := by
  have RT : Hid (∀ w', Calls Tryd.prog 12 #[av v h l] w' fun e w1 => e = .returned (.bool false) ∧ Below w'.heap.size w' w1) := fun w' => hok ▸ rright_c ha w'
  have PA : Hid (prA v a = ⟨#[]⟩) := by show _ = _; unfold prA; rw [if_neg (by rw [hok]; simp)]
  have K0 : Kn w [(w.heap.size, [.bool v, .int .u64 h, .int .u64 l], 26)] (w.alloc (.cells #[.bool v, .int .u64 h, .int .u64 l] 26)) := (Kn.nil w).push rfl
  clear ha hok
  go_enter Tryd.func11, Tryd.ntmps11
  go_wp2_with fail
  refine (RT.out _).mono ?_
  rintro e w1 ⟨rfl, hb⟩
  have B := (K0.below hb).bel
  clear RT hb K0
  go_wp2
  go_ret
  exact ⟨by rw [PA.out]; rfl, B⟩

theorem rprint02_c {v : Bool} {h l : Int} {a : Nat} (ha : IsNum h l a) (w : World) :
    Calls Tryd.prog 11 #[av v h l] w fun e w' => e = .returned (.string (prA v a)) ∧ Below w.heap.size w w' := by
  by_cases ok : okA v a = true
  · cases v
    · have e : prA false a = prS a := by unfold prA; rw [if_pos ok, if_neg (by decide)]
      rw [e]
      exact rprint02_v4 ha ok w
    · have e : prA true a = prL a := by unfold prA; rw [if_pos ok, if_pos rfl]
      rw [e]
      exact rprint02_v6 ha w
  · exact rprint02_no ha (Bool.eq_false_iff.2 ok) w
end Go.Proofs.YtgbpnekinbdadaaDoor
