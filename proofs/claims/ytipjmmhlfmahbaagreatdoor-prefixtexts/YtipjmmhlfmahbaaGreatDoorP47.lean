/-
  Texts PTx of the proof.
-/
import Derived.Test.YtipjmmhlfmahbaaGreatDoorP46
import Derived.Test.YtipjmmhlfmahbaaGreatDoorP43
import Derived.Test.YtipjmmhlfmahbaaGreatDoorP44
import Derived.Test.YtipjmmhlfmahbaaGreatDoorP42

namespace Go.Proofs.YtipjmmhlfmahbaaGreatDoor
open Go.ChangeShapes Go.WideShapes Go.ChangeAt Go.RowKit
set_option linter.unusedVariables false
set_option linter.unusedSimpArgs false

set_option maxRecDepth 100000 in
set_option maxHeartbeats 3200000 in
theorem ptexts_walk {v : Bool} {h l b : Int} {a : Nat} (ha : IsNum h l a) (s : ByteArray) (w : World) (hL : LW w) :
    Calls Tryz.prog 3 #[pv v h l b, .string s] w fun e w' => e = .returned (.bool true) ∧ Below w.heap.size w w' := by
  have hz := hL.sz
  have K : Kn w [(w.heap.size, [.bool v, .int .u64 h, .int .u64 l, .int .i64 b], 28)] (w.alloc (.cells #[.bool v, .int .u64 h, .int .u64 l, .int .i64 b] 28)) := (Kn.nil w).push rfl
  have Lx := hide (fun W (hb : Below w.heap.size w W) => hL.of hb hz)
  have AW := hide (awake3_c _ (hL.of K.bel hz))
  have PR := hide (fun w' hb => pprint_c (v := v) (b := b) ha w' (Lx.out w' hb))
  have RP := hide (fun w' => rprint03_c (v := v) (b := b) ha w')
  have RT := hide (fun w' => rpright_c (v := v) (b := b) ha w')
  have KH := hide K
  by_cases hs : s.size ≤ 1000
  · have PA := hide (fun w' hb => pparse_c s (Nat.le_trans hs (by omega)) w' (Lx.out w' hb))
    have RA := hide (fun w' => rpparse_c s hs w')
    have hs' : ¬ (s.size : Int) > 1000 := by omega
    have PB : Hid (okP v a b = true → ∀ w', Below w.heap.size w w' → Calls Tryz.prog 5 #[.string (prP v a b)] w' fun e w1 => e = .returned (.tuple #[pv v h l b, .int .i64 0]) ∧ Below w'.heap.size w' w1) := fun ok w' hb => by
      have bb := (fitsB_parts (okP_parts ok).1).2.1
      exact pparse_is (prP v a b) (Nat.le_trans (prP_size v a b) (by omega)) (Or.inl ⟨a, b.toNat, parse_printP ha.lt ok, ha, by omega, rfl⟩) w' (Lx.out w' hb)
    have PE : Hid (okP v a b = false → prP v a b = ⟨#[]⟩) := fun ok => by unfold prP; rw [if_neg (by rw [ok]; simp)]
    obtain ⟨S, hS⟩ : ∃ S, prP v a b = S := ⟨_, rfl⟩
    obtain ⟨ok, hok⟩ : ∃ ok, okP v a b = ok := ⟨_, rfl⟩
    rw [hS] at PR RP PB PE
    rw [hok] at RT PB PE
    clear hL hz hs Lx K hS hok ha
    go_enter Tryz.func3, Tryz.ntmps3
    go_wp2_with fail
    refine AW.out.mono ?_
    rintro e w0 ⟨rfl, hb⟩
    have K0 := hide (KH.out.below hb)
    have F0 := K0.out.1
    simp only [Facts, CellsAt] at F0
    clear AW hb KH
    go_wp2_with fail
    refine (PA.out _ K0.out.bel).mono ?_
    rintro e w1 ⟨v1, h1, l1, b1, c1, rfl, hp, hb⟩
    have K1 := hide ((K0.out.below hb).push (b := w1.heap.size) (cs := [.bool v1, .int .u64 h1, .int .u64 l1, .int .i64 b1]) (t := 28) rfl)
    have F1 := K1.out.1
    simp only [Facts, CellsAt] at F1
    clear PA hb K0 F0
    go_wp2_with fail
    refine (RA.out _).mono ?_
    rintro e w2 ⟨v2, h2, l2, b2, c2, rfl, hp', hb⟩
    obtain ⟨rfl, rfl, rfl, rfl, rfl⟩ := hp.out.uniq hp'.out
    have K2 := hide ((K1.out.below hb).push (b := w2.heap.size) (cs := [.bool v1, .int .u64 h1, .int .u64 l1, .int .i64 b1]) (t := 28) rfl)
    have F2 := K2.out.1
    simp only [Facts, CellsAt] at F2
    clear RA hb K1 F1 hp hp'
    go_wp2_with fail
    refine (PR.out _ K2.out.bel).mono ?_
    rintro e w3 ⟨rfl, hb⟩
    have K3 := hide (K2.out.below hb)
    have F3 := K3.out.1
    simp only [Facts, CellsAt] at F3
    clear PR hb K2 F2
    go_wp2_with fail
    refine (RP.out _).mono ?_
    rintro e w4 ⟨rfl, hb⟩
    have K4 := hide (K3.out.below hb)
    have F4 := K4.out.1
    simp only [Facts, CellsAt] at F4
    clear RP hb K3 F3
    go_wp2_with fail
    refine (RT.out _).mono ?_
    rintro e w5 ⟨rfl, hb⟩
    have K5 := hide (K4.out.below hb)
    have F5 := K5.out.1
    simp only [Facts, CellsAt] at F5
    clear RT hb K4 F4
    cases ok with
    | false =>
      have e0 := PE.out rfl
      subst e0
      have B5 := hide K5.out.bel
      clear PB PE K5 F5
      go_wp2
      go_ret
      exact ⟨by first | rfl | simp, B5.out⟩
    | true =>
      have PQ := hide (PB.out rfl)
      clear PB PE
      go_wp2_with fail
      refine (PQ.out _ K5.out.bel).mono ?_
      rintro e w6 ⟨rfl, hb⟩
      have K6 := hide ((K5.out.below hb).push (b := w6.heap.size) (cs := [.bool v, .int .u64 h, .int .u64 l, .int .i64 b]) (t := 28) rfl)
      have F6 := K6.out.1
      simp only [Facts, CellsAt] at F6
      have B6 := hide K6.out.bel
      clear PQ hb K5 F5
      go_wp2
      go_ret
      exact ⟨by first | rfl | simp, B6.out⟩
  · have hs' : (s.size : Int) > 1000 := by omega
    clear hL hz hs Lx K PR RP RT
    go_enter Tryz.func3, Tryz.ntmps3
    go_wp2_with fail
    refine AW.out.mono ?_
    rintro e w0 ⟨rfl, hb⟩
    have B0 := hide (KH.out.below hb).bel
    clear AW hb KH
    go_wp2
    go_ret
    exact ⟨by first | rfl | simp, B0.out⟩
end Go.Proofs.YtipjmmhlfmahbaaGreatDoor
