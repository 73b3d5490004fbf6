/-
  The walk of the law NumTexts: it returns true for every number and every text.
-/
import Derived.Test.YtegbbankbcojkaaAwake
import Derived.Test.YtegbbankbcojkaaNum3
import Derived.Test.YtegbbankbcojkaaParse2
import Derived.Test.YtegbbankbcojkaaRefParse
import Derived.Test.YtegbbankbcojkaaRefPrint
namespace Go.Proofs.Ytegbbankbcojkaa
open Go.ChangeShapes Go.WideShapes Go.ChangeAt Go.RowKit
set_option linter.unusedVariables false
set_option linter.unusedSimpArgs false

theorem isDec_ex (a : Nat) : ∃ j, IsDec a j := by
  induction a using Nat.strongRecOn with
  | _ a ih =>
    by_cases h : a < 10
    · exact ⟨1, by omega, by simpa using h, by omega⟩
    · obtain ⟨j, p, l, g⟩ := ih (a / 10) (by omega)
      refine ⟨j + 1, by omega, ?_, fun _ => ?_⟩
      · rw [Nat.pow_succ]; omega
      · rw [Nat.add_sub_cancel]
        by_cases h1 : 1 < j
        · have := g h1
          have e : 10 ^ j = 10 ^ (j - 1) * 10 := by rw [← Nat.pow_succ]; congr 1; omega
          omega
        · have : j = 1 := by omega
          subst this; omega

/-- What both Parse functions answer at s. -/
theorem parse_both (s : ByteArray) (hs : s.size ≤ 1000) : ∃ ch cl cf : Int,
    Hid (∀ w, Calls Try.prog 20 #[.string s] w fun e w' => e = .returned (.tuple #[nv ch cl, .int .i64 cf]) ∧ Below w.heap.size w w') ∧
    Hid (∀ w, Calls Try.prog 21 #[.string s] w fun e w' => e = .returned (.tuple #[nv ch cl, .int .i64 cf]) ∧ Below w.heap.size w w') ∧
    (cf = 4 ∨ cf = 11 ∨ cf = 0 ∧ Printed s ∧ IsNum ch cl (valN s s.size)) := by
  by_cases hp : Printed s
  · by_cases hl : 39 < s.size
    · exact ⟨0, 0, 11, fun w => parse_long s hs hp hl w, fun w => rparse_long s hs hp hl w, .inr (.inl rfl)⟩
    · by_cases hv : valN s s.size < 340282366920938463463374607431768211456
      · obtain ⟨h, l, hn⟩ := IsNum.ex (n := valN s s.size) hv
        refine ⟨h, l, 0, fun w => ?_, fun w => ?_, .inr (.inr ⟨rfl, hp, hn⟩)⟩
        · refine (parse_dig s hp (by omega) w).mono ?_
          rintro e w' (⟨h', l', rfl, hn', hb⟩ | ⟨big, _⟩)
          · obtain ⟨rfl, rfl⟩ := hn'.uniq hn
            exact ⟨rfl, hb⟩
          · omega
        · refine (rparse_dig s hp (by omega) w).mono ?_
          rintro e w' (⟨h', l', rfl, hn', hb⟩ | ⟨big, _⟩)
          · obtain ⟨rfl, rfl⟩ := hn'.uniq hn
            exact ⟨rfl, hb⟩
          · omega
      · refine ⟨0, 0, 11, fun w => ?_, fun w => ?_, .inr (.inl rfl)⟩
        · refine (parse_dig s hp (by omega) w).mono ?_
          rintro e w' (⟨h', l', rfl, hn', hb⟩ | ⟨big, rfl, hb⟩)
          · exact absurd hn'.lt hv
          · exact ⟨rfl, hb⟩
        · refine (rparse_dig s hp (by omega) w).mono ?_
          rintro e w' (⟨h', l', rfl, hn', hb⟩ | ⟨big, rfl, hb⟩)
          · exact absurd hn'.lt hv
          · exact ⟨rfl, hb⟩
  · exact ⟨0, 0, 4, fun w => parse_form s hs hp w, fun w => rparse_form s hs hp w, .inl rfl⟩

set_option maxRecDepth 100000 in
set_option maxHeartbeats 4000000 in
theorem texts_walk {ah al : Int} {a : Nat} (ha : IsNum ah al a) (s : ByteArray) (w : World) :
    Calls Try.prog 5 #[nv ah al, .string s] w fun e w' => e = .returned (.bool true) ∧ Below w.heap.size w w' := by
  have la := ha.lt
  by_cases hs : s.size ≤ 1000
  · obtain ⟨j, dec⟩ := isDec_ex a
    have jl := dec.le la
    have tv := text_valN dec.lt
    have tp := text_printed dec
    have ts := text_size a j
    have tu : ∀ k, IsDec a k → strOfNums (lowD a k) = strOfNums (lowD a j) := fun k h => text_uniq h dec
    obtain ⟨t, ht⟩ : ∃ t, strOfNums (lowD a j) = t := ⟨_, rfl⟩
    rw [ht] at tv tp ts tu
    have C1 : Hid (∀ w, Calls Try.prog 19 #[nv ah al] w fun e w' => e = .returned (.string t) ∧ Below w.heap.size w w') := fun w => by
      refine (print_c ha w).mono ?_
      rintro e w' ⟨k, rfl, hd, hb⟩
      exact ⟨by rw [tu k hd], hb⟩
    have C6 : Hid (∀ w, Calls Try.prog 23 #[nv ah al] w fun e w' => e = .returned (.string t) ∧ Below w.heap.size w w') := fun w => by
      refine (rprint_c ha w).mono ?_
      rintro e w' ⟨k, rfl, hd, hb⟩
      exact ⟨by rw [tu k hd], hb⟩
    have C2 : Hid (∀ w, Calls Try.prog 20 #[.string t] w fun e w' => e = .returned (.tuple #[nv ah al, .int .i64 0]) ∧ Below w.heap.size w w') := fun w => by
      refine (parse_dig t tp (by omega) w).mono ?_
      rintro e w' (⟨h', l', rfl, hn', hb⟩ | ⟨big, _⟩)
      · obtain ⟨rfl, rfl⟩ := (hn'.cast tv).uniq ha
        exact ⟨rfl, hb⟩
      · omega
    obtain ⟨ch, cl, cf, C3, C4, HC⟩ := parse_both s hs
    have C7 : Hid (cf = 4 ∨ cf = 11 ∨ cf = 0 ∧ ∀ w, Calls Try.prog 19 #[nv ch cl] w fun e w' => e = .returned (.string s) ∧ Below w.heap.size w w') := by
      rcases HC with h | h | ⟨h, hp, hn⟩
      · exact .inl h
      · exact .inr (.inl h)
      · refine .inr (.inr ⟨h, fun w => ?_⟩)
        refine (print_c hn w).mono ?_
        rintro e w' ⟨k, rfl, hd, hb⟩
        exact ⟨by rw [text_uniq hd (printed_dec hp), printed_back hp], hb⟩
    obtain ⟨n, hn⟩ : ∃ n : Int, smallI ah al = n := ⟨_, rfl⟩
    obtain ⟨ok, hok⟩ : ∃ ok : Bool, (ah == 0) = ok := ⟨_, rfl⟩
    have C5 : Hid (∀ w, Calls Try.prog 22 #[nv ah al] w fun e w' => e = .returned (.tuple #[.int .u64 n, .bool ok]) ∧ Below w.heap.size w w') := fun w => by
      refine (small_c ha w).mono ?_
      rintro e w' ⟨m, rfl, rfl, hb⟩
      exact ⟨by rw [hn, hok], hb⟩
    have HN : Hid (ah = 0 ∧ ok = true ∧ n = al ∨ ¬ ah = 0 ∧ ok = false ∧ n = 0) := by
      by_cases h : ah = 0
      · exact .inl ⟨h, by rw [← hok, h]; rfl, by rw [← hn, smallI, if_pos h]⟩
      · exact .inr ⟨h, by rw [← hok]; simpa using h, by rw [← hn, smallI, if_neg h]⟩
    have hsi : ¬ 1000 < (s.size : Int) := by omega
    have hsd : decide (1000 < (s.size : Int)) = false := by simpa using hsi
    clear hn hok HC ht tu tv tp ts jl dec hs
    go_enter Try.func5, Try.ntmps5
    go_wp2_with fail
    have A : Two (w.alloc (.cells #[.int .u64 ah, .int .u64 al] 24)) w.heap.size ah al := Two.new _ _ _ _
    refine (awake_c _).mono ?_
    rintro e w1 ⟨rfl, hb1⟩
    have hB1 : Below w.heap.size w w1 := by repeat (first | with_reducible exact Below.refl _ _ | with_reducible refine Below.drew ?_ | with_reducible refine Below.alloc ?_ (by first | omega | (simp <;> omega)) _ | with_reducible refine Below.setCell ?_ (by first | omega | (simp <;> omega)) _ | with_reducible refine Below.trans ?_ (Below.mono hb1 (by first | omega | (simp <;> omega))))
    replace A : Two w1 (w.heap.size) ah al := Two.below (by repeat (first | with_reducible exact A | with_reducible refine Two.drew ?_ | with_reducible exact Two.new _ _ _ _ | with_reducible refine Two.alloc ?_ _)) hb1
    try clear A0 A1 A2
    obtain ⟨A0, A1, A2⟩ := id A
    clear hb1
    go_wp2_with fail
    refine (C1.out _).mono ?_
    rintro e w2 ⟨rfl, hb2⟩
    have hB2 : Below w.heap.size w w2 := by repeat (first | with_reducible exact Below.refl _ _ | with_reducible refine Below.drew ?_ | with_reducible refine Below.alloc ?_ (by first | omega | (simp <;> omega)) _ | with_reducible refine Below.setCell ?_ (by first | omega | (simp <;> omega)) _ | with_reducible refine Below.trans ?_ (Below.mono hb2 (by first | omega | (simp <;> omega))) | with_reducible refine Below.trans ?_ (Below.mono hB1 (by first | omega | (simp <;> omega))))
    replace A : Two w2 (w.heap.size) ah al := Two.below (by repeat (first | with_reducible exact A | with_reducible refine Two.drew ?_ | with_reducible exact Two.new _ _ _ _ | with_reducible refine Two.alloc ?_ _)) hb2
    try clear A0 A1 A2
    obtain ⟨A0, A1, A2⟩ := id A
    clear hb2 hB1 C1
    go_wp2_with fail
    refine (C2.out _).mono ?_
    rintro e w3 ⟨rfl, hb3⟩
    have hB3 : Below w.heap.size w w3 := by repeat (first | with_reducible exact Below.refl _ _ | with_reducible refine Below.drew ?_ | with_reducible refine Below.alloc ?_ (by first | omega | (simp <;> omega)) _ | with_reducible refine Below.setCell ?_ (by first | omega | (simp <;> omega)) _ | with_reducible refine Below.trans ?_ (Below.mono hb3 (by first | omega | (simp <;> omega))) | with_reducible refine Below.trans ?_ (Below.mono hB2 (by first | omega | (simp <;> omega))))
    replace A : Two w3 (w.heap.size) ah al := Two.below (by repeat (first | with_reducible exact A | with_reducible refine Two.drew ?_ | with_reducible exact Two.new _ _ _ _ | with_reducible refine Two.alloc ?_ _)) hb3
    try clear A0 A1 A2
    obtain ⟨A0, A1, A2⟩ := id A
    clear hb3 hB2 C2
    go_wp2_with fail
    have X : Two (w3.alloc (.cells #[.int .u64 ah, .int .u64 al] 24)) w3.heap.size ah al := Two.new _ _ _ _
    refine (C3.out _).mono ?_
    rintro e w4 ⟨rfl, hb4⟩
    have hB4 : Below w.heap.size w w4 := by repeat (first | with_reducible exact Below.refl _ _ | with_reducible refine Below.drew ?_ | with_reducible refine Below.alloc ?_ (by first | omega | (simp <;> omega)) _ | with_reducible refine Below.setCell ?_ (by first | omega | (simp <;> omega)) _ | with_reducible refine Below.trans ?_ (Below.mono hb4 (by first | omega | (simp <;> omega))) | with_reducible refine Below.trans ?_ (Below.mono hB3 (by first | omega | (simp <;> omega))))
    replace A : Two w4 (w.heap.size) ah al := Two.below (by repeat (first | with_reducible exact A | with_reducible refine Two.drew ?_ | with_reducible exact Two.new _ _ _ _ | with_reducible refine Two.alloc ?_ _)) hb4
    try clear A0 A1 A2
    obtain ⟨A0, A1, A2⟩ := id A
    replace X : Two w4 (w3.heap.size) ah al := Two.below (by repeat (first | with_reducible exact X | with_reducible refine Two.drew ?_ | with_reducible exact Two.new _ _ _ _ | with_reducible refine Two.alloc ?_ _)) hb4
    try clear X0 X1 X2
    obtain ⟨X0, X1, X2⟩ := id X
    clear hb4 hB3 C3
    go_wp2_with fail
    have Y : Two (w4.alloc (.cells #[.int .u64 ch, .int .u64 cl] 24)) w4.heap.size ch cl := Two.new _ _ _ _
    refine (C4.out _).mono ?_
    rintro e w5 ⟨rfl, hb5⟩
    have hB5 : Below w.heap.size w w5 := by repeat (first | with_reducible exact Below.refl _ _ | with_reducible refine Below.drew ?_ | with_reducible refine Below.alloc ?_ (by first | omega | (simp <;> omega)) _ | with_reducible refine Below.setCell ?_ (by first | omega | (simp <;> omega)) _ | with_reducible refine Below.trans ?_ (Below.mono hb5 (by first | omega | (simp <;> omega))) | with_reducible refine Below.trans ?_ (Below.mono hB4 (by first | omega | (simp <;> omega))))
    replace A : Two w5 (w.heap.size) ah al := Two.below (by repeat (first | with_reducible exact A | with_reducible refine Two.drew ?_ | with_reducible exact Two.new _ _ _ _ | with_reducible refine Two.alloc ?_ _)) hb5
    try clear A0 A1 A2
    obtain ⟨A0, A1, A2⟩ := id A
    replace X : Two w5 (w3.heap.size) ah al := Two.below (by repeat (first | with_reducible exact X | with_reducible refine Two.drew ?_ | with_reducible exact Two.new _ _ _ _ | with_reducible refine Two.alloc ?_ _)) hb5
    try clear X0 X1 X2
    obtain ⟨X0, X1, X2⟩ := id X
    replace Y : Two w5 (w4.heap.size) ch cl := Two.below (by repeat (first | with_reducible exact Y | with_reducible refine Two.drew ?_ | with_reducible exact Two.new _ _ _ _ | with_reducible refine Two.alloc ?_ _)) hb5
    try clear Y0 Y1 Y2
    obtain ⟨Y0, Y1, Y2⟩ := id Y
    clear hb5 hB4 C4
    go_wp2_with fail
    have Z : Two (w5.alloc (.cells #[.int .u64 ch, .int .u64 cl] 24)) w5.heap.size ch cl := Two.new _ _ _ _
    refine (C5.out _).mono ?_
    rintro e w6 ⟨rfl, hb6⟩
    have hB6 : Below w.heap.size w w6 := by repeat (first | with_reducible exact Below.refl _ _ | with_reducible refine Below.drew ?_ | with_reducible refine Below.alloc ?_ (by first | omega | (simp <;> omega)) _ | with_reducible refine Below.setCell ?_ (by first | omega | (simp <;> omega)) _ | with_reducible refine Below.trans ?_ (Below.mono hb6 (by first | omega | (simp <;> omega))) | with_reducible refine Below.trans ?_ (Below.mono hB5 (by first | omega | (simp <;> omega))))
    replace A : Two w6 (w.heap.size) ah al := Two.below (by repeat (first | with_reducible exact A | with_reducible refine Two.drew ?_ | with_reducible exact Two.new _ _ _ _ | with_reducible refine Two.alloc ?_ _)) hb6
    try clear A0 A1 A2
    obtain ⟨A0, A1, A2⟩ := id A
    replace X : Two w6 (w3.heap.size) ah al := Two.below (by repeat (first | with_reducible exact X | with_reducible refine Two.drew ?_ | with_reducible exact Two.new _ _ _ _ | with_reducible refine Two.alloc ?_ _)) hb6
    try clear X0 X1 X2
    obtain ⟨X0, X1, X2⟩ := id X
    replace Y : Two w6 (w4.heap.size) ch cl := Two.below (by repeat (first | with_reducible exact Y | with_reducible refine Two.drew ?_ | with_reducible exact Two.new _ _ _ _ | with_reducible refine Two.alloc ?_ _)) hb6
    try clear Y0 Y1 Y2
    obtain ⟨Y0, Y1, Y2⟩ := id Y
    replace Z : Two w6 (w5.heap.size) ch cl := Two.below (by repeat (first | with_reducible exact Z | with_reducible refine Two.drew ?_ | with_reducible exact Two.new _ _ _ _ | with_reducible refine Two.alloc ?_ _)) hb6
    try clear Z0 Z1 Z2
    obtain ⟨Z0, Z1, Z2⟩ := id Z
    clear hb6 hB5 C5
    go_wp2_with fail
    refine (C6.out _).mono ?_
    rintro e w7 ⟨rfl, hb7⟩
    have hB7 : Below w.heap.size w w7 := by repeat (first | with_reducible exact Below.refl _ _ | with_reducible refine Below.drew ?_ | with_reducible refine Below.alloc ?_ (by first | omega | (simp <;> omega)) _ | with_reducible refine Below.setCell ?_ (by first | omega | (simp <;> omega)) _ | with_reducible refine Below.trans ?_ (Below.mono hb7 (by first | omega | (simp <;> omega))) | with_reducible refine Below.trans ?_ (Below.mono hB6 (by first | omega | (simp <;> omega))))
    replace A : Two w7 (w.heap.size) ah al := Two.below (by repeat (first | with_reducible exact A | with_reducible refine Two.drew ?_ | with_reducible exact Two.new _ _ _ _ | with_reducible refine Two.alloc ?_ _)) hb7
    try clear A0 A1 A2
    obtain ⟨A0, A1, A2⟩ := id A
    replace X : Two w7 (w3.heap.size) ah al := Two.below (by repeat (first | with_reducible exact X | with_reducible refine Two.drew ?_ | with_reducible exact Two.new _ _ _ _ | with_reducible refine Two.alloc ?_ _)) hb7
    try clear X0 X1 X2
    obtain ⟨X0, X1, X2⟩ := id X
    replace Y : Two w7 (w4.heap.size) ch cl := Two.below (by repeat (first | with_reducible exact Y | with_reducible refine Two.drew ?_ | with_reducible exact Two.new _ _ _ _ | with_reducible refine Two.alloc ?_ _)) hb7
    try clear Y0 Y1 Y2
    obtain ⟨Y0, Y1, Y2⟩ := id Y
    replace Z : Two w7 (w5.heap.size) ch cl := Two.below (by repeat (first | with_reducible exact Z | with_reducible refine Two.drew ?_ | with_reducible exact Two.new _ _ _ _ | with_reducible refine Two.alloc ?_ _)) hb7
    try clear Z0 Z1 Z2
    obtain ⟨Z0, Z1, Z2⟩ := id Z
    clear hb7 hB6 C6
    rcases HN.out with ⟨rfl, rfl, rfl⟩ | ⟨h0, rfl, rfl⟩
    · rcases C7.out with rfl | rfl | ⟨rfl, CQ'⟩
      · clear HN C7
        go_wp2
        go_ret
        exact ⟨by first | rfl | simp, hB7⟩
      · clear HN C7
        go_wp2
        go_ret
        exact ⟨by first | rfl | simp, hB7⟩
      · have CQ : Hid (∀ w, Calls Try.prog 19 #[nv ch cl] w fun e w' => e = .returned (.string s) ∧ Below w.heap.size w w') := CQ'
        clear HN C7 CQ'
        go_wp2_with fail
        refine (CQ.out _).mono ?_
        rintro e w8 ⟨rfl, hb8⟩
        have hB8 : Below w.heap.size w w8 := by repeat (first | with_reducible exact Below.refl _ _ | with_reducible refine Below.drew ?_ | with_reducible refine Below.alloc ?_ (by first | omega | (simp <;> omega)) _ | with_reducible refine Below.setCell ?_ (by first | omega | (simp <;> omega)) _ | with_reducible refine Below.trans ?_ (Below.mono hb8 (by first | omega | (simp <;> omega))) | with_reducible refine Below.trans ?_ (Below.mono hB7 (by first | omega | (simp <;> omega))))
        go_wp2
        go_ret
        exact ⟨by first | rfl | simp, hB8⟩
    · have h1 : (ah == 0) = false := by simpa using h0
      rcases C7.out with rfl | rfl | ⟨rfl, CQ'⟩
      · clear HN C7
        go_wp2
        go_ret
        exact ⟨by first | rfl | simp, hB7⟩
      · clear HN C7
        go_wp2
        go_ret
        exact ⟨by first | rfl | simp, hB7⟩
      · have CQ : Hid (∀ w, Calls Try.prog 19 #[nv ch cl] w fun e w' => e = .returned (.string s) ∧ Below w.heap.size w w') := CQ'
        clear HN C7 CQ'
        go_wp2_with fail
        refine (CQ.out _).mono ?_
        rintro e w8 ⟨rfl, hb8⟩
        have hB8 : Below w.heap.size w w8 := by repeat (first | with_reducible exact Below.refl _ _ | with_reducible refine Below.drew ?_ | with_reducible refine Below.alloc ?_ (by first | omega | (simp <;> omega)) _ | with_reducible refine Below.setCell ?_ (by first | omega | (simp <;> omega)) _ | with_reducible refine Below.trans ?_ (Below.mono hb8 (by first | omega | (simp <;> omega))) | with_reducible refine Below.trans ?_ (Below.mono hB7 (by first | omega | (simp <;> omega))))
        go_wp2
        go_ret
        exact ⟨by first | rfl | simp, hB8⟩
  · have hsi : 1000 < (s.size : Int) := by omega
    clear hs
    go_enter Try.func5, Try.ntmps5
    go_wp2_with fail
    refine (awake_c _).mono ?_
    rintro e w1 ⟨rfl, hb1⟩
    have hB1 : Below w.heap.size w w1 := by repeat (first | with_reducible exact Below.refl _ _ | with_reducible refine Below.drew ?_ | with_reducible refine Below.alloc ?_ (by first | omega | (simp <;> omega)) _ | with_reducible refine Below.setCell ?_ (by first | omega | (simp <;> omega)) _ | with_reducible refine Below.trans ?_ (Below.mono hb1 (by first | omega | (simp <;> omega))))
    clear hb1
    go_wp2
    go_ret
    exact ⟨by first | rfl | simp, hB1⟩

end Go.Proofs.Ytegbbankbcojkaa
