/-
  The walk of the law NumSums: it returns true for every two numbers.
-/
import Derived.Test.YtegbbankbcojkaaAwake
import Derived.Test.YtegbbankbcojkaaRefAdd
import Derived.Test.YtegbbankbcojkaaRefSub
import Derived.Test.YtegbbankbcojkaaRefCmp
import Derived.Deep.RegionHeld
import Derived.Outline
namespace Go.Proofs.Ytegbbankbcojkaa
open Go.ChangeShapes Go.WideShapes Go.ChangeAt Go.RowKit
set_option linter.unusedVariables false
set_option linter.unusedSimpArgs false

/-- What the law's last statement reads, and what was below. -/
def SumsAt (w : World) (ah al bh bl xh xl zh zl : Int) (b1 b2 b3 b4 : Nat) (wx : World) : Prop :=
  Two wx w.heap.size ah al ∧ Two wx (w.heap.size + 1) bh bl ∧ Two wx b1 xh xl ∧ Two wx b2 xh xl ∧ Two wx b3 zh zl ∧ Two wx b4 zh zl ∧ Below w.heap.size w wx
theorem SumsAt.below {w W w1 : World} {ah al bh bl xh xl zh zl : Int} {b1 b2 b3 b4 : Nat} (s : SumsAt w ah al bh bl xh xl zh zl b1 b2 b3 b4 W) (hb : Below W.heap.size W w1) : SumsAt w ah al bh bl xh xl zh zl b1 b2 b3 b4 w1 :=
  ⟨s.1.below hb, s.2.1.below hb, s.2.2.1.below hb, s.2.2.2.1.below hb, s.2.2.2.2.1.below hb, s.2.2.2.2.2.1.below hb, s.2.2.2.2.2.2.trans (hb.mono s.2.2.2.2.2.2.size)⟩

theorem SumsAt.drew {w W : World} {ah al bh bl xh xl zh zl : Int} {b1 b2 b3 b4 : Nat} (s : SumsAt w ah al bh bl xh xl zh zl b1 b2 b3 b4 W) : SumsAt w ah al bh bl xh xl zh zl b1 b2 b3 b4 W.drew :=
  ⟨s.1.drew, s.2.1.drew, s.2.2.1.drew, s.2.2.2.1.drew, s.2.2.2.2.1.drew, s.2.2.2.2.2.1.drew, s.2.2.2.2.2.2.drew⟩

set_option maxRecDepth 100000 in
set_option maxHeartbeats 4000000 in
theorem sums_walk {ah al bh bl : Int} {a b : Nat} (ha : IsNum ah al a) (hb : IsNum bh bl b) (w : World) :
    Calls Try.prog 3 #[nv ah al, nv bh bl] w fun e w' => e = .returned (.bool true) ∧ Below w.heap.size w w' := by
  go_enter Try.func3, Try.ntmps3
  go_wp2_with fail
  have A : Two ((w.alloc (.cells #[.int .u64 ah, .int .u64 al] 24)).alloc (.cells #[.int .u64 bh, .int .u64 bl] 24)) w.heap.size ah al := (Two.new _ _ _ _).alloc _
  have B : Two ((w.alloc (.cells #[.int .u64 ah, .int .u64 al] 24)).alloc (.cells #[.int .u64 bh, .int .u64 bl] 24)) (w.heap.size + 1) bh bl := by simpa using Two.new (w.alloc (.cells #[.int .u64 ah, .int .u64 al] 24)) bh bl 24
  refine (awake_c _).mono ?_
  rintro e w1 ⟨rfl, hb1⟩
  have hB1 : Below w.heap.size w w1 := by repeat (first | with_reducible exact Below.refl _ _ | with_reducible refine Below.drew ?_ | with_reducible refine Below.alloc ?_ (by first | omega | (simp <;> omega)) _ | with_reducible refine Below.setCell ?_ (by first | omega | (simp <;> omega)) _ | with_reducible refine Below.trans ?_ (Below.mono hb1 (by first | omega | (simp <;> omega))))
  replace A : Two w1 (w.heap.size) ah al := Two.below (by repeat (first | with_reducible exact A | with_reducible refine Two.drew ?_ | with_reducible exact Two.new _ _ _ _ | with_reducible refine Two.alloc ?_ _)) hb1
  try clear A0 A1 A2
  obtain ⟨A0, A1, A2⟩ := id A
  replace B : Two w1 (w.heap.size + 1) bh bl := Two.below (by repeat (first | with_reducible exact B | with_reducible refine Two.drew ?_ | with_reducible exact Two.new _ _ _ _ | with_reducible refine Two.alloc ?_ _)) hb1
  try clear B0 B1 B2
  obtain ⟨B0, B1, B2⟩ := id B
  clear hb1
  go_wp2_with fail
  refine (add_c ha hb _).mono ?_
  rintro e w2 ⟨xh, xl, rfl, hx, hb2⟩
  have hB2 : Below w.heap.size w w2 := by repeat (first | with_reducible exact Below.refl _ _ | with_reducible refine Below.drew ?_ | with_reducible refine Below.alloc ?_ (by first | omega | (simp <;> omega)) _ | with_reducible refine Below.setCell ?_ (by first | omega | (simp <;> omega)) _ | with_reducible refine Below.trans ?_ (Below.mono hb2 (by first | omega | (simp <;> omega))) | with_reducible refine Below.trans ?_ (Below.mono hB1 (by first | omega | (simp <;> omega))))
  replace A : Two w2 (w.heap.size) ah al := Two.below (by repeat (first | with_reducible exact A | with_reducible refine Two.drew ?_ | with_reducible exact Two.new _ _ _ _ | with_reducible refine Two.alloc ?_ _)) hb2
  try clear A0 A1 A2
  obtain ⟨A0, A1, A2⟩ := id A
  replace B : Two w2 (w.heap.size + 1) bh bl := Two.below (by repeat (first | with_reducible exact B | with_reducible refine Two.drew ?_ | with_reducible exact Two.new _ _ _ _ | with_reducible refine Two.alloc ?_ _)) hb2
  try clear B0 B1 B2
  obtain ⟨B0, B1, B2⟩ := id B
  obtain ⟨ok, hok⟩ : ∃ ok : Bool, decide (a + b < 340282366920938463463374607431768211456) = ok := ⟨_, rfl⟩
  rw [hok]
  have HOK : Hid (decide (a + b < 340282366920938463463374607431768211456) = ok) := hok
  clear hb2 hB1 hok
  go_wp2_with fail
  have X : Two (w2.alloc (.cells #[.int .u64 xh, .int .u64 xl] 24)) w2.heap.size xh xl := Two.new _ _ _ _
  refine (radd_c ha hb _).mono ?_
  rintro e w3 ⟨yh, yl, t, rfl, hy, ht, hb3⟩
  obtain ⟨rfl, rfl⟩ := hy.uniq hx
  obtain rfl : t = ok := ht.out.trans HOK.out
  have hB3 : Below w.heap.size w w3 := by repeat (first | with_reducible exact Below.refl _ _ | with_reducible refine Below.drew ?_ | with_reducible refine Below.alloc ?_ (by first | omega | (simp <;> omega)) _ | with_reducible refine Below.setCell ?_ (by first | omega | (simp <;> omega)) _ | with_reducible refine Below.trans ?_ (Below.mono hb3 (by first | omega | (simp <;> omega))) | with_reducible refine Below.trans ?_ (Below.mono hB2 (by first | omega | (simp <;> omega))))
  replace A : Two w3 (w.heap.size) ah al := Two.below (by repeat (first | with_reducible exact A | with_reducible refine Two.drew ?_ | with_reducible exact Two.new _ _ _ _ | with_reducible refine Two.alloc ?_ _)) hb3
  try clear A0 A1 A2
  obtain ⟨A0, A1, A2⟩ := id A
  replace B : Two w3 (w.heap.size + 1) bh bl := Two.below (by repeat (first | with_reducible exact B | with_reducible refine Two.drew ?_ | with_reducible exact Two.new _ _ _ _ | with_reducible refine Two.alloc ?_ _)) hb3
  try clear B0 B1 B2
  obtain ⟨B0, B1, B2⟩ := id B
  replace X : Two w3 (w2.heap.size) yh yl := Two.below (by repeat (first | with_reducible exact X | with_reducible refine Two.drew ?_ | with_reducible exact Two.new _ _ _ _ | with_reducible refine Two.alloc ?_ _)) hb3
  try clear X0 X1 X2
  obtain ⟨X0, X1, X2⟩ := id X
  clear hb3 hB2 HOK ht hx hy
  go_wp2_with fail
  have Y : Two (w3.alloc (.cells #[.int .u64 yh, .int .u64 yl] 24)) w3.heap.size yh yl := Two.new _ _ _ _
  refine (sub_c ha hb _).mono ?_
  rintro e w4 ⟨zh, zl, rfl, hz, hb4⟩
  have hB4 : Below w.heap.size w w4 := by repeat (first | with_reducible exact Below.refl _ _ | with_reducible refine Below.drew ?_ | with_reducible refine Below.alloc ?_ (by first | omega | (simp <;> omega)) _ | with_reducible refine Below.setCell ?_ (by first | omega | (simp <;> omega)) _ | with_reducible refine Below.trans ?_ (Below.mono hb4 (by first | omega | (simp <;> omega))) | with_reducible refine Below.trans ?_ (Below.mono hB3 (by first | omega | (simp <;> omega))))
  replace A : Two w4 (w.heap.size) ah al := Two.below (by repeat (first | with_reducible exact A | with_reducible refine Two.drew ?_ | with_reducible exact Two.new _ _ _ _ | with_reducible refine Two.alloc ?_ _)) hb4
  try clear A0 A1 A2
  obtain ⟨A0, A1, A2⟩ := id A
  replace B : Two w4 (w.heap.size + 1) bh bl := Two.below (by repeat (first | with_reducible exact B | with_reducible refine Two.drew ?_ | with_reducible exact Two.new _ _ _ _ | with_reducible refine Two.alloc ?_ _)) hb4
  try clear B0 B1 B2
  obtain ⟨B0, B1, B2⟩ := id B
  replace X : Two w4 (w2.heap.size) yh yl := Two.below (by repeat (first | with_reducible exact X | with_reducible refine Two.drew ?_ | with_reducible exact Two.new _ _ _ _ | with_reducible refine Two.alloc ?_ _)) hb4
  try clear X0 X1 X2
  obtain ⟨X0, X1, X2⟩ := id X
  replace Y : Two w4 (w3.heap.size) yh yl := Two.below (by repeat (first | with_reducible exact Y | with_reducible refine Two.drew ?_ | with_reducible exact Two.new _ _ _ _ | with_reducible refine Two.alloc ?_ _)) hb4
  try clear Y0 Y1 Y2
  obtain ⟨Y0, Y1, Y2⟩ := id Y
  obtain ⟨may, hmay⟩ : ∃ may : Bool, decide (b ≤ a) = may := ⟨_, rfl⟩
  rw [hmay]
  have HMAY : Hid (decide (b ≤ a) = may) := hmay
  clear hb4 hB3 hmay
  go_wp2_with fail
  have Z : Two (w4.alloc (.cells #[.int .u64 zh, .int .u64 zl] 24)) w4.heap.size zh zl := Two.new _ _ _ _
  refine (rsub_c ha hb _).mono ?_
  rintro e w5 ⟨vh, vl, s, rfl, hv, hs, hb5⟩
  obtain ⟨rfl, rfl⟩ := hv.uniq hz
  obtain rfl : s = may := hs.out.trans HMAY.out
  have hB5 : Below w.heap.size w w5 := by repeat (first | with_reducible exact Below.refl _ _ | with_reducible refine Below.drew ?_ | with_reducible refine Below.alloc ?_ (by first | omega | (simp <;> omega)) _ | with_reducible refine Below.setCell ?_ (by first | omega | (simp <;> omega)) _ | with_reducible refine Below.trans ?_ (Below.mono hb5 (by first | omega | (simp <;> omega))) | with_reducible refine Below.trans ?_ (Below.mono hB4 (by first | omega | (simp <;> omega))))
  replace A : Two w5 (w.heap.size) ah al := Two.below (by repeat (first | with_reducible exact A | with_reducible refine Two.drew ?_ | with_reducible exact Two.new _ _ _ _ | with_reducible refine Two.alloc ?_ _)) hb5
  try clear A0 A1 A2
  obtain ⟨A0, A1, A2⟩ := id A
  replace B : Two w5 (w.heap.size + 1) bh bl := Two.below (by repeat (first | with_reducible exact B | with_reducible refine Two.drew ?_ | with_reducible exact Two.new _ _ _ _ | with_reducible refine Two.alloc ?_ _)) hb5
  try clear B0 B1 B2
  obtain ⟨B0, B1, B2⟩ := id B
  replace X : Two w5 (w2.heap.size) yh yl := Two.below (by repeat (first | with_reducible exact X | with_reducible refine Two.drew ?_ | with_reducible exact Two.new _ _ _ _ | with_reducible refine Two.alloc ?_ _)) hb5
  try clear X0 X1 X2
  obtain ⟨X0, X1, X2⟩ := id X
  replace Y : Two w5 (w3.heap.size) yh yl := Two.below (by repeat (first | with_reducible exact Y | with_reducible refine Two.drew ?_ | with_reducible exact Two.new _ _ _ _ | with_reducible refine Two.alloc ?_ _)) hb5
  try clear Y0 Y1 Y2
  obtain ⟨Y0, Y1, Y2⟩ := id Y
  replace Z : Two w5 (w4.heap.size) vh vl := Two.below (by repeat (first | with_reducible exact Z | with_reducible refine Two.drew ?_ | with_reducible exact Two.new _ _ _ _ | with_reducible refine Two.alloc ?_ _)) hb5
  try clear Z0 Z1 Z2
  obtain ⟨Z0, Z1, Z2⟩ := id Z
  clear hb5 hB4 HMAY hs hz hv
  go_wp2_with fail
  have V : Two (w5.alloc (.cells #[.int .u64 vh, .int .u64 vl] 24)) w5.heap.size vh vl := Two.new _ _ _ _
  have S0 : SumsAt w ah al bh bl yh yl vh vl w2.heap.size w3.heap.size w4.heap.size w5.heap.size (w5.alloc (.cells #[.int .u64 vh, .int .u64 vl] 24)) := ⟨A.alloc _, B.alloc _, X.alloc _, Y.alloc _, Z.alloc _, V, hB5.alloc (Nat.le_of_lt A2) _⟩
  obtain ⟨n, hn⟩ : ∃ n : Int, n = cmpI (a : Int) (b : Int) := ⟨_, rfl⟩
  have C1 : Hid (∀ w, Calls Try.prog 12 #[nv ah al, nv bh bl] w fun e w' => e = .returned (.int .i64 n) ∧ Below w.heap.size w w') := fun w => by
    refine (cmp_c ha hb w).mono ?_
    rintro e w' ⟨m, rfl, hm, hb'⟩
    exact ⟨by rw [hm, hn], hb'⟩
  have C2 : Hid (∀ w, Calls Try.prog 13 #[nv ah al, nv bh bl] w fun e w' => e = .returned (.int .i64 n) ∧ Below w.heap.size w w') := fun w => by
    refine (rcmp_c ha hb w).mono ?_
    rintro e w' ⟨m, rfl, hm, hb'⟩
    exact ⟨by rw [hm.out, hn], hb'⟩
  clear hn A A0 A1 A2 B B0 B1 B2 X X0 X1 X2 Y Y0 Y1 Y2 Z Z0 Z1 Z2 V hB5
  refine wp_region_held_drew (S := (SumsAt w ah al bh bl yh yl vh vl w2.heap.size w3.heap.size w4.heap.size w5.heap.size)) (by kernel_rfl) ?hS0 (fun hHeld => ?rest0)
  case hS0 => (first | exact S0.drew | exact hHeld.below hb6)
  refine wpAnyH_take (i := 0) (oi := _) (v := ?v1) (List.getElem?_toArray.trans rfl) (by kernel_rfl) (by kernel_rfl) (by kernel_rfl) (fun _ _ _ h => h) (Or.inl ⟨by rfl, ?hy1⟩) (by assumption) ?rest1
  case hy1 => (intro wq hSw; (try simp only [Two, SumsAt] at hSw); go_simp; try with_reducible rfl)
  try simp only [Act.put, List.setIfInBounds_toArray, List.set_cons_zero, List.set_cons_succ]
  refine wpAnyH_take (i := 1) (oi := _) (v := ?v2) (List.getElem?_toArray.trans rfl) (by kernel_rfl) (by kernel_rfl) (by kernel_rfl) (fun _ _ _ h => h) (Or.inl ⟨by rfl, ?hy2⟩) (by assumption) ?rest2
  case hy2 => (intro wq hSw; (try simp only [Two, SumsAt] at hSw); go_simp; try with_reducible rfl)
  try simp only [Act.put, List.setIfInBounds_toArray, List.set_cons_zero, List.set_cons_succ]
  refine wpAnyH_take (i := 2) (oi := _) (v := ?v3) (List.getElem?_toArray.trans rfl) (by kernel_rfl) (by kernel_rfl) (by kernel_rfl) (fun _ _ _ h => h) (Or.inl ⟨by rfl, ?hy3⟩) (by assumption) ?rest3
  case hy3 => (intro wq hSw; (try simp only [Two, SumsAt] at hSw); go_simp; try with_reducible rfl)
  try simp only [Act.put, List.setIfInBounds_toArray, List.set_cons_zero, List.set_cons_succ]
  refine wpAnyH_take (i := 3) (oi := _) (v := ?v4) (List.getElem?_toArray.trans rfl) (by kernel_rfl) (by kernel_rfl) (by kernel_rfl) (fun _ _ _ h => h) (Or.inl ⟨by rfl, ?hy4⟩) (by assumption) ?rest4
  case hy4 => (intro wq hSw; (try simp only [Two, SumsAt] at hSw); go_simp; try with_reducible rfl)
  try simp only [Act.put, List.setIfInBounds_toArray, List.set_cons_zero, List.set_cons_succ]
  refine wpAnyH_take (i := 4) (oi := _) (v := ?v5) (List.getElem?_toArray.trans rfl) (by kernel_rfl) (by kernel_rfl) (by kernel_rfl) (fun _ _ _ h => h) (Or.inl ⟨by rfl, ?hy5⟩) (by assumption) ?rest5
  case hy5 => (intro wq hSw; (try simp only [Two, SumsAt] at hSw); go_simp; try with_reducible rfl)
  try simp only [Act.put, List.setIfInBounds_toArray, List.set_cons_zero, List.set_cons_succ]
  refine wpAnyH_take (i := 5) (oi := _) (v := ?v6) (List.getElem?_toArray.trans rfl) (by kernel_rfl) (by kernel_rfl) (by kernel_rfl) (fun _ _ _ h => h) (Or.inl ⟨by rfl, ?hy6⟩) (by assumption) ?rest6
  case hy6 => (intro wq hSw; (try simp only [Two, SumsAt] at hSw); go_simp; try with_reducible rfl)
  try simp only [Act.put, List.setIfInBounds_toArray, List.set_cons_zero, List.set_cons_succ]
  refine wpAnyH_take (i := 6) (oi := _) (v := ?v7) (List.getElem?_toArray.trans rfl) (by kernel_rfl) (by kernel_rfl) (by kernel_rfl) (fun _ _ _ h => h) (Or.inl ⟨by rfl, ?hy7⟩) (by assumption) ?rest7
  case hy7 => (intro wq hSw; (try simp only [Two, SumsAt] at hSw); go_simp; try with_reducible rfl)
  try simp only [Act.put, List.setIfInBounds_toArray, List.set_cons_zero, List.set_cons_succ]
  refine wpAnyH_take (i := 7) (oi := _) (v := ?v8) (List.getElem?_toArray.trans rfl) (by kernel_rfl) (by kernel_rfl) (by kernel_rfl) (fun _ _ _ h => h) (Or.inl ⟨by rfl, ?hy8⟩) (by assumption) ?rest8
  case hy8 => (intro wq hSw; (try simp only [Two, SumsAt] at hSw); go_simp; try with_reducible rfl)
  try simp only [Act.put, List.setIfInBounds_toArray, List.set_cons_zero, List.set_cons_succ]
  refine wpAnyH_take (i := 8) (oi := _) (v := ?v9) (List.getElem?_toArray.trans rfl) (by kernel_rfl) (by kernel_rfl) (by kernel_rfl) (fun _ _ _ h => h) (Or.inl ⟨by rfl, ?hy9⟩) (by assumption) ?rest9
  case hy9 => (intro wq hSw; (try simp only [Two, SumsAt] at hSw); go_simp; try with_reducible rfl)
  try simp only [Act.put, List.setIfInBounds_toArray, List.set_cons_zero, List.set_cons_succ]
  refine wpAnyH_take (i := 9) (oi := _) (v := ?v10) (List.getElem?_toArray.trans rfl) (by kernel_rfl) (by kernel_rfl) (by kernel_rfl) (fun _ _ _ h => h) (Or.inl ⟨by rfl, ?hy10⟩) (by assumption) ?rest10
  case hy10 => (intro wq hSw; (try simp only [Two, SumsAt] at hSw); go_simp; try with_reducible rfl)
  try simp only [Act.put, List.setIfInBounds_toArray, List.set_cons_zero, List.set_cons_succ]
  refine wpAnyH_take (i := 10) (oi := _) (v := ?v11) (List.getElem?_toArray.trans rfl) (by kernel_rfl) (by kernel_rfl) (by kernel_rfl) (fun _ _ _ h => h) (Or.inl ⟨by rfl, ?hy11⟩) (by assumption) ?rest11
  case hy11 => (intro wq hSw; (try simp only [Two, SumsAt] at hSw); go_simp; try with_reducible rfl)
  try simp only [Act.put, List.setIfInBounds_toArray, List.set_cons_zero, List.set_cons_succ]
  refine wpAnyH_take (i := 11) (oi := _) (v := ?v12) (List.getElem?_toArray.trans rfl) (by kernel_rfl) (by kernel_rfl) (by kernel_rfl) (fun _ _ _ h => h) (Or.inl ⟨by rfl, ?hy12⟩) (by assumption) ?rest12
  case hy12 => (intro wq hSw; (try simp only [Two, SumsAt] at hSw); go_simp; try with_reducible rfl)
  try simp only [Act.put, List.setIfInBounds_toArray, List.set_cons_zero, List.set_cons_succ]
  refine wpAnyH_take (i := 12) (oi := _) (v := ?v13) (List.getElem?_toArray.trans rfl) (by kernel_rfl) (by kernel_rfl) (by kernel_rfl) (fun _ _ _ h => h) (Or.inl ⟨by rfl, ?hy13⟩) (by assumption) ?rest13
  case hy13 => (intro wq hSw; (try simp only [Two, SumsAt] at hSw); go_simp; try with_reducible rfl)
  try simp only [Act.put, List.setIfInBounds_toArray, List.set_cons_zero, List.set_cons_succ]
  refine wpAnyH_take (i := 13) (oi := _) (v := ?v14) (List.getElem?_toArray.trans rfl) (by kernel_rfl) (by kernel_rfl) (by kernel_rfl) (fun _ _ _ h => h) (Or.inl ⟨by rfl, ?hy14⟩) (by assumption) ?rest14
  case hy14 => (intro wq hSw; (try simp only [Two, SumsAt] at hSw); go_simp; try with_reducible rfl)
  try simp only [Act.put, List.setIfInBounds_toArray, List.set_cons_zero, List.set_cons_succ]
  refine wpAnyH_take (i := 14) (oi := _) (v := ?v15) (List.getElem?_toArray.trans rfl) (by kernel_rfl) (by kernel_rfl) (by kernel_rfl) (fun _ _ _ h => h) (Or.inl ⟨by rfl, ?hy15⟩) (by assumption) ?rest15
  case hy15 => (intro wq hSw; (try simp only [Two, SumsAt] at hSw); go_simp; try with_reducible rfl)
  try simp only [Act.put, List.setIfInBounds_toArray, List.set_cons_zero, List.set_cons_succ]
  refine wpAnyH_take (i := 15) (oi := _) (v := ?v16) (List.getElem?_toArray.trans rfl) (by kernel_rfl) (by kernel_rfl) (by kernel_rfl) (fun _ _ _ h => h) (Or.inl ⟨by rfl, ?hy16⟩) (by assumption) ?rest16
  case hy16 => (intro wq hSw; (try simp only [Two, SumsAt] at hSw); go_simp; try with_reducible rfl)
  try simp only [Act.put, List.setIfInBounds_toArray, List.set_cons_zero, List.set_cons_succ]
  refine wpAnyH_take (i := 16) (oi := _) (v := ?v17) (List.getElem?_toArray.trans rfl) (by kernel_rfl) (by kernel_rfl) (by kernel_rfl) (fun _ _ _ h => h) (Or.inl ⟨by rfl, ?hy17⟩) (by assumption) ?rest17
  case hy17 => (intro wq hSw; (try simp only [Two, SumsAt] at hSw); go_simp; try with_reducible rfl)
  try simp only [Act.put, List.setIfInBounds_toArray, List.set_cons_zero, List.set_cons_succ]
  refine wpAnyH_take (i := 17) (oi := _) (v := ?v18) (List.getElem?_toArray.trans rfl) (by kernel_rfl) (by kernel_rfl) (by kernel_rfl) (fun _ _ _ h => h) (Or.inl ⟨by rfl, ?hy18⟩) (by assumption) ?rest18
  case hy18 => (intro wq hSw; (try simp only [Two, SumsAt] at hSw); go_simp; try with_reducible rfl)
  try simp only [Act.put, List.setIfInBounds_toArray, List.set_cons_zero, List.set_cons_succ]
  refine wpAnyH_take (i := 18) (oi := _) (v := ?v19) (List.getElem?_toArray.trans rfl) (by kernel_rfl) (by kernel_rfl) (by kernel_rfl) (fun _ _ _ h => h) (Or.inl ⟨by rfl, ?hy19⟩) (by assumption) ?rest19
  case hy19 => (intro wq hSw; (try simp only [Two, SumsAt] at hSw); go_simp; try with_reducible rfl)
  try simp only [Act.put, List.setIfInBounds_toArray, List.set_cons_zero, List.set_cons_succ]
  refine wpAnyH_take (i := 19) (oi := _) (v := ?v20) (List.getElem?_toArray.trans rfl) (by kernel_rfl) (by kernel_rfl) (by kernel_rfl) (fun _ _ _ h => h) (Or.inl ⟨by rfl, ?hy20⟩) (by assumption) ?rest20
  case hy20 => (intro wq hSw; (try simp only [Two, SumsAt] at hSw); go_simp; try with_reducible rfl)
  try simp only [Act.put, List.setIfInBounds_toArray, List.set_cons_zero, List.set_cons_succ]
  refine wpAnyH_take (i := 20) (oi := _) (v := ?v21) (List.getElem?_toArray.trans rfl) (by kernel_rfl) (by kernel_rfl) (by kernel_rfl) (fun _ _ _ h => h) (Or.inl ⟨by rfl, ?hy21⟩) (by assumption) ?rest21
  case hy21 => (intro wq hSw; (try simp only [Two, SumsAt] at hSw); go_simp; try with_reducible rfl)
  try simp only [Act.put, List.setIfInBounds_toArray, List.set_cons_zero, List.set_cons_succ]
  refine wpAnyH_take (i := 22) (oi := _) (v := ?v22) (List.getElem?_toArray.trans rfl) (by kernel_rfl) (by kernel_rfl) (by kernel_rfl) (fun _ _ _ h => h) (Or.inl ⟨by rfl, ?hy22⟩) (by assumption) ?rest22
  case hy22 => (intro wq hSw; (try simp only [Two, SumsAt] at hSw); go_simp; try with_reducible rfl)
  try simp only [Act.put, List.setIfInBounds_toArray, List.set_cons_zero, List.set_cons_succ]
  refine wpAnyH_take (i := 23) (oi := _) (v := ?v23) (List.getElem?_toArray.trans rfl) (by kernel_rfl) (by kernel_rfl) (by kernel_rfl) (fun _ _ _ h => h) (Or.inl ⟨by rfl, ?hy23⟩) (by assumption) ?rest23
  case hy23 => (intro wq hSw; (try simp only [Two, SumsAt] at hSw); go_simp; try with_reducible rfl)
  try simp only [Act.put, List.setIfInBounds_toArray, List.set_cons_zero, List.set_cons_succ]
  refine wpAnyH_ready (rs := [21]) (by kernel_rfl) (by simp) ?rdy24
  refine AllReadyH.cons (List.getElem?_toArray.trans rfl) (fun K hK => ?stp24) AllReadyH.nil
  go_simp
  go_wp2_with fail
  (refine (C1.out _).mono ?_; rintro e w6 ⟨rfl, hb6⟩)
  go_wp2_with fail
  refine hK.out _ _ ?hSn24 (fun hHeld2 => ?rest24)
  case hSn24 => (first | exact S0.drew | exact hHeld.below hb6)
  clear hK K hHeld
  have hHeld := hHeld2
  clear hHeld2
  try simp only [Act.put, List.setIfInBounds_toArray, List.set_cons_zero, List.set_cons_succ]
  refine wpAnyH_ready (rs := [24]) (by kernel_rfl) (by simp) ?rdy25
  refine AllReadyH.cons (List.getElem?_toArray.trans rfl) (fun K hK => ?stp25) AllReadyH.nil
  go_simp
  go_wp2_with fail
  (refine (C2.out _).mono ?_; rintro e w6 ⟨rfl, hb6⟩)
  go_wp2_with fail
  refine hK.out _ _ ?hSn25 (fun hHeld2 => ?rest25)
  case hSn25 => (first | exact S0.drew | exact hHeld.below hb6)
  clear hK K hHeld
  have hHeld := hHeld2
  clear hHeld2
  try simp only [Act.put, List.setIfInBounds_toArray, List.set_cons_zero, List.set_cons_succ]
  refine wpAnyH_take (i := 25) (oi := _) (v := ?v26) (List.getElem?_toArray.trans rfl) (by kernel_rfl) (by kernel_rfl) (by kernel_rfl) (fun _ _ _ h => h) (Or.inl ⟨by rfl, ?hy26⟩) (by assumption) ?rest26
  case hy26 => (intro wq hSw; (try simp only [Two, SumsAt] at hSw); go_simp; try with_reducible rfl)
  try simp only [Act.put, List.setIfInBounds_toArray, List.set_cons_zero, List.set_cons_succ]
  refine wpAnyH_take (i := 26) (oi := _) (v := ?v27) (List.getElem?_toArray.trans rfl) (by kernel_rfl) (by kernel_rfl) (by kernel_rfl) (fun _ _ _ h => h) (Or.inl ⟨by rfl, ?hy27⟩) (by assumption) ?rest27
  case hy27 => (intro wq hSw; (try simp only [Two, SumsAt] at hSw); go_simp; try with_reducible rfl)
  try simp only [Act.put, List.setIfInBounds_toArray, List.set_cons_zero, List.set_cons_succ]
  refine wpAnyH_take (i := 27) (oi := _) (v := ?v28) (List.getElem?_toArray.trans rfl) (by kernel_rfl) (by kernel_rfl) (by kernel_rfl) (fun _ _ _ h => h) (Or.inl ⟨by rfl, ?hy28⟩) (by assumption) ?rest28
  case hy28 => (intro wq hSw; (try simp only [Two, SumsAt] at hSw); go_simp; try with_reducible rfl)
  try simp only [Act.put, List.setIfInBounds_toArray, List.set_cons_zero, List.set_cons_succ]
  refine wpAnyH_done (by kernel_rfl) ?fin _
  go_wp2
  go_ret
  exact ⟨by first | rfl | simp, hHeld.2.2.2.2.2.2⟩
end Go.Proofs.Ytegbbankbcojkaa
