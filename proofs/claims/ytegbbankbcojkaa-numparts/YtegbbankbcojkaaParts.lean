/-
  The walk of the law NumParts: it returns true for every number and every word.
-/
import Derived.Test.YtegbbankbcojkaaAwake
import Derived.Test.YtegbbankbcojkaaRefOver
import Derived.Deep.RegionHeld
import Derived.Deep.DeepCutAuto
namespace Go.Proofs.Ytegbbankbcojkaa
open Go.ChangeShapes Go.WideShapes Go.ChangeAt Go.RowKit
set_option linter.unusedVariables false
set_option linter.unusedSimpArgs false

/-- What the last statements read, and what was below. -/
def PartsAt (w : World) (bz : Nat) (ah al zh zl : Int) (wx : World) : Prop := Two wx w.heap.size ah al ∧ Two wx bz zh zl ∧ Below w.heap.size w wx
theorem PartsAt.below {w W w1 : World} {bz : Nat} {ah al zh zl : Int} (s : PartsAt w bz ah al zh zl W) (hb : Below W.heap.size W w1) : PartsAt w bz ah al zh zl w1 :=
  ⟨s.1.below hb, s.2.1.below hb, s.2.2.trans (hb.mono s.2.2.size)⟩
theorem PartsAt.alloc {w W : World} {bz : Nat} {ah al zh zl : Int} (s : PartsAt w bz ah al zh zl W) (o : Obj) : PartsAt w bz ah al zh zl (W.alloc o) :=
  ⟨s.1.alloc o, s.2.1.alloc o, s.2.2.alloc (Nat.le_of_lt s.1.2.2) o⟩
theorem PartsAt.drew {w W : World} {bz : Nat} {ah al zh zl : Int} (s : PartsAt w bz ah al zh zl W) : PartsAt w bz ah al zh zl W.drew := ⟨s.1.drew, s.2.1.drew, s.2.2.drew⟩
theorem PartsAt.far {w W : World} {bz c : Nat} {ah al zh zl : Int} {u v : Value} (s : PartsAt w bz ah al zh zl W) (c1 : w.heap.size < c) (c2 : bz < c) : PartsAt w bz ah al zh zl ((W.setCell ⟨c, 0, none⟩ u).setCell ⟨c, 1, none⟩ v) :=
  ⟨s.1.far (by omega), s.2.1.far (by omega), (s.2.2.setCell (by show _ ≤ c; omega) _).setCell (by show _ ≤ c; omega) _⟩
theorem PartsAt.open {w W : World} {bz : Nat} {ah al zh zl : Int} (s : PartsAt w bz ah al zh zl W) :
    W.cell? ⟨w.heap.size, 0, none⟩ = some (.int .u64 ah) ∧ W.cell? ⟨w.heap.size, 1, none⟩ = some (.int .u64 al) ∧ W.cell? ⟨bz, 0, none⟩ = some (.int .u64 zh) ∧ W.cell? ⟨bz, 1, none⟩ = some (.int .u64 zl) ∧ PartsAt w bz ah al zh zl W :=
  ⟨s.1.1, s.1.2.1, s.2.1.1, s.2.1.2.1, s⟩

set_option maxRecDepth 100000 in
set_option maxHeartbeats 4000000 in
theorem parts_walk {ah al kk : Int} {a : Nat} (ha : IsNum ah al a) (k0 : 0 ≤ kk) (k1 : kk < 18446744073709551616) (w : World) :
    Calls Try.prog 4 #[nv ah al, .int .u64 kk] w fun e w' => e = .returned (.bool true) ∧ Below w.heap.size w w' := by
  have la := ha.lt
  obtain ⟨xh, xl, hx⟩ := IsNum.ex (n := a * kk.toNat % 340282366920938463463374607431768211456) (Nat.mod_lt _ (by decide))
  obtain ⟨ok, hok⟩ : ∃ ok : Bool, decide (a * kk.toNat < 340282366920938463463374607431768211456) = ok := ⟨_, rfl⟩
  have C1 : Hid (∀ w, Calls Try.prog 14 #[nv ah al, .int .u64 kk] w fun e w' => e = .returned (.tuple #[nv xh xl, .bool ok]) ∧ Below w.heap.size w w') := fun w => by
    refine (times_c ha k0 k1 w).mono ?_
    rintro e w' ⟨h, l, b, rfl, rfl, hn, hb⟩
    obtain ⟨rfl, rfl⟩ := hn.uniq hx
    exact ⟨by rw [hok], hb⟩
  have C2 : Hid (∀ w, Calls Try.prog 15 #[nv ah al, .int .u64 kk] w fun e w' => e = .returned (.tuple #[nv xh xl, .bool ok]) ∧ Below w.heap.size w w') := fun w => by
    refine (rtimes_c ha k0 k1 w).mono ?_
    rintro e w' ⟨h, l, b, rfl, hn, ht, hb⟩
    obtain ⟨rfl, rfl⟩ := hn.uniq hx
    exact ⟨by rw [ht.out, hok], hb⟩
  clear hx hok
  obtain ⟨qh, ql, r, C3, C4, HK⟩ : ∃ qh ql r : Int, Hid (∀ w, Calls Try.prog 16 #[nv ah al, .int .u64 kk] w fun e w' => e = .returned (.tuple #[nv qh ql, .int .u64 r]) ∧ Below w.heap.size w w') ∧
      Hid (∀ w, Calls Try.prog 17 #[nv ah al, .int .u64 kk] w fun e w' => e = .returned (.tuple #[nv qh ql, .int .u64 r]) ∧ Below w.heap.size w w') ∧
      Hid (kk = 0 ∧ qh = 0 ∧ ql = 0 ∧ r = 0 ∨ 0 < kk ∧ IsNum qh ql (a / kk.toNat) ∧ r = (a % kk.toNat : Nat)) := by
    by_cases h : kk = 0
    · subst h
      exact ⟨0, 0, 0, fun w => over_zero ah al w, fun w => rover_zero ah al w, .inl ⟨rfl, rfl, rfl, rfl⟩⟩
    · obtain ⟨qh, ql, hq⟩ := IsNum.ex (n := a / kk.toNat) (Nat.lt_of_le_of_lt (Nat.div_le_self _ _) la)
      refine ⟨qh, ql, _, fun w => ?_, fun w => ?_, .inr ⟨by omega, hq, rfl⟩⟩
      · refine (over_c ha (by omega) k1 w).mono ?_
        rintro e w' ⟨h, l, b, rfl, hn, ht, hb⟩
        obtain ⟨rfl, rfl⟩ := hn.uniq hq
        exact ⟨by rw [ht.out], hb⟩
      · refine (rover_c ha (by omega) k1 w).mono ?_
        rintro e w' ⟨h, l, b, rfl, hn, ht, hb⟩
        obtain ⟨rfl, rfl⟩ := hn.uniq hq
        exact ⟨by rw [ht.out], hb⟩
  go_enter Try.func4, Try.ntmps4
  go_wp2_with fail
  have A : Two (w.alloc (.cells #[.int .u64 ah, .int .u64 al] 24)) w.heap.size ah al := Two.new _ _ _ _
  refine (awake_c _).mono ?_
  rintro e w1 ⟨rfl, hb1⟩
  have hB1 : Below w.heap.size w w1 := by repeat (first | with_reducible exact Below.refl _ _ | with_reducible refine Below.drew ?_ | with_reducible refine Below.alloc ?_ (by first | omega | (simp <;> omega)) _ | with_reducible refine Below.setCell ?_ (by first | omega | (simp <;> omega)) _ | with_reducible refine Below.trans ?_ (Below.mono hb1 (by first | omega | (simp <;> omega))))
  replace A : Two w1 (w.heap.size) ah al := Two.below (by repeat (first | with_reducible exact A | with_reducible refine Two.drew ?_ | with_reducible exact Two.new _ _ _ _ | with_reducible refine Two.alloc ?_ _)) hb1
  try clear A0 A1 A2
  obtain ⟨A0, A1, A2⟩ := id A
  clear hb1
  go_wp2_with fail
  refine (C1.out _).mono ?_
  rintro e w2 ⟨rfl, hb2⟩
  have hB2 : Below w.heap.size w w2 := by repeat (first | with_reducible exact Below.refl _ _ | with_reducible refine Below.drew ?_ | with_reducible refine Below.alloc ?_ (by first | omega | (simp <;> omega)) _ | with_reducible refine Below.setCell ?_ (by first | omega | (simp <;> omega)) _ | with_reducible refine Below.trans ?_ (Below.mono hb2 (by first | omega | (simp <;> omega))) | with_reducible refine Below.trans ?_ (Below.mono hB1 (by first | omega | (simp <;> omega))))
  replace A : Two w2 (w.heap.size) ah al := Two.below (by repeat (first | with_reducible exact A | with_reducible refine Two.drew ?_ | with_reducible exact Two.new _ _ _ _ | with_reducible refine Two.alloc ?_ _)) hb2
  try clear A0 A1 A2
  obtain ⟨A0, A1, A2⟩ := id A
  clear hb2 hB1
  go_wp2_with fail
  have X : Two (w2.alloc (.cells #[.int .u64 xh, .int .u64 xl] 24)) w2.heap.size xh xl := Two.new _ _ _ _
  refine (C2.out _).mono ?_
  rintro e w3 ⟨rfl, hb3⟩
  have hB3 : Below w.heap.size w w3 := by repeat (first | with_reducible exact Below.refl _ _ | with_reducible refine Below.drew ?_ | with_reducible refine Below.alloc ?_ (by first | omega | (simp <;> omega)) _ | with_reducible refine Below.setCell ?_ (by first | omega | (simp <;> omega)) _ | with_reducible refine Below.trans ?_ (Below.mono hb3 (by first | omega | (simp <;> omega))) | with_reducible refine Below.trans ?_ (Below.mono hB2 (by first | omega | (simp <;> omega))))
  replace A : Two w3 (w.heap.size) ah al := Two.below (by repeat (first | with_reducible exact A | with_reducible refine Two.drew ?_ | with_reducible exact Two.new _ _ _ _ | with_reducible refine Two.alloc ?_ _)) hb3
  try clear A0 A1 A2
  obtain ⟨A0, A1, A2⟩ := id A
  replace X : Two w3 (w2.heap.size) xh xl := Two.below (by repeat (first | with_reducible exact X | with_reducible refine Two.drew ?_ | with_reducible exact Two.new _ _ _ _ | with_reducible refine Two.alloc ?_ _)) hb3
  try clear X0 X1 X2
  obtain ⟨X0, X1, X2⟩ := id X
  clear hb3 hB2
  go_wp2_with fail
  have Y : Two (w3.alloc (.cells #[.int .u64 xh, .int .u64 xl] 24)) w3.heap.size xh xl := Two.new _ _ _ _
  refine (C3.out _).mono ?_
  rintro e w4 ⟨rfl, hb4⟩
  have hB4 : Below w.heap.size w w4 := by repeat (first | with_reducible exact Below.refl _ _ | with_reducible refine Below.drew ?_ | with_reducible refine Below.alloc ?_ (by first | omega | (simp <;> omega)) _ | with_reducible refine Below.setCell ?_ (by first | omega | (simp <;> omega)) _ | with_reducible refine Below.trans ?_ (Below.mono hb4 (by first | omega | (simp <;> omega))) | with_reducible refine Below.trans ?_ (Below.mono hB3 (by first | omega | (simp <;> omega))))
  replace A : Two w4 (w.heap.size) ah al := Two.below (by repeat (first | with_reducible exact A | with_reducible refine Two.drew ?_ | with_reducible exact Two.new _ _ _ _ | with_reducible refine Two.alloc ?_ _)) hb4
  try clear A0 A1 A2
  obtain ⟨A0, A1, A2⟩ := id A
  replace X : Two w4 (w2.heap.size) xh xl := Two.below (by repeat (first | with_reducible exact X | with_reducible refine Two.drew ?_ | with_reducible exact Two.new _ _ _ _ | with_reducible refine Two.alloc ?_ _)) hb4
  try clear X0 X1 X2
  obtain ⟨X0, X1, X2⟩ := id X
  replace Y : Two w4 (w3.heap.size) xh xl := Two.below (by repeat (first | with_reducible exact Y | with_reducible refine Two.drew ?_ | with_reducible exact Two.new _ _ _ _ | with_reducible refine Two.alloc ?_ _)) hb4
  try clear Y0 Y1 Y2
  obtain ⟨Y0, Y1, Y2⟩ := id Y
  clear hb4 hB3
  go_wp2_with fail
  have Q : Two (w4.alloc (.cells #[.int .u64 qh, .int .u64 ql] 24)) w4.heap.size qh ql := Two.new _ _ _ _
  refine (C4.out _).mono ?_
  rintro e w5 ⟨rfl, hb5⟩
  have hB5 : Below w.heap.size w w5 := by repeat (first | with_reducible exact Below.refl _ _ | with_reducible refine Below.drew ?_ | with_reducible refine Below.alloc ?_ (by first | omega | (simp <;> omega)) _ | with_reducible refine Below.setCell ?_ (by first | omega | (simp <;> omega)) _ | with_reducible refine Below.trans ?_ (Below.mono hb5 (by first | omega | (simp <;> omega))) | with_reducible refine Below.trans ?_ (Below.mono hB4 (by first | omega | (simp <;> omega))))
  replace A : Two w5 (w.heap.size) ah al := Two.below (by repeat (first | with_reducible exact A | with_reducible refine Two.drew ?_ | with_reducible exact Two.new _ _ _ _ | with_reducible refine Two.alloc ?_ _)) hb5
  try clear A0 A1 A2
  obtain ⟨A0, A1, A2⟩ := id A
  replace X : Two w5 (w2.heap.size) xh xl := Two.below (by repeat (first | with_reducible exact X | with_reducible refine Two.drew ?_ | with_reducible exact Two.new _ _ _ _ | with_reducible refine Two.alloc ?_ _)) hb5
  try clear X0 X1 X2
  obtain ⟨X0, X1, X2⟩ := id X
  replace Y : Two w5 (w3.heap.size) xh xl := Two.below (by repeat (first | with_reducible exact Y | with_reducible refine Two.drew ?_ | with_reducible exact Two.new _ _ _ _ | with_reducible refine Two.alloc ?_ _)) hb5
  try clear Y0 Y1 Y2
  obtain ⟨Y0, Y1, Y2⟩ := id Y
  replace Q : Two w5 (w4.heap.size) qh ql := Two.below (by repeat (first | with_reducible exact Q | with_reducible refine Two.drew ?_ | with_reducible exact Two.new _ _ _ _ | with_reducible refine Two.alloc ?_ _)) hb5
  try clear Q0 Q1 Q2
  obtain ⟨Q0, Q1, Q2⟩ := id Q
  clear hb5 hB4 C1 C2 C3 C4
  rcases HK.out with ⟨rfl, rfl, rfl, rfl⟩ | ⟨kp, hq, hr⟩
  · clear HK
    go_wp2
    go_ret
    exact ⟨by first | rfl | simp, by repeat (first | with_reducible exact Below.refl _ _ | with_reducible refine Below.drew ?_ | with_reducible refine Below.alloc ?_ (by first | omega | (simp <;> omega)) _ | with_reducible refine Below.setCell ?_ (by first | omega | (simp <;> omega)) _ | with_reducible refine Below.trans ?_ (Below.mono hB5 (by first | omega | (simp <;> omega))))⟩
  · have kz : (kk == 0) = false := by simp; omega
    have m0 : 0 < kk.toNat := by omega
    have Lm := Nat.mod_lt a m0
    have r0 : 0 ≤ r ∧ r < kk := by omega
    have dm := Nat.div_add_mod a kk.toNat
    rw [Nat.mul_comm] at dm
    have lp : a / kk.toNat * kk.toNat < 340282366920938463463374607431768211456 := by omega
    obtain ⟨zh, zl, hz⟩ := IsNum.ex (n := a / kk.toNat * kk.toNat) lp
    have C5 : Hid (∀ w, Calls Try.prog 14 #[nv qh ql, .int .u64 kk] w fun e w' => e = .returned (.tuple #[nv zh zl, .bool true]) ∧ Below w.heap.size w w') := fun w => by
      refine (times_c hq k0 k1 w).mono ?_
      rintro e w' ⟨h, l, b, rfl, rfl, hn, hb⟩
      obtain ⟨rfl, rfl⟩ := (hn.cast (Nat.mod_eq_of_lt lp)).uniq hz
      exact ⟨by rw [decide_eq_true lp], hb⟩
    have hr' : IsNum 0 r (a % kk.toNat) := ⟨by omega, by omega, by omega, by omega, by omega⟩
    have C6 : Hid (∀ w, Calls Try.prog 8 #[nv zh zl, nv 0 r] w fun e w' => e = .returned (.tuple #[nv ah al, .bool true]) ∧ Below w.heap.size w w') := fun w => by
      refine (add_c hz hr' w).mono ?_
      rintro e w' ⟨h, l, rfl, hn, hb⟩
      obtain ⟨rfl, rfl⟩ := (hn.cast (show _ = a by rw [dm, Nat.mod_eq_of_lt la])).uniq ha
      exact ⟨by rw [dm, decide_eq_true la], hb⟩
    have rlt : r < kk := r0.2
    have rnn : 0 ≤ r := r0.1
    clear HK hr Lm dm lp hz hr' m0 hq r0
    go_wp2_with fail
    refine (C5.out _).mono ?_
    rintro e w6 ⟨rfl, hb6⟩
    have hB6 : Below w.heap.size w w6 := by repeat (first | with_reducible exact Below.refl _ _ | with_reducible refine Below.drew ?_ | with_reducible refine Below.alloc ?_ (by first | omega | (simp <;> omega)) _ | with_reducible refine Below.setCell ?_ (by first | omega | (simp <;> omega)) _ | with_reducible refine Below.trans ?_ (Below.mono hb6 (by first | omega | (simp <;> omega))) | with_reducible refine Below.trans ?_ (Below.mono hB5 (by first | omega | (simp <;> omega))))
    replace A : Two w6 (w.heap.size) ah al := Two.below (by repeat (first | with_reducible exact A | with_reducible refine Two.drew ?_ | with_reducible exact Two.new _ _ _ _ | with_reducible refine Two.alloc ?_ _)) hb6
    try clear A0 A1 A2
    obtain ⟨A0, A1, A2⟩ := id A
    clear hb6 hB5 X X0 X1 X2 Y Y0 Y1 Y2 Q Q0 Q1 Q2 C5
    go_upto_region 12 with fail
    have S : PartsAt w w6.heap.size ah al zh zl (w6.alloc (.cells #[.int .u64 zh, .int .u64 zl] 24)) := ⟨A.alloc _, Two.new _ _ _ _, hB6.alloc (Nat.le_of_lt A2) _⟩
    go_cut [15, 16] (fun p t wc => ∃ bn : Nat, p = .pointer (some ⟨bn, 0, none⟩) ∧ t = .bool true ∧ Two wc bn ah al ∧ PartsAt w w6.heap.size ah al zh zl wc)
    case first =>
      go_region_held (fun wx => wx.cell? ⟨w.heap.size, 0, none⟩ = some (.int .u64 ah) ∧ wx.cell? ⟨w.heap.size, 1, none⟩ = some (.int .u64 al) ∧ wx.cell? ⟨w6.heap.size, 0, none⟩ = some (.int .u64 zh) ∧ wx.cell? ⟨w6.heap.size, 1, none⟩ = some (.int .u64 zl) ∧ PartsAt w w6.heap.size ah al zh zl wx) (first | with_reducible exact S.drew.open | with_reducible exact hk7.open | with_reducible exact hk8.open | with_reducible exact (hk7.alloc _).open | with_reducible exact (hk8.alloc _).open | with_reducible exact (S.alloc _).drew.open | (with_reducible refine (hk8.far ?_ ?_).open <;> omega)) (first | (go_at_call 18; refine (of_w _ _).mono ?_; rintro e w7 ⟨rfl, hb7⟩; have hk7 := PartsAt.below (And.right (And.right (And.right (And.right ‹_ ∧ _ ∧ _ ∧ _ ∧ PartsAt _ _ _ _ _ _ _›)))) hb7; obtain ⟨hc7, hf7⟩ := bcell hb7; have lz := hk7.2.1.2.2; have ls := hb7.size; (try simp at ls); (try (have ly6 : w6.heap.size + 1 < w7.heap.size := (by omega)))) | (go_at_call 8; refine (C6.out _).mono ?_; rintro e w8 ⟨rfl, hb8⟩; have hk8 := PartsAt.below (And.right (And.right (And.right (And.right ‹_ ∧ _ ∧ _ ∧ _ ∧ PartsAt _ _ _ _ _ _ _›)))) hb8; obtain ⟨hc8, hf8⟩ := bcell hb8; have lz8 := hk8.2.1.2.2; have ls8 := hb8.size; (try simp at ls8); (try (have ly7 : w7.heap.size < w8.heap.size := (by omega)))))
      all_goals
        go_wp2_with fail
        go_meet
        case rel =>
          refine ⟨_, rfl, rfl, ?_, ?_⟩
          · first
              | with_reducible exact Two.new _ _ _ _
              | (with_reducible refine Two.put ?_ ?_ ?_; all_goals first | omega | (simp [hc8]; done) | (simp [hc8, hc7, ly6]; done))
          · first
              | with_reducible exact hk8.alloc _
              | (with_reducible refine hk8.far ?_ ?_ <;> omega)
    case rest =>
      obtain ⟨bn, rfl, rfl, N, S3⟩ := hcut
      obtain ⟨N0, N1, N2⟩ := id N
      obtain ⟨O0, O1, O2⟩ := id S3.1
      have hBc := S3.2.2
      clear A A0 A1 A2 S
      go_wp2
      go_ret
      exact ⟨by first | rfl | simp, hBc⟩
end Go.Proofs.Ytegbbankbcojkaa
