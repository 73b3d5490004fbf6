/-
  bits.Div64 and num.Over: the quotient and what is left.
-/
import Derived.Test.YtegbbankbcojkaaNum3
import Derived.Test.YtegbbankbcojkaaDivMath
import Derived.Deep.DeepCutAuto
import Derived.Deep.CutBlock
import Derived.Deep.RegionWith
namespace Go.Proofs.Ytegbbankbcojkaa
open Go.ChangeShapes Go.WideShapes Go.ChangeAt Go.RowKit
set_option linter.unusedVariables false
set_option linter.unusedSimpArgs false

set_option maxHeartbeats 400000 in
theorem div_small (lo y : Int) (l0 : 0 ≤ lo) (l1 : lo < 18446744073709551616) (y0 : 0 < y) (y1 : y < 18446744073709551616) (w : World) :
    Calls Try.prog 37 #[.int .u64 0, .int .u64 lo, .int .u64 y] w fun e w' => e = .returned (.tuple #[.int .u64 (lo / y), .int .u64 (lo % y)]) ∧ Below w.heap.size w w' := by
  have e1 : (y == 0) = false := by simp; omega
  have e2 : ¬ y ≤ 0 := by omega
  go_enter Try.func37, Try.ntmps37
  go_wp2
  go_region
  go_wp2
  go_ret2
  exact ⟨rfl, by repeat (first | with_reducible exact Below.refl _ _ | with_reducible refine Below.drew ?_ | with_reducible refine Below.alloc ?_ (by first | omega | (simp <;> omega)) _ | with_reducible refine Below.setCell ?_ (by first | omega | (simp <;> omega)) _)⟩

theorem lz_c (y : Int) (y0 : 0 < y) (y1 : y < 18446744073709551616) (w : World) :
    Calls Try.prog 44 #[.int .u64 y] w fun e w' => ∃ s : Nat, e = .returned (.int .i64 (s : Int)) ∧ s ≤ 63 ∧ Hid (9223372036854775808 ≤ y.toNat * 2 ^ s ∧ y.toNat * 2 ^ s < 18446744073709551616) ∧ w' = w := by
  refine (Try.bits_LeadingZeros64 y w (by omega) (by omega)).mono ?_
  rintro e w' ⟨rfl, rfl⟩
  have hl := bitLen_lib y.toNat (by omega)
  obtain ⟨c1, c2⟩ := Go.bitLen_spec y.toNat
  have c3 := c2 (by omega)
  have c4 : Go.bitLen y.toNat ≤ 64 := bitLen_le_of_lt (by rw [show 2 ^ 64 = 18446744073709551616 by decide]; omega)
  have c5 : 1 ≤ Go.bitLen y.toNat := by
    unfold Go.bitLen; rw [if_neg (by omega)]; omega
  rw [hl]
  generalize Go.bitLen y.toNat = b at *
  refine ⟨64 - b, by rw [show (64 - (b : Int)) = ((64 - b : Nat) : Int) by omega], by omega, ?_, rfl⟩
  have p := pow_split (64 - b) (by omega)
  rw [show 64 - (64 - b) = b by omega] at p
  have q : 2 ^ b = 2 ^ (b - 1) * 2 := by rw [← Nat.pow_succ]; congr 1; omega
  have pp := pow_pos2 (64 - b)
  constructor
  · have : 2 ^ (b - 1) * 2 ^ (64 - b) ≤ y.toNat * 2 ^ (64 - b) := Nat.mul_le_mul_right _ c3
    rw [q, Nat.mul_comm, Nat.mul_right_comm] at p
    omega
  · have : y.toNat * 2 ^ (64 - b) < 2 ^ b * 2 ^ (64 - b) := Nat.mul_lt_mul_of_pos_right c1 pp
    rw [Nat.mul_comm] at p
    omega

theorem prep_i {H L D s : Nat} (hL : L < 18446744073709551616) (h1 : H < D) (hs : s < 64) (b0 : 9223372036854775808 ≤ D * 2 ^ s) (b1 : D * 2 ^ s < 18446744073709551616) :
    ∃ U V : Nat, IntKind.u64.wrap ((D : Int) * 2 ^ s) = ((D * 2 ^ s : Nat) : Int) ∧ bits BinOp.or IntKind.u64 (IntKind.u64.wrap ((H : Int) * 2 ^ s)) ((L : Int) / 2 ^ (64 - s)) = (U : Int) ∧
      IntKind.u64.wrap ((L : Int) * 2 ^ s) = (V : Int) ∧ V < 18446744073709551616 ∧ U < D * 2 ^ s ∧ U * 18446744073709551616 + V = (H * 18446744073709551616 + L) * 2 ^ s := by
  obtain ⟨e, l⟩ := prep hL h1 hs b0 b1
  have e2 : (L : Int) / 2 ^ (64 - s) = ((L / 2 ^ (64 - s) : Nat) : Int) := by simp
  have e3 : ((H : Int) * 2 ^ s) % 18446744073709551616 = ((H * 2 ^ s % 18446744073709551616 : Nat) : Int) := by simp
  have e4 : ((L : Int) * 2 ^ s) % 18446744073709551616 = ((L * 2 ^ s % 18446744073709551616 : Nat) : Int) := by simp
  have e5 : (D : Int) * 2 ^ s = ((D * 2 ^ s : Nat) : Int) := by simp
  have l2 : L / 2 ^ (64 - s) < 18446744073709551616 := Nat.lt_of_le_of_lt (Nat.div_le_self _ _) hL
  have l3 : H * 2 ^ s % 18446744073709551616 < 18446744073709551616 := Nat.mod_lt _ (by decide)
  have l4 : L * 2 ^ s % 18446744073709551616 < 18446744073709551616 := Nat.mod_lt _ (by decide)
  refine ⟨_, _, ?_, ?_, ?_, l4, l, e⟩
  · rw [IntKind.wrap_u64, e5]; omega
  · rw [IntKind.wrap_u64, e2, e3, bits_or_u64_nat _ _ l3 l2]
  · rw [IntKind.wrap_u64, e4]

set_option maxHeartbeats 800000 in
theorem div_great (H L D : Nat) (hL : L < 18446744073709551616) (hD : D < 18446744073709551616) (h0 : 0 < H) (h1 : H < D) (w : World) :
    Calls Try.prog 37 #[.int .u64 H, .int .u64 L, .int .u64 D] w fun e w' => ∃ q r : Int, e = .returned (.tuple #[.int .u64 q, .int .u64 r]) ∧ q = ((H * 18446744073709551616 + L) / D : Nat) ∧ r = ((H * 18446744073709551616 + L) % D : Nat) ∧ Below w.heap.size w w' := by
  have e1 : ((D : Int) == 0) = false := by simp; omega
  have e2 : ¬ (D : Int) ≤ (H : Int) := by omega
  have e3 : ((H : Int) == 0) = false := by simp; omega
  go_enter Try.func37, Try.ntmps37
  go_wp2_with fail
  refine (lz_c D (by omega) (by omega) _).mono ?_
  rintro e w' ⟨s, rfl, s1, HS, rfl⟩
  go_upto_region 13 with fail
  obtain ⟨b0, b1⟩ := HS.out
  rw [Int.toNat_natCast] at b0 b1
  obtain ⟨U, V, eY, eU, eV, hV, hU, key⟩ := prep_i hL h1 (by omega) b0 b1
  rw [eY, eU, eV]
  have HK : Hid (U * 18446744073709551616 + V = (H * 18446744073709551616 + L) * 2 ^ s) := key
  clear key eY eU eV HS e1 e2 e3
  have HYD : Hid (D * 2 ^ s = D * 2 ^ s) := rfl
  generalize hY : D * 2 ^ s = Y at *
  have HY : Hid (D * 2 ^ s = Y) := hY
  clear hY
  rw [and_low32 (Y : Int) (by omega) (by omega)]
  obtain ⟨p, hp⟩ : ∃ p : Int, p = (Y : Int) / 4294967296 := ⟨_, rfl⟩
  obtain ⟨q, hq⟩ : ∃ q : Int, q = (Y : Int) % 4294967296 := ⟨_, rfl⟩
  rw [← hp, ← hq]
  have p0 : 2147483648 ≤ p := by omega
  have p1 : p < 4294967296 := by omega
  have q0 : 0 ≤ q := by omega
  have q1 : q < 4294967296 := by omega
  have HPQ : Hid ((Y : Int) = p * 4294967296 + q) := by show _ = _; omega
  clear hp hq
  go_upto_block 0 with fail
  obtain ⟨A, hA⟩ : ∃ A : Int, IntKind.u64.wrap ((U : Int) / p) = A := ⟨_, rfl⟩
  rw [hA]
  obtain ⟨R, hR⟩ : ∃ R : Int, IntKind.u64.wrap ((U : Int) - IntKind.u64.wrap (A * p)) = R := ⟨_, rfl⟩
  rw [hR]
  obtain ⟨d, hd⟩ : ∃ d : Int, (V : Int) / 4294967296 = d := ⟨_, rfl⟩
  rw [hd]
  obtain ⟨d0, d1⟩ : 0 ≤ d ∧ d < 4294967296 := by omega
  obtain ⟨g0, g1, g2, g3, g4, g5⟩ := guess HPQ.out q0 q1 p0 (by omega : 0 ≤ (U : Int)) (by omega : (U : Int) < (Y : Int)) d0 d1
  have eA : A = (U : Int) / p := by rw [← hA, IntKind.wrap_u64]; omega
  have eR : R = (U : Int) - A * p := by
    rw [← hR, eA, IntKind.wrap_u64, IntKind.wrap_u64]
    generalize (U : Int) / p * p = z at *
    omega
  have i1 : Hid ((U : Int) = A * p + R) := by show _ = _; omega
  have i2 : Hid ((U : Int) * 4294967296 + d < (A + 1) * (Y : Int)) := by rw [eA]; exact g5
  have i3 : 0 ≤ A ∧ A ≤ 4294967297 := by omega
  have i4 : 0 ≤ R ∧ R < 4294967296 := by
    rw [eR, eA]; omega
  have HD : Hid ((V : Int) / 4294967296 = d) := hd
  clear g0 g1 g2 g3 g4 g5 eA eR hA hR hd
  go_cut [15, 16] (fun a r wc => ∃ x : Int, a = .int .u64 x ∧ 0 ≤ x ∧ x < 4294967296 ∧ Hid (x * (Y : Int) ≤ (U : Int) * 4294967296 + d) ∧ Hid ((U : Int) * 4294967296 + d < (x + 1) * (Y : Int)) ∧ wc = w')
  case first =>
    go_wp2_with fail
    go_loop [15, 16] (fun a r => ∃ x y : Int, a = .int .u64 x ∧ r = .int .u64 y ∧ 0 ≤ x ∧ x ≤ 4294967297 ∧ 0 ≤ y ∧ y < 4294967296 ∧ Hid ((U : Int) = x * p + y) ∧ Hid ((U : Int) * 4294967296 + d < (x + 1) * (Y : Int))) (fun a _ => (intOf a).toNat)
    case atStart => exact ⟨A, R, rfl, rfl, i3.1, i3.2, i4.1, i4.2, i1, i2⟩
    case round =>
      obtain ⟨x, y, rfl, rfl, x0, x1, y0, y1, J1, J2⟩ := hrel
      clear i1 i2 i3 i4
      have hUY : (U : Int) < (Y : Int) := by omega
      have u0 : 0 ≤ (U : Int) := by omega
      have Yp : 0 < (Y : Int) := by omega
      by_cases c : 4294967296 ≤ x
      · have big := digit_big HPQ.out q0 q1 p0 hUY d1 J1.out (.inl c)
        have BIG : Hid ((U : Int) * 4294967296 + d < (x - 1 + 1) * (Y : Int)) := by show _ < _; rw [show x - 1 + 1 = x by omega]; exact big
        have N1 : Hid ((U : Int) = (x - 1) * p + (y + p)) := by show _ = _; have := J1.out; rw [Int.sub_mul]; omega
        have hx : IntKind.u64.wrap (x - 1) = x - 1 := by rw [IntKind.wrap_u64]; omega
        clear J1 J2 big HYD
        by_cases c3 : 4294967296 ≤ y + p
        · have F : Hid ((x - 1) * (Y : Int) ≤ (U : Int) * 4294967296 + d) := digit_fits HPQ.out q0 q1 d0 (by omega) N1.out (.inl ⟨by omega, c3⟩)
          have F2 := digit_lt F.out hUY d1 Yp
          go_wp2
          go_meet
          case rel => exact ⟨x - 1, rfl, by omega, F2, F, BIG, rfl⟩
        · go_wp2
          go_round
          case rel => exact ⟨x - 1, y + p, rfl, rfl, by omega, by omega, by omega, by omega, N1, BIG⟩
          case measure => simp [intOf]; omega
      · obtain ⟨z0, z1⟩ := prod_fits x0 (by omega) q0 q1
        have hxq : IntKind.u64.wrap (x * q) = x * q := by rw [IntKind.wrap_u64, Int.emod_eq_of_lt z0 z1]
        by_cases c2 : 4294967296 * y + d < x * q
        · have big := digit_big HPQ.out q0 q1 p0 hUY d1 J1.out (.inr c2)
          have x2 := digit_pos big u0 d0 Yp
          have BIG : Hid ((U : Int) * 4294967296 + d < (x - 1 + 1) * (Y : Int)) := by show _ < _; rw [show x - 1 + 1 = x by omega]; exact big
          have N1 : Hid ((U : Int) = (x - 1) * p + (y + p)) := by show _ = _; have := J1.out; rw [Int.sub_mul]; omega
          have hx : IntKind.u64.wrap (x - 1) = x - 1 := by rw [IntKind.wrap_u64]; omega
          clear J1 J2 big HYD
          by_cases c3 : 4294967296 ≤ y + p
          · have F : Hid ((x - 1) * (Y : Int) ≤ (U : Int) * 4294967296 + d) := digit_fits HPQ.out q0 q1 d0 (by omega) N1.out (.inl ⟨by omega, c3⟩)
            have F2 := digit_lt F.out hUY d1 Yp
            go_wp2
            go_meet
            case rel => exact ⟨x - 1, rfl, by omega, F2, F, BIG, rfl⟩
          · go_wp2
            go_round
            case rel => exact ⟨x - 1, y + p, rfl, rfl, by omega, by omega, by omega, by omega, N1, BIG⟩
            case measure => simp [intOf]; omega
        · have F : Hid (x * (Y : Int) ≤ (U : Int) * 4294967296 + d) := digit_fits HPQ.out q0 q1 d0 x0 J1.out (.inr (by omega))
          clear J1 HYD
          go_wp2
          go_meet
          case rel => exact ⟨x, rfl, x0, by omega, F, J2, rfl⟩
  case rest =>
    obtain ⟨x, rfl, x0, x1, J1, J2, rfl⟩ := hcut
    go_upto_region 22 with fail
    obtain ⟨Z, hZ⟩ : ∃ Z : Int, IntKind.u64.wrap (IntKind.u64.wrap (IntKind.u64.wrap ((U : Int) * 4294967296) + d) - IntKind.u64.wrap (x * (Y : Int))) = Z := ⟨_, rfl⟩
    rw [hZ]
    have eZ : Z = (U : Int) * 4294967296 + d - x * (Y : Int) := by
      have j1 := J1.out
      have j2 := J2.out
      rw [Int.add_mul] at j2
      rw [← hZ]
      simp only [IntKind.wrap_u64]
      generalize x * (Y : Int) = z at *
      omega
    have Z0 : 0 ≤ Z := by have := J1.out; omega
    have Z1 : Z < (Y : Int) := by have j2 := J2.out; rw [Int.add_mul] at j2; omega
    have HZ : Hid (Z = (U : Int) * 4294967296 + d - x * (Y : Int)) := eZ
    clear eZ hZ J1 J2
    rw [and_low32 (V : Int) (by omega) (by omega)]
    obtain ⟨f, hf⟩ : ∃ f : Int, (V : Int) % 4294967296 = f := ⟨_, rfl⟩
    rw [hf]
    have HF : Hid ((V : Int) % 4294967296 = f) := hf
    obtain ⟨f0, f1⟩ : 0 ≤ f ∧ f < 4294967296 := by omega
    clear hf
    go_upto_block 2 with fail
    obtain ⟨A, hA⟩ : ∃ A : Int, Z / p = A := ⟨_, rfl⟩
    rw [hA]
    obtain ⟨R, hR⟩ : ∃ R : Int, IntKind.u64.wrap (Z - IntKind.u64.wrap (A * p)) = R := ⟨_, rfl⟩
    rw [hR]
    obtain ⟨g0, g1, g2, g3, g4, g5⟩ := guess HPQ.out q0 q1 p0 Z0 Z1 f0 f1
    have eA : A = Z / p := hA.symm
    have eR : R = Z - A * p := by
      rw [← hR, eA, IntKind.wrap_u64, IntKind.wrap_u64]
      generalize Z / p * p = z at *
      omega
    have i1 : Hid (Z = A * p + R) := by show _ = _; omega
    have i2 : Hid (Z * 4294967296 + f < (A + 1) * (Y : Int)) := by rw [eA]; exact g5
    have i3 : 0 ≤ A ∧ A ≤ 4294967297 := by omega
    have i4 : 0 ≤ R ∧ R < 4294967296 := by
      rw [eR, eA]; omega
    clear g0 g1 g2 g3 g4 g5 eA eR hA hR
    go_cut [18, 16] (fun a r wd => ∃ x : Int, a = .int .u64 x ∧ 0 ≤ x ∧ x < 4294967296 ∧ Hid (x * (Y : Int) ≤ Z * 4294967296 + f) ∧ Hid (Z * 4294967296 + f < (x + 1) * (Y : Int)) ∧ wd = wc)
    case first =>
      go_wp2_with fail
      go_loop [18, 16] (fun a r => ∃ x y : Int, a = .int .u64 x ∧ r = .int .u64 y ∧ 0 ≤ x ∧ x ≤ 4294967297 ∧ 0 ≤ y ∧ y < 4294967296 ∧ Hid (Z = x * p + y) ∧ Hid (Z * 4294967296 + f < (x + 1) * (Y : Int))) (fun a _ => (intOf a).toNat)
      case atStart => exact ⟨A, R, rfl, rfl, i3.1, i3.2, i4.1, i4.2, i1, i2⟩
      case round =>
        obtain ⟨x, y, rfl, rfl, x0, x1, y0, y1, J1, J2⟩ := hrel
        clear i1 i2 i3 i4
        have hUY : Z < (Y : Int) := Z1
        have u0 : 0 ≤ Z := Z0
        have Yp : 0 < (Y : Int) := by omega
        by_cases c : 4294967296 ≤ x
        · have big := digit_big HPQ.out q0 q1 p0 hUY f1 J1.out (.inl c)
          have BIG : Hid (Z * 4294967296 + f < (x - 1 + 1) * (Y : Int)) := by show _ < _; rw [show x - 1 + 1 = x by omega]; exact big
          have N1 : Hid (Z = (x - 1) * p + (y + p)) := by show _ = _; have := J1.out; rw [Int.sub_mul]; omega
          have hx : IntKind.u64.wrap (x - 1) = x - 1 := by rw [IntKind.wrap_u64]; omega
          clear J1 J2 big
          by_cases c3 : 4294967296 ≤ y + p
          · have F : Hid ((x - 1) * (Y : Int) ≤ Z * 4294967296 + f) := digit_fits HPQ.out q0 q1 f0 (by omega) N1.out (.inl ⟨by omega, c3⟩)
            have F2 := digit_lt F.out hUY f1 Yp
            go_wp2
            go_meet
            case rel => exact ⟨x - 1, rfl, by omega, F2, F, BIG, rfl⟩
          · go_wp2
            go_round
            case rel => exact ⟨x - 1, y + p, rfl, rfl, by omega, by omega, by omega, by omega, N1, BIG⟩
            case measure => simp [intOf]; omega
        · obtain ⟨z0, z1⟩ := prod_fits x0 (by omega) q0 q1
          have hxq : IntKind.u64.wrap (x * q) = x * q := by rw [IntKind.wrap_u64, Int.emod_eq_of_lt z0 z1]
          by_cases c2 : 4294967296 * y + f < x * q
          · have big := digit_big HPQ.out q0 q1 p0 hUY f1 J1.out (.inr c2)
            have x2 := digit_pos big u0 f0 Yp
            have BIG : Hid (Z * 4294967296 + f < (x - 1 + 1) * (Y : Int)) := by show _ < _; rw [show x - 1 + 1 = x by omega]; exact big
            have N1 : Hid (Z = (x - 1) * p + (y + p)) := by show _ = _; have := J1.out; rw [Int.sub_mul]; omega
            have hx : IntKind.u64.wrap (x - 1) = x - 1 := by rw [IntKind.wrap_u64]; omega
            clear J1 J2 big
            by_cases c3 : 4294967296 ≤ y + p
            · have F : Hid ((x - 1) * (Y : Int) ≤ Z * 4294967296 + f) := digit_fits HPQ.out q0 q1 f0 (by omega) N1.out (.inl ⟨by omega, c3⟩)
              have F2 := digit_lt F.out hUY f1 Yp
              go_wp2
              go_meet
              case rel => exact ⟨x - 1, rfl, by omega, F2, F, BIG, rfl⟩
            · go_wp2
              go_round
              case rel => exact ⟨x - 1, y + p, rfl, rfl, by omega, by omega, by omega, by omega, N1, BIG⟩
              case measure => simp [intOf]; omega
          · have F : Hid (x * (Y : Int) ≤ Z * 4294967296 + f) := digit_fits HPQ.out q0 q1 f0 x0 J1.out (.inr (by omega))
            clear J1
            go_wp2
            go_meet
            case rel => exact ⟨x, rfl, x0, by omega, F, J2, rfl⟩
    case rest =>
      obtain ⟨a, rfl, a0, a1, K1, K2, rfl⟩ := hcut
      go_wp2
      go_ret2
      have k1 := K1.out
      have k2 := K2.out
      have hz := HZ.out
      have hd := HD.out
      have hf := HF.out
      obtain ⟨m, hm⟩ : ∃ m : Nat, Z * 4294967296 + f - a * (Y : Int) = (m : Int) := ⟨_, (Int.toNat_of_nonneg (by omega)).symm⟩
      have mY : m < Y := by rw [Int.add_mul] at k2; omega
      obtain ⟨Q, hQ⟩ : ∃ Q : Nat, x * 4294967296 + a = (Q : Int) := ⟨_, (Int.toNat_of_nonneg (by omega)).symm⟩
      have tot : (U * 18446744073709551616 + V : Nat) = Q * Y + m := by
        have : ((U * 18446744073709551616 + V : Nat) : Int) = ((Q * Y + m : Nat) : Int) := by
          rw [Int.natCast_add (Q * Y), Int.natCast_mul, ← hQ, ← hm, Int.add_mul, Int.mul_right_comm]
          generalize x * (Y : Int) = z at *
          generalize a * (Y : Int) = z' at *
          omega
        exact Int.ofNat.inj this
      have mY' : (m : Int) < (Y : Int) := by omega
      rw [HK.out, ← HY.out] at tot
      rw [← HY.out] at mY
      obtain ⟨r1, r2⟩ := back (by omega) tot mY
      have r3 : (((H * 18446744073709551616 + L) / D : Nat) : Int) = x * 4294967296 + a := by rw [r1, hQ]
      have r4 : (((H * 18446744073709551616 + L) % D : Nat) : Int) = (m : Int) / 2 ^ s := by rw [r2]; simp
      refine ⟨_, _, rfl, ?_, ?_, by repeat (first | with_reducible exact Below.refl _ _ | with_reducible refine Below.drew ?_ | with_reducible refine Below.alloc ?_ (by first | omega | (simp <;> omega)) _ | with_reducible refine Below.setCell ?_ (by first | omega | (simp <;> omega)) _)⟩
      · rw [← r3]; simp
      · have e : (((H * 18446744073709551616 + L) % D : Nat) : Int) = ((H : Int) * 18446744073709551616 + (L : Int)) % (D : Int) := by simp
        rw [← e, r4, ← hm]
        congr 1
        simp only [IntKind.wrap_u64]
        generalize a * (Y : Int) = z at *
        clear tot r1 r2 r3 r4 e mY k1 k2 hz hd hf
        omega

/-- Div64: the quotient and what is left, where hi is less than the divisor. -/
theorem div_c (H L D : Nat) (hL : L < 18446744073709551616) (hD : D < 18446744073709551616) (h1 : H < D) (w : World) :
    Calls Try.prog 37 #[.int .u64 H, .int .u64 L, .int .u64 D] w fun e w' => ∃ q r : Int, e = .returned (.tuple #[.int .u64 q, .int .u64 r]) ∧ q = ((H * 18446744073709551616 + L) / D : Nat) ∧ r = ((H * 18446744073709551616 + L) % D : Nat) ∧ Below w.heap.size w w' := by
  by_cases h0 : H = 0
  · subst h0
    refine (div_small L D (by omega) (by omega) (by omega) (by omega) w).mono ?_
    rintro e w' ⟨rfl, hb⟩
    exact ⟨_, _, rfl, by simp, by simp, hb⟩
  · exact div_great H L D hL hD (by omega) h1 w

theorem div_h (H L D : Nat) (hL : L < 18446744073709551616) (hD : D < 18446744073709551616) (h1 : H < D) (w : World) :
    Calls Try.prog 37 #[.int .u64 H, .int .u64 L, .int .u64 D] w fun e w' => ∃ q r : Int, e = .returned (.tuple #[.int .u64 q, .int .u64 r]) ∧ Hid (q = ((H * 18446744073709551616 + L) / D : Nat) ∧ r = ((H * 18446744073709551616 + L) % D : Nat)) ∧ Below w.heap.size w w' :=
  (div_c H L D hL hD h1 w).mono fun e w' ⟨q, r, he, hq, hr, hb⟩ => ⟨q, r, he, ⟨hq, hr⟩, hb⟩

set_option maxHeartbeats 400000 in
theorem over_w (H L K : Nat) (hH : H < 18446744073709551616) (hL : L < 18446744073709551616) (hK : K < 18446744073709551616) (k0 : 0 < K) (w : World) :
    Calls Try.prog 16 #[nv H L, .int .u64 K] w fun e w' => ∃ h l r : Int, e = .returned (.tuple #[nv h l, .int .u64 r]) ∧ h = (H / K : Nat) ∧ Hid (l = ((H % K * 18446744073709551616 + L) / K : Nat) ∧ r = ((H % K * 18446744073709551616 + L) % K : Nat)) ∧ Below w.heap.size w w' := by
  have e1 : ((K : Int) == 0) = false := by simp; omega
  have ml := Nat.mod_lt H k0
  have em : ((H % K : Nat) : Int) = (H : Int) % (K : Int) := by simp
  have hc := fun w => div_h (H % K) L K hL hK ml w
  rw [em] at hc
  clear em
  have hw : IntKind.u64.wrap ((H : Int) / (K : Int)) = (H : Int) / (K : Int) := by
    have e : (H : Int) / (K : Int) = ((H / K : Nat) : Int) := by simp
    have l : H / K ≤ H := Nat.div_le_self _ _
    rw [IntKind.wrap_u64, e]
    generalize H / K = z at *
    omega
  go_enter Try.func16, Try.ntmps16
  go_upto_region 3 with fail
  go_cut [6, 7] (fun a b wc => ∃ q r : Int, a = .int .u64 q ∧ b = .int .u64 r ∧ Hid (q = ((H % K * 18446744073709551616 + L) / K : Nat) ∧ r = ((H % K * 18446744073709551616 + L) % K : Nat)) ∧ wc.heap.size ≥ w.heap.size + 2 ∧
    Below (w.heap.size + 2) ((w.alloc (Obj.cells #[Value.int IntKind.u64 H, Value.int IntKind.u64 L] 24)).alloc (Obj.cells #[Value.int IntKind.u64 0, Value.int IntKind.u64 0] 24)) wc)
  case first =>
    go_region_with (go_at_call 37; refine (hc _).mono ?_; rintro e w1 ⟨q, r, rfl, HQ, hb1⟩)
    all_goals
      go_wp2_with fail
      go_meet
      case rel => exact ⟨_, _, rfl, rfl, HQ, by have := hb1.size; simp at this; omega, ⟨hb1.os, hb1.tape, hb1.output, hb1.size, fun k hk => hb1.block k (by simp; omega)⟩⟩
  case rest =>
    obtain ⟨q, r, rfl, rfl, HQ, hz, hb⟩ := hcut
    obtain ⟨hc1, hf1⟩ := bcell' hb
    go_wp2
    refine bodyPost_ret (v := .tuple #[nv ((H : Int) / (K : Int)) q, .int .u64 r]) (by simp [results, Try.results16, go_sem, hc1]) rfl ⟨_, _, _, rfl, by simp, HQ, by repeat (first | with_reducible exact Below.refl _ _ | with_reducible refine Below.drew ?_ | with_reducible refine Below.alloc ?_ (by first | omega | (simp <;> omega)) _ | with_reducible refine Below.setCell ?_ (by first | omega | (simp <;> omega)) _ | with_reducible refine Below.trans ?_ (Below.mono hb (by first | omega | (simp <;> omega))))⟩

theorem over_arith (H L K : Nat) (k0 : 0 < K) (hL : L < 18446744073709551616) :
    (H * 18446744073709551616 + L) / K = H / K * 18446744073709551616 + (H % K * 18446744073709551616 + L) / K ∧ (H * 18446744073709551616 + L) % K = (H % K * 18446744073709551616 + L) % K ∧
    (H % K * 18446744073709551616 + L) / K < 18446744073709551616 := by
  have e : H * 18446744073709551616 + L = K * (H / K * 18446744073709551616) + (H % K * 18446744073709551616 + L) := by
    have := Nat.div_add_mod H K
    rw [← Nat.mul_assoc, ← Nat.add_assoc, ← Nat.add_mul, this]
  refine ⟨?_, ?_, ?_⟩
  · rw [e, Nat.mul_add_div k0]
  · rw [e, Nat.mul_add_mod]
  · rw [Nat.div_lt_iff_lt_mul k0]
    have m := Nat.mod_lt H k0
    have : (H % K + 1) * 18446744073709551616 ≤ K * 18446744073709551616 := Nat.mul_le_mul_right _ m
    rw [Nat.mul_comm 18446744073709551616 K]
    omega

/-- Over: a divided by k, and what is left. -/
theorem over_c {ah al k : Int} {a : Nat} (ha : IsNum ah al a) (k0 : 0 < k) (k1 : k < 18446744073709551616) (w : World) :
    Calls Try.prog 16 #[nv ah al, .int .u64 k] w fun e w' => ∃ h l r, e = .returned (.tuple #[nv h l, .int .u64 r]) ∧ IsNum h l (a / k.toNat) ∧ Hid (r = (a % k.toNat : Nat)) ∧ Below w.heap.size w w' := by
  obtain ⟨H, L, rfl, rfl, hH, hL, rfl⟩ := ha.nat
  obtain ⟨K, rfl⟩ := Int.eq_ofNat_of_zero_le (Int.le_of_lt k0)
  obtain ⟨x, y, z⟩ := over_arith H L K (by omega) hL
  refine (over_w H L K hH hL (by omega) (by omega) w).mono ?_
  rintro e w' ⟨h, l, r, rfl, rfl, HQ, hb⟩
  obtain ⟨rfl, rfl⟩ := HQ.out
  rw [Int.toNat_natCast]
  refine ⟨_, _, _, rfl, ?_, ?_, hb⟩
  · rw [x]
    exact IsNum.ofNat (Nat.lt_of_le_of_lt (Nat.div_le_self _ _) hH) z
  · show _ = _
    rw [y]

set_option maxHeartbeats 400000 in
theorem over_zero (ah al : Int) (w : World) :
    Calls Try.prog 16 #[nv ah al, .int .u64 0] w fun e w' => e = .returned (.tuple #[nv 0 0, .int .u64 0]) ∧ Below w.heap.size w w' := by
  go_enter Try.func16, Try.ntmps16
  go_wp2
  refine bodyPost_ret (v := .tuple #[nv 0 0, .int .u64 0]) (by simp [results, Try.results16, go_sem]) rfl ⟨rfl, by repeat (first | with_reducible exact Below.refl _ _ | with_reducible refine Below.drew ?_ | with_reducible refine Below.alloc ?_ (by first | omega | (simp <;> omega)) _ | with_reducible refine Below.setCell ?_ (by first | omega | (simp <;> omega)) _)⟩

end Go.Proofs.Ytegbbankbcojkaa
