/-
  The walk of AddrBytes.
-/
import Derived.Test.YtdjpigjllienoaaDoorRef2
import Derived.Test.YtdjpigjllienoaaDoorAddrE
import Derived.Test.YtdjpigjllienoaaDoorSteps
import Derived.Test.YtdjpigjllienoaaDoorTextMath2
import Derived.Deep.DeepCutAuto
namespace Go.Proofs.YtdjpigjllienoaaDoor
open Go.ChangeShapes Go.WideShapes Go.ChangeAt Go.RowKit
set_option linter.unusedVariables false
set_option linter.unusedSimpArgs false

theorem topP_get (a W s : Nat) : ∀ (k i : Nat), i < k → (topP a W s k).getD i 0 = a / 2 ^ (W - s * (i + 1)) % 2 ^ s
  | 0, _, h => by omega
  | k + 1, i, h => by
    by_cases e : i = k
    · subst e
      have := topP_length a W s i
      simp [topP, List.getD_eq_getElem?_getD, List.getElem?_append_right, this]
    · have ih := topP_get a W s k i (by omega)
      have l := topP_length a W s k
      rw [List.getD_eq_getElem?_getD] at ih ⊢
      rw [topP, List.getElem?_append_left (by omega), ih]

theorem strP_byte (a N i : Nat) (hi : i < N) : byteN (strP (topP a (8 * N) 8 N)) i = a / 2 ^ (8 * N - 8 * (i + 1)) % 256 := by
  have g := topP_get a (8 * N) 8 N i hi
  have l := topP_length a (8 * N) 8 N
  unfold byteN strP
  rw [strOfNums_data, List.getD_eq_getElem?_getD, List.getElem?_map, List.getElem?_map]
  rw [List.getD_eq_getElem?_getD, List.getElem?_eq_getElem (by omega)] at g
  rw [List.getElem?_eq_getElem (by omega)]
  simp only [Option.getD_some] at g
  simp only [Option.map_some, Option.getD_some, Int.toNat_natCast, UInt8.toNat_ofNat', g]
  rw [show (2 : Nat) ^ 8 = 256 by decide]
  omega

theorem strP_size (a N : Nat) : (strP (topP a (8 * N) 8 N)).size = N := by
  unfold strP; rw [strOfNums_size, List.length_map, topP_length]

/-- The number of its bytes is the number. -/
theorem val_of_bytes {a N : Nat} (ha : a < 2 ^ (8 * N)) : ∀ k, k ≤ N → valB (strP (topP a (8 * N) 8 N)) k = a / 2 ^ (8 * N - 8 * k)
  | 0, _ => by simp only [valB, Nat.mul_zero, Nat.sub_zero]; exact (Nat.div_eq_of_lt ha).symm
  | k + 1, h => by
    rw [valB, val_of_bytes ha k (by omega), strP_byte a N k (by omega)]
    have e : a / 2 ^ (8 * N - 8 * k) = a / 2 ^ (8 * N - 8 * (k + 1)) / 256 := by
      rw [Nat.div_div_eq_div_mul, show 8 * N - 8 * k = 8 * N - 8 * (k + 1) + 8 by omega, Nat.pow_add]
    rw [e]
    omega

theorem valB_div (s : ByteArray) (N : Nat) : ∀ m, m ≤ N → valB s N / 2 ^ (8 * N - 8 * m) = valB s m := by
  intro m hm
  induction N with
  | zero => obtain rfl : m = 0 := by omega
            simp
  | succ N ih =>
    by_cases e : m = N + 1
    · subst e; simp
    · have := ih (by omega)
      rw [show 8 * (N + 1) - 8 * m = 8 + (8 * N - 8 * m) by omega, Nat.pow_add, ← Nat.div_div_eq_div_mul]
      have b := byteN_lt s N
      rw [show valB s (N + 1) / 2 ^ 8 = valB s N by simp only [valB]; omega]
      exact this

/-- The bytes of its number are the bytes. -/
theorem bytes_of_val {s : ByteArray} {N : Nat} (hs : s.size = N) : strP (topP (valB s N) (8 * N) 8 N) = s := by
  refine bytes_ext (by rw [strP_size, hs]) (fun i hi => ?_)
  rw [strP_size] at hi
  rw [strP_byte _ _ _ hi, valB_div s N (i + 1) (by omega)]
  have b := byteN_lt s i
  simp only [valB]
  omega

/-- What the law keeps of its address. -/
def RA (w : World) (v : Bool) (ah al : Int) (wr : World) : Prop := Blk wr w.heap.size #[.bool v, .int .u64 ah, .int .u64 al] 26 ∧ Below w.heap.size w wr

theorem RA.below {w W w1 : World} {v : Bool} {ah al : Int} (s : RA w v ah al W) (hb : Below W.heap.size W w1) : RA w v ah al w1 := ⟨s.1.below hb, s.2.trans (hb.mono s.2.size)⟩

theorem RA.alloc {w W : World} {v : Bool} {ah al : Int} (s : RA w v ah al W) (o : Obj) : RA w v ah al (W.alloc o) := ⟨s.1.alloc o, s.2.alloc (Nat.le_of_lt s.1.lt) o⟩

set_option maxRecDepth 100000 in
set_option maxHeartbeats 1600000 in
theorem bylaw_walk {v : Bool} {ah al : Int} {a : Nat} (ha : IsNum ah al a) (S : ByteArray) (w : World) (hL : LW w)
    (aw : ∀ w, LW w → Calls Tryd.prog 7 #[] w fun e w' => e = .returned (.bool true) ∧ Below w.heap.size w w') :
    Calls Tryd.prog 3 #[av v ah al, .string S] w fun e w' => e = .returned (.bool true) ∧ Below w.heap.size w w' := by
  have hz := hL.sz
  have AW := aw (w.alloc (.cells #[.bool v, .int .u64 ah, .int .u64 al] 26)) (hL.of ((Below.refl w.heap.size w).alloc (Nat.le_refl _) _) hz)
  have R0 : RA w v ah al (w.alloc (.cells #[.bool v, .int .u64 ah, .int .u64 al] 26)) := ⟨Blk.new _ _ _, by repeat (first | with_reducible exact Below.refl _ _ | with_reducible refine Below.drew ?_ | with_reducible refine Below.alloc ?_ (by first | omega | (simp <;> omega)) _ | with_reducible refine Below.setCell ?_ (by first | omega | (simp <;> omega)) _)⟩
  clear hL aw
  by_cases hbig : 1000 < S.size
  · have hb' : (1000 : Int) < (S.size : Int) := by omega
    go_enter Tryd.func3, Tryd.ntmps3
    go_wp2_with fail
    refine AW.mono ?_
    rintro e w1 ⟨rfl, hb1⟩
    have R1 := R0.below hb1
    have hB := R1.2
    clear AW
    go_wp2
    go_ret
    exact ⟨rfl, hB⟩
  · have hb' : ¬ (1000 : Int) < (S.size : Int) := by omega
    obtain ⟨bv, bh, bl, ec, OC, hcase⟩ : ∃ (bv : Bool) (bh bl ec : Int), (∀ w', Calls Tryd.prog 8 #[.string S] w' fun e w1 => e = .returned (.tuple #[av bv bh bl, .int .i64 ec]) ∧ Below w'.heap.size w' w1) ∧
        ((S.size ≠ 4 ∧ S.size ≠ 16 ∧ bv = false ∧ bh = 0 ∧ bl = 0 ∧ ec = 4) ∨ ((S.size = 4 ∧ bv = false ∨ S.size = 16 ∧ bv = true) ∧ ec = 0 ∧ ∀ w', Calls Tryd.prog 9 #[av bv bh bl] w' fun e w1 => e = .returned (.string S) ∧ Below w'.heap.size w' w1)) := by
      by_cases h4 : S.size = 4 ∨ S.size = 16
      · have vl := valB_lt S S.size
        have vl2 : valB S S.size < 340282366920938463463374607431768211456 := by
          have : 256 ^ S.size ≤ 256 ^ 16 := Nat.pow_le_pow_right (by decide) (by omega)
          rw [show (256 : Nat) ^ 16 = 340282366920938463463374607431768211456 by decide] at this
          omega
        obtain ⟨h, l, hh⟩ := IsNum.ex vl2
        refine ⟨decide (S.size = 16), h, l, 0, fun w' => ?_, Or.inr ⟨?_, rfl, fun w' => ?_⟩⟩
        · refine (ofbytes_c S h4 w').mono ?_
          rintro e w1 ⟨h', l', rfl, hn, hb⟩
          obtain ⟨rfl, rfl⟩ := hn.uniq hh
          exact ⟨rfl, hb⟩
        · rcases h4 with h4 | h4
          · exact Or.inl ⟨h4, by simp [h4]⟩
          · exact Or.inr ⟨h4, by simp [h4]⟩
        · have hw : widthA (decide (S.size = 16)) = ((8 * S.size : Nat) : Int) := by rcases h4 with h4 | h4 <;> simp [h4, widthA]
          have hok : okA (decide (S.size = 16)) (valB S S.size) = true := by
            rcases h4 with h4 | h4
            · rw [h4] at vl ⊢
              simp [okA]
              simpa using vl
            · simp [okA, h4]
          refine (bytes_w hh hok w' S.size hw h4).mono ?_
          rintro e w1 ⟨rfl, hb⟩
          rw [bytes_of_val rfl]
          exact ⟨rfl, hb⟩
      · refine ⟨false, 0, 0, 4, fun w' => ofbytes_bad S (by omega) (by omega) w', Or.inl ⟨by omega, by omega, rfl, rfl, rfl, rfl⟩⟩
    obtain ⟨T, hT⟩ : ∃ T : ByteArray, T = (if okA v a = true then strP (topP a (widthA v).toNat 8 ((widthA v).toNat / 8)) else ⟨#[]⟩) := ⟨_, rfl⟩
    have BT : ∀ w', Calls Tryd.prog 9 #[av v ah al] w' fun e w1 => e = .returned (.string T) ∧ Below w'.heap.size w' w1 := fun w' => by
      rw [hT]
      cases hok : okA v a
      · exact bytes_none ha hok w'
      · cases v
        · exact bytes_w ha hok w' 4 rfl (Or.inl rfl)
        · exact bytes_w ha hok w' 16 rfl (Or.inr rfl)
    have HT : Hid (T = (if okA v a = true then strP (topP a (widthA v).toNat 8 ((widthA v).toNat / 8)) else ⟨#[]⟩)) := hT
    clear hT
    go_enter Tryd.func3, Tryd.ntmps3
    go_wp2_with fail
    refine AW.mono ?_
    rintro e w1 ⟨rfl, hb1⟩
    have R1 := R0.below hb1
    clear AW R0 hb1
    go_wp2_with fail
    refine (OC _).mono ?_
    rintro e w2 ⟨rfl, hb2⟩
    have R2 := R1.below hb2
    have R3 := R2.alloc (.cells #[.bool bv, .int .u64 bh, .int .u64 bl] 26)
    have K3 : Blk (w2.alloc (.cells #[.bool bv, .int .u64 bh, .int .u64 bl] 26)) w2.heap.size #[.bool bv, .int .u64 bh, .int .u64 bl] 26 := Blk.new _ _ _
    clear OC R1 R2 hb2
    go_upto_region 6 with fail
    go_cut [61] (fun t wc => t = .bool false ∧ RA w v ah al wc)
    case first =>
      clear BT HT
      rcases hcase with ⟨h4, h16, rfl, rfl, rfl, rfl⟩ | ⟨hh, rfl, BB⟩
      · have e3 : ((S.size : Int) == 4) = false := by rw [beq_eq_false_iff_ne]; omega
        have e4 : ((S.size : Int) == 16) = false := by rw [beq_eq_false_iff_ne]; omega
        clear h4 h16 K3 hbig hb'
        go_wp2
        go_meet
        case rel => exact ⟨rfl, R3⟩
      · rcases hh with ⟨h4, rfl⟩ | ⟨h16, rfl⟩
        · have e3 : ((S.size : Int) == 4) = true := by rw [beq_iff_eq]; omega
          have e4 : ((S.size : Int) == 16) = false := by rw [beq_eq_false_iff_ne]; omega
          clear h4 hbig hb'
          go_wp2_with fail
          refine (BB _).mono ?_
          rintro e w5 ⟨rfl, hb5⟩
          have R5 := R3.below hb5
          obtain ⟨N0, N1, N2, N3, N4, N5, N6⟩ := (K3.below hb5).three
          clear BB K3 R3 hb5
          go_wp2
          go_meet
          case rel => exact ⟨rfl, R5⟩
        · have e3 : ((S.size : Int) == 4) = false := by rw [beq_eq_false_iff_ne]; omega
          have e4 : ((S.size : Int) == 16) = true := by rw [beq_iff_eq]; omega
          clear h16 hbig hb'
          go_wp2_with fail
          refine (BB _).mono ?_
          rintro e w5 ⟨rfl, hb5⟩
          have R5 := R3.below hb5
          obtain ⟨N0, N1, N2, N3, N4, N5, N6⟩ := (K3.below hb5).three
          clear BB K3 R3 hb5
          go_wp2
          go_meet
          case rel => exact ⟨rfl, R5⟩
    case rest =>
      obtain ⟨rfl, R4⟩ := hcut
      clear R3 K3 hcase
      obtain ⟨O0, O1, O2, O3, O4, O5, O6⟩ := R4.1.three
      have RR := fun w' => rright_c (v := v) ha w'
      go_wp2_with fail
      refine (BT _).mono ?_
      rintro e w5 ⟨rfl, hb5⟩
      have R5 := R4.below hb5
      clear BT R4 hb5 O0 O1 O2 O3 O4 O5 O6
      obtain ⟨O0, O1, O2, O3, O4, O5, O6⟩ := R5.1.three
      go_wp2_with fail
      refine (RR _).mono ?_
      rintro e w6 ⟨rfl, hb6⟩
      have R6 := R5.below hb6
      clear RR R5 hb6 O0 O1 O2 O3 O4 O5 O6
      obtain ⟨O0, O1, O2, O3, O4, O5, O6⟩ := R6.1.three
      have hB6 := R6.2
      have hT := HT.out
      clear HT
      cases hok : okA v a
      · rw [hok, if_neg (by simp)] at hT
        subst hT
        clear hok ha
        go_wp2
        go_ret
        exact ⟨by rfl, hB6⟩
      · rw [hok, if_pos rfl] at hT
        obtain ⟨N, hN, hN2, hN3⟩ : ∃ N : Nat, widthA v = ((8 * N : Nat) : Int) ∧ (N = 4 ∨ N = 16) ∧ decide (N = 16) = v := by
          cases v
          · exact ⟨4, rfl, Or.inl rfl, rfl⟩
          · exact ⟨16, rfl, Or.inr rfl, rfl⟩
        rw [hN, Int.toNat_natCast, Nat.mul_div_cancel_left _ (by decide)] at hT
        have tsz : T.size = N := by rw [hT, strP_size]
        have alt := okA_lt hN ha.lt hok
        have OT : ∀ w', Calls Tryd.prog 8 #[.string T] w' fun e w1 => e = .returned (.tuple #[av v ah al, .int .i64 0]) ∧ Below w'.heap.size w' w1 := fun w' => by
          refine (ofbytes_c T (by omega) w').mono ?_
          rintro e w1 ⟨h', l', rfl, hn, hb⟩
          have : valB T T.size = a := by rw [tsz, hT, val_of_bytes alt N (Nat.le_refl _)]; simp
          rw [this] at hn
          obtain ⟨rfl, rfl⟩ := hn.uniq ha
          rw [tsz, hN3]
          exact ⟨rfl, hb⟩
        have RB2 : ∀ w', Calls Tryd.prog 11 #[av v ah al] w' fun e w1 => ∃ sv, e = .returned sv ∧ (convert 33 9 sv).run Tryd.prog w1 = .ok (.string T) w1 ∧ Below w'.heap.size w' w1 := fun w' => by
          have cv (n : Nat) (hn : 0 < n) (W' : World) (sv : Value) (hown : W'.ownsRow w'.heap.size 5 1 sv n ((topP a (8 * n) 8 n).map fun n : Nat => .int .u8 (n : Int))) : (convert 33 9 sv).run Tryd.prog W' = .ok (.string (strP (topP a (8 * n) 8 n))) W' := by
            obtain ⟨g, cap, rfl, _⟩ : ∃ g cap, sv = .slice (some ⟨g, 0, none⟩) n cap ∧ True := by
              rcases hown.2 with ⟨rfl, h0⟩ | ⟨g, cap, cur, rfl, _⟩
              · omega
              · exact ⟨g, cap, rfl, trivial⟩
            refine run_convert_bytes_arg (P := Tryd.prog) W' 33 5 Tryd.underlying33 Tryd.underlying5 g 0 n cap ((topP a (8 * n) 8 n).map fun n : Nat => (n : Int)) (by rw [List.length_map, topP_length]) (fun i hi => ?_) 9 Tryd.underlying9
            rw [Nat.zero_add, World.ownsRow.cellAt hown i (by omega)]
            have hl : i < (topP a (8 * n) 8 n).length := by rw [topP_length]; exact hi
            simp [hl]
          rcases hN2 with rfl | rfl
          · obtain rfl : v = false := hN3.symm
            refine (rbytes_4 ha w').mono ?_
            rintro e w1 ⟨sv, rfl, hown, hb⟩
            exact ⟨sv, rfl, by rw [hT]; exact cv 4 (by decide) w1 sv hown, hb⟩
          · obtain rfl : v = true := hN3.symm
            refine (rbytes_16 ha w').mono ?_
            rintro e w1 ⟨sv, rfl, hown, hb⟩
            exact ⟨sv, rfl, by rw [hT]; exact cv 16 (by decide) w1 sv hown, hb⟩
        clear hok ha hT hN hN2 hN3 tsz alt hB6
        go_wp2_with fail
        refine (OT _).mono ?_
        rintro e w7 ⟨rfl, hb7⟩
        have R7 := (R6.below hb7).alloc (.cells #[.bool v, .int .u64 ah, .int .u64 al] 26)
        have K7 : Blk (w7.alloc (.cells #[.bool v, .int .u64 ah, .int .u64 al] 26)) w7.heap.size #[.bool v, .int .u64 ah, .int .u64 al] 26 := Blk.new _ _ _
        obtain ⟨P0, P1, P2, P3, P4, P5, P6⟩ := (R6.below hb7).1.three
        clear OT R6 hb7 O0 O1 O2 O3 O4 O5 O6
        go_wp2_with fail
        refine (RB2 _).mono ?_
        rintro e w8 ⟨sv, rfl, cv, hb8⟩
        have R8 := R7.below hb8
        obtain ⟨O0, O1, O2, O3, O4, O5, O6⟩ := R8.1.three
        obtain ⟨N0, N1, N2, N3, N4, N5, N6⟩ := (K7.below hb8).three
        have hB8 := R8.2
        clear RB2 R7 R8 K7 hb8 P0 P1 P2 P3 P4 P5 P6
        go_wp2
        go_ret
        exact ⟨by first | rfl | simp, hB8⟩
end Go.Proofs.YtdjpigjllienoaaDoor
