/-
  Texts RfY of the proof.
-/
import Derived.Deep.DeepCutAuto
import Derived.Test.YtipjmmhlfmahbaaGreatDoorP40
import Derived.Test.YtipjmmhlfmahbaaGreatDoorP41
import Derived.Test.YtipjmmhlfmahbaaGreatDoorP38

namespace Go.Proofs.YtipjmmhlfmahbaaGreatDoor
open Go.ChangeShapes Go.WideShapes Go.ChangeAt Go.RowKit
set_option linter.unusedVariables false
set_option linter.unusedSimpArgs false

/-- No such number of digits. -/
def badZ (l : List UInt8) : Bool := decide (l.length < 1 ∨ 3 < l.length ∨ (1 < l.length ∧ l.head? = some 48))

theorem digR_bad {l : List UInt8} (h : badZ l = true) : digR l = none := by
  unfold digR
  rw [if_pos (of_decide_eq_true h)]

theorem digR_good {l : List UInt8} (h : badZ l = false) : digR l = digL 0 l := by
  unfold digR
  rw [if_neg (of_decide_eq_false h)]

theorem ext_take (s : ByteArray) (a : Nat) (h : a ≤ s.size) : (s.extract 0 a).data.toList = seg s 0 a := by
  rw [ByteArray.data_extract, Array.toList_extract]
  unfold seg
  simp

theorem head_bt (s : ByteArray) (h : 0 < s.size) : s.data.toList.head? = some (bt s 0) := by
  have e := drop_bt s 0 h
  rw [List.drop_zero] at e
  rw [e]
  rfl

theorem badZ_short {s : ByteArray} (h : s.size < 1) : badZ s.data.toList = true := decide_eq_true (Or.inl (by rw [len8]; exact h))

theorem badZ_long {s : ByteArray} (h : 3 < s.size) : badZ s.data.toList = true := decide_eq_true (Or.inr (Or.inl (by rw [len8]; exact h)))

theorem badZ_nought {s : ByteArray} (h : 1 < s.size) (b : bt s 0 = 48) : badZ s.data.toList = true := decide_eq_true (Or.inr (Or.inr ⟨by rw [len8]; exact h, by rw [head_bt s (by omega), b]⟩))

theorem badZ_no {s : ByteArray} (h1 : ¬ s.size < 1) (h3 : ¬ 3 < s.size) (b : ¬ (1 < s.size ∧ bt s 0 = 48)) : badZ s.data.toList = false := by
  refine decide_eq_false ?_
  rw [len8]
  rintro (h | h | ⟨h, e⟩)
  · exact h1 h
  · exact h3 h
  · rw [head_bt s (by omega)] at e
    exact b ⟨h, Option.some.inj e⟩

theorem c48_int (c : UInt8) : ((c.toNat : Int) == 48) = decide (c = 48) := by
  rw [Bool.eq_iff_iff, beq_iff_eq, decide_eq_true_iff]
  exact ⟨fun e => UInt8.toNat_inj.1 (by have : (48 : UInt8).toNat = 48 := rfl; omega), fun e => by rw [e]; rfl⟩

/-- Whether the digits' row may be. -/
def GuardZ (s : ByteArray) (t : Bool) : Prop := badZ s.data.toList = t ∧ (t = false → 1 ≤ s.size ∧ s.size ≤ 3)

set_option maxRecDepth 100000 in
set_option maxHeartbeats 8000000 in
theorem rpparse_c (s : ByteArray) (hs : s.size ≤ 1000) (w : World) :
    Calls Tryz.prog 6 #[.string s] w fun e w' => RZRet s.data.toList w e w' := by
  have RP := hide (fun (t : ByteArray) (ht : t.size ≤ 1000) (w' : World) => rparse_c t ht w')
  have RT := hide (fun (v : Bool) (h l b : Int) (a : Nat) (ha : IsNum h l a) (w' : World) => rpright_c (v := v) (b := b) ha w')
  obtain ⟨SL, hSL⟩ : ∃ SL, s.data.toList = SL := ⟨_, rfl⟩
  have NO : Hid (parsePF SL = none → PParseIs SL false 0 0 0 4) := fun e => Or.inr ⟨e, rfl, rfl, rfl, rfl, rfl⟩
  have YES : Hid (∀ v a n h l, parsePF SL = some (v, a, n) → IsNum h l a → PParseIs SL v h l (n : Nat) 0) := fun v a n h l e hn => Or.inl ⟨a, n, e, hn, rfl, rfl⟩
  have S0 : Hid (SlashAt s 0 none) := by
    show _ ∉ _
    rw [seg_nil]
    simp
  have SN := hide (fun (k : Nat) (p : Option Nat) (h : SlashAt s k p) (hk : k < s.size) (b : bt s k ≠ 47) => slash_next h hk b)
  have SH := hide (fun (k : Nat) (h : SlashAt s k none) (b : bt s k = 47) => slash_here h b)
  have S2 : Hid (∀ j k, SlashAt s k (some j) → k < s.size → bt s k = 47 → parsePF SL = none) := fun j k h hk b => by rw [← hSL]; exact slash_two h hk b
  have SZ : Hid (SlashAt s s.size none → parsePF SL = none) := fun h => by rw [← hSL]; exact slash_none h
  have SC : Hid (∀ j, SlashAt s s.size (some j) → cutG [47] SL = (seg s 0 j, s.data.toList.drop (j + 1), true) ∧ j < s.size) := fun j h => ⟨by rw [← hSL]; exact slash_cut h (Nat.le_refl _), h.1⟩
  have K0 := hide ((Kn.nil w).push (b := w.heap.size) (cs := [.bool false, .int .u64 0, .int .u64 0, .int .i64 0]) (t := 28) rfl)
  obtain ⟨w0, hw0⟩ : ∃ w0, w0 = w.alloc (.cells #[.bool false, .int .u64 0, .int .u64 0, .int .i64 0] 28) := ⟨_, rfl⟩
  have KH : Hid (Kn w [(w.heap.size, [.bool false, .int .u64 0, .int .u64 0, .int .i64 0], 28)] w0) := hw0 ▸ K0.out
  rw [hSL]
  clear K0 hSL
  go_enter Tryz.func6, Tryz.ntmps6
  go_wp2_with fail
  rw [← hw0]
  clear hw0
  go_loop [4, 5] (fun av iv => ∃ (k : Nat) (p : Option Nat), k ≤ s.size ∧ iv = .int .i64 k ∧ av = .int .i64 (noI p) ∧ (∀ j, p = some j → j < k) ∧ Hid (SlashAt s k p)) (fun _ iv => s.size - (intOf iv).toNat)
  case atStart => exact ⟨0, none, Nat.zero_le _, rfl, rfl, (fun j e => by cases e), S0⟩
  case round =>
    clear S0
    obtain ⟨k, p, hk, rfl, rfl, hj, hsl⟩ := hrel
    by_cases hlt : k < s.size
    · have hki : (k : Int) < (s.size : Int) := by omega
      have bg : s[k] = bt s k := bt_get s k hlt
      obtain ⟨c, ec⟩ : ∃ c : UInt8, bt s k = c := ⟨_, rfl⟩
      rw [ec] at bg
      have bg' : (s[k].toNat : Int) = (c.toNat : Int) := by rw [bg]
      have q := c47_int c
      by_cases d : c = 47
      · rw [decide_eq_true d] at q
        cases p with
        | none =>
          have G := hide (SH.out k hsl.out (by rw [ec, d]))
          have nv : noI none = -1 := rfl
          rw [nv]
          clear SN SH S2 SZ SC NO YES RP RT KH hsl hj d ec bg
          go_wp2
          go_round
          case rel => exact ⟨k + 1, some k, by omega, by go_num, rfl, (fun j e => by cases e; exact Nat.lt_succ_self _), G⟩
          case measure => (simp [intOf]; omega)
        | some j =>
          have G := hide (NO.out (S2.out j k hsl.out hlt (by rw [ec, d])))
          have j0 : (j : Int) ≥ 0 := by omega
          have nv : noI (some j) = (j : Int) := rfl
          rw [nv]
          obtain ⟨r0, r1, r2, r3, r4, r5, r6, r7, r8⟩ := KH.out.2.1.1.four
          have B0 := KH.out.bel
          clear SN SH S2 SZ SC NO YES RP RT KH hsl hj d ec bg
          go_wp2
          refine bodyPost_ret (v := .tuple #[pv false 0 0 0, .int .i64 4]) (by simp [results, Tryz.results6, go_sem, World.cell?_setCell_same', World.cell?_setCell_other, *]) rfl ⟨false, 0, 0, 0, 4, rfl, G, by repeat (first | with_reducible exact Below.refl _ _ | with_reducible refine Below.drew ?_ | with_reducible refine Below.alloc ?_ (by first | omega | (simp <;> omega)) _ | with_reducible refine Below.setCell ?_ (by first | omega | (simp <;> omega)) _ | with_reducible refine Below.trans ?_ (Below.mono B0 (by first | omega | (simp <;> omega))))⟩
      · rw [decide_eq_false d] at q
        have G := hide (SN.out k p hsl.out hlt (by rw [ec]; exact d))
        have J := hide hj
        obtain ⟨P, hP⟩ : ∃ P, noI p = P := ⟨_, rfl⟩
        rw [hP]
        have PH := hide hP
        clear SN SH S2 SZ SC NO YES RP RT KH hsl hj d ec bg hP
        go_wp2
        go_round
        case rel => exact ⟨k + 1, p, by omega, by go_num, by rw [PH.out], (fun j e => Nat.lt_succ_of_lt (J.out j e)), G⟩
        case measure => (simp [intOf]; omega)
    · obtain rfl : k = s.size := by omega
      have hki : ¬ (s.size : Int) < (s.size : Int) := by omega
      clear SN SH S2
      cases p with
      | none =>
        have G := hide (NO.out (SZ.out hsl.out))
        have nv : noI none = -1 := rfl
        rw [nv]
        obtain ⟨r0, r1, r2, r3, r4, r5, r6, r7, r8⟩ := KH.out.2.1.1.four
        have B0 := KH.out.bel
        clear SZ SC NO YES RP RT KH hsl hj
        go_wp2
        refine bodyPost_ret (v := .tuple #[pv false 0 0 0, .int .i64 4]) (by simp [results, Tryz.results6, go_sem, World.cell?_setCell_same', World.cell?_setCell_other, *]) rfl ⟨false, 0, 0, 0, 4, rfl, G, by repeat (first | with_reducible exact Below.refl _ _ | with_reducible refine Below.drew ?_ | with_reducible refine Below.alloc ?_ (by first | omega | (simp <;> omega)) _ | with_reducible refine Below.setCell ?_ (by first | omega | (simp <;> omega)) _ | with_reducible refine Below.trans ?_ (Below.mono B0 (by first | omega | (simp <;> omega))))⟩
      | some j =>
        obtain ⟨cu, jl⟩ := SC.out j hsl.out
        have nv : noI (some j) = (j : Int) := rfl
        rw [nv]
        have j0 : ¬ (j : Int) < 0 := by omega
        have SX : Hid ((s.extract 0 j).data.toList = seg s 0 j) := ext_take s j (by omega)
        have SD : Hid ((s.extract (j + 1) s.size).data.toList = s.data.toList.drop (j + 1)) := ext_drop s (j + 1)
        have z1 : (s.extract 0 j).size ≤ 1000 := by rw [ByteArray.size_extract]; omega
        have z2 : (s.extract (j + 1) s.size).size ≤ 1000 := by rw [ByteArray.size_extract]; omega
        obtain ⟨T, hT⟩ : ∃ T, s.extract 0 j = T := ⟨_, rfl⟩
        obtain ⟨D, hD⟩ : ∃ D, s.extract (j + 1) s.size = D := ⟨_, rfl⟩
        rw [hT] at SX z1
        rw [hD] at SD z2
        rw [← SX.out, ← SD.out] at cu
        have NT := hide (fun e => NO.out (pf_text cu e))
        have ND := hide (fun e => NO.out (pf_dig cu e))
        have NB : Hid (∀ v a n, parseF T.data.toList = some (v, a) → digR D.data.toList = some n → okP v a (n : Int) = false → PParseIs SL false 0 0 0 4) := fun v a n e1 e2 e3 => NO.out (pf_bad cu e1 e2 e3)
        have YG : Hid (∀ v a n h l, parseF T.data.toList = some (v, a) → digR D.data.toList = some n → okP v a (n : Int) = true → IsNum h l a → PParseIs SL v h l (n : Nat) 0) := fun v a n h l e1 e2 e3 e4 => by
          have hw := width_le v
          have hb := (fitsB_parts (okP_parts e3).1).2.2
          exact YES.out v a n h l (pf_ok cu e1 e2 (by omega) e3) e4
        have RPT := hide (fun w' => RP.out T z1 w')
        have HT := hide hT
        have HD := hide hD
        have J1 : Hid (IntKind.i64.wrap ((j : Int) + 1) = ((j + 1 : Nat) : Int)) := by
          show _ = _
          simp [IntKind.wrap, IntKind.bits, IntKind.signed]
          omega
        clear cu SX SD z1 RP NO YES SZ SC hsl hj hT hD
        go_wp2_with fail
        rw [HT.out]
        refine (RPT.out _).mono ?_
        rintro e w1 ⟨v, h, l, c, rfl, hp, hb⟩
        have K1 := hide ((KH.out.below hb).push (b := w1.heap.size) (cs := [.bool v, .int .u64 h, .int .u64 l]) (t := 26) rfl)
        have jz : (j : Int) + 1 ≤ (s.size : Int) := by omega
        clear RPT hb KH HT
        obtain ⟨w2, hw2⟩ : ∃ w2, w2 = w1.alloc (.cells #[.bool v, .int .u64 h, .int .u64 l] 26) := ⟨_, rfl⟩
        have K2 : Hid (Kn w [(w1.heap.size, [.bool v, .int .u64 h, .int .u64 l], 26), (w.heap.size, [.bool false, .int .u64 0, .int .u64 0, .int .i64 0], 28)] w2) := hw2 ▸ K1.out
        clear K1
        go_upto_region 13 with fail
        rw [HD.out, ← hw2]
        clear hw2 HD J1 jz
        rcases hp.out with ⟨a, hpa, ha, rfl⟩ | ⟨hpn, rfl, rfl, rfl, rfl⟩
        rotate_left
        · have G := hide (NT.out hpn)
          obtain ⟨r0, r1, r2, r3, r4, r5, r6, r7, r8⟩ := K2.out.2.1.2.1.four
          have B2 := K2.out.bel
          clear NT ND NB YG RT K2 hp hpn
          go_wp2
          refine bodyPost_ret (v := .tuple #[pv false 0 0 0, .int .i64 4]) (by simp [results, Tryz.results6, go_sem, World.cell?_setCell_same', World.cell?_setCell_other, *]) rfl ⟨false, 0, 0, 0, 4, rfl, G, by repeat (first | with_reducible exact Below.refl _ _ | with_reducible refine Below.drew ?_ | with_reducible refine Below.alloc ?_ (by first | omega | (simp <;> omega)) _ | with_reducible refine Below.setCell ?_ (by first | omega | (simp <;> omega)) _ | with_reducible refine Below.trans ?_ (Below.mono B2 (by first | omega | (simp <;> omega))))⟩
        · have HPA := hide hpa
          have HA := hide ha
          clear hp hpa ha NT
          go_cut [61] from 40 to 61 (fun gv wc => ∃ t : Bool, gv = .bool t ∧ wc = w2 ∧ Hid (GuardZ D t))
          case first =>
            clear RT ND NB YG HPA HA K2
            by_cases l1 : D.size < 1
            · have l1' : (D.size : Int) < 1 := by omega
              have G : Hid (GuardZ D true) := ⟨badZ_short l1, fun e => by cases e⟩
              clear l1
              go_wp2_with fail
              go_meet
              case rel => exact ⟨true, rfl, rfl, G⟩
            · have l1' : ¬ (D.size : Int) < 1 := by omega
              by_cases l3 : 3 < D.size
              · have l3' : (D.size : Int) > 3 := by omega
                have G : Hid (GuardZ D true) := ⟨badZ_long l3, fun e => by cases e⟩
                clear l1 l3
                go_wp2_with fail
                go_meet
                case rel => exact ⟨true, rfl, rfl, G⟩
              · have l3' : ¬ (D.size : Int) > 3 := by omega
                by_cases l2 : 1 < D.size
                · have l2' : (D.size : Int) > 1 := by omega
                  have hn0 : 0 < D.size := by omega
                  obtain ⟨c0, e0⟩ : ∃ c, bt D 0 = c := ⟨_, rfl⟩
                  have b0' : ((D[0]'hn0).toNat : Int) = (c0.toNat : Int) := by rw [bt_get D 0 hn0, e0]
                  have q0 := c48_int c0
                  by_cases d0 : c0 = 48
                  · rw [decide_eq_true d0] at q0
                    have G : Hid (GuardZ D true) := ⟨badZ_nought l2 (by rw [e0, d0]), fun e => by cases e⟩
                    clear l1 l2 l3 e0 d0
                    go_wp2_with fail
                    go_meet
                    case rel => exact ⟨true, rfl, rfl, G⟩
                  · rw [decide_eq_false d0] at q0
                    have G : Hid (GuardZ D false) := ⟨badZ_no l1 l3 (fun h => d0 (by rw [← e0]; exact h.2)), fun _ => by omega⟩
                    clear l1 l2 l3 e0 d0
                    go_wp2_with fail
                    go_meet
                    case rel => exact ⟨false, rfl, rfl, G⟩
                · have l2' : ¬ (D.size : Int) > 1 := by omega
                  have G : Hid (GuardZ D false) := ⟨badZ_no l1 l3 (fun h => l2 h.1), fun _ => by omega⟩
                  clear l1 l2 l3
                  go_wp2_with fail
                  go_meet
                  case rel => exact ⟨false, rfl, rfl, G⟩
          case rest =>
            obtain ⟨t, rfl, hwc, hg⟩ := hcut
            rw [hwc]
            clear hwc
            cases t with
            | true =>
              have G := hide (ND.out (digR_bad hg.out.1))
              obtain ⟨r0, r1, r2, r3, r4, r5, r6, r7, r8⟩ := K2.out.2.1.2.1.four
              have B2 := K2.out.bel
              clear ND NB YG RT K2 HPA HA hg
              go_wp2
              refine bodyPost_ret (v := .tuple #[pv false 0 0 0, .int .i64 4]) (by simp [results, Tryz.results6, go_sem, World.cell?_setCell_same', World.cell?_setCell_other, *]) rfl ⟨false, 0, 0, 0, 4, rfl, G, by repeat (first | with_reducible exact Below.refl _ _ | with_reducible refine Below.drew ?_ | with_reducible refine Below.alloc ?_ (by first | omega | (simp <;> omega)) _ | with_reducible refine Below.setCell ?_ (by first | omega | (simp <;> omega)) _ | with_reducible refine Below.trans ?_ (Below.mono B2 (by first | omega | (simp <;> omega))))⟩
            | false =>
              obtain ⟨hd1, hd3⟩ := hg.out.2 rfl
              have DG : Hid (digR D.data.toList = digL 0 D.data.toList) := digR_good hg.out.1
              have D0 : Hid (digL 0 D.data.toList = digL 0 (D.data.toList.drop 0)) := by show _ = _; rw [List.drop_zero]
              clear hg
              go_wp2_with fail
              go_loop [9, 10] (fun nv iv => ∃ k n : Nat, k ≤ D.size ∧ iv = .int .i64 k ∧ nv = .int .i64 n ∧ Hid (n < 10 ^ k) ∧ Hid (digL 0 D.data.toList = digL n (D.data.toList.drop k))) (fun _ iv => D.size - (intOf iv).toNat)
              case atStart => exact ⟨0, 0, Nat.zero_le _, rfl, rfl, Nat.one_pos, D0⟩
              case round =>
                clear D0
                obtain ⟨k, n, hk, rfl, rfl, hn, hdl⟩ := hrel
                by_cases hlt : k < D.size
                · have hki : (k : Int) < (D.size : Int) := by omega
                  have n99 : n ≤ 99 := by
                    have p : 10 ^ k ≤ 10 ^ 2 := Nat.pow_le_pow_right (by decide) (by omega)
                    have := hn.out
                    omega
                  have bg : D[k] = bt D k := bt_get D k hlt
                  obtain ⟨c, ec⟩ : ∃ c : UInt8, bt D k = c := ⟨_, rfl⟩
                  have st := hdl.out
                  rw [drop_bt D k hlt, ec] at st
                  unfold digL at st
                  rw [ec] at bg
                  have bg' : (D[k].toNat : Int) = (c.toNat : Int) := by rw [bg]
                  have cl : c.toNat < 256 := UInt8.toNat_lt c
                  obtain ⟨C, hC⟩ : ∃ C : Nat, c.toNat = C := ⟨_, rfl⟩
                  rw [hC] at bg' st cl
                  by_cases b1 : C < 48
                  · have G := hide (ND.out (by rw [DG.out]; rw [if_pos (Or.inl b1)] at st; rw [← st]; cases D.data.toList <;> rfl))
                    have b1' : (C : Int) < 48 := by omega
                    obtain ⟨r0, r1, r2, r3, r4, r5, r6, r7, r8⟩ := K2.out.2.1.2.1.four
                    have B2 := K2.out.bel
                    clear ND NB YG RT K2 HPA HA DG hdl hn st hC ec bg b1
                    go_wp2
                    refine bodyPost_ret (v := .tuple #[pv false 0 0 0, .int .i64 4]) (by simp [results, Tryz.results6, go_sem, World.cell?_setCell_same', World.cell?_setCell_other, *]) rfl ⟨false, 0, 0, 0, 4, rfl, G, by repeat (first | with_reducible exact Below.refl _ _ | with_reducible refine Below.drew ?_ | with_reducible refine Below.alloc ?_ (by first | omega | (simp <;> omega)) _ | with_reducible refine Below.setCell ?_ (by first | omega | (simp <;> omega)) _ | with_reducible refine Below.trans ?_ (Below.mono B2 (by first | omega | (simp <;> omega))))⟩
                  · have b1' : ¬ (C : Int) < 48 := by omega
                    by_cases b2 : 57 < C
                    · have G := hide (ND.out (by rw [DG.out]; rw [if_pos (Or.inr b2)] at st; rw [← st]; cases D.data.toList <;> rfl))
                      have b2' : (C : Int) > 57 := by omega
                      obtain ⟨r0, r1, r2, r3, r4, r5, r6, r7, r8⟩ := K2.out.2.1.2.1.four
                      have B2 := K2.out.bel
                      clear ND NB YG RT K2 HPA HA DG hdl hn st hC ec bg b1 b2
                      go_wp2
                      refine bodyPost_ret (v := .tuple #[pv false 0 0 0, .int .i64 4]) (by simp [results, Tryz.results6, go_sem, World.cell?_setCell_same', World.cell?_setCell_other, *]) rfl ⟨false, 0, 0, 0, 4, rfl, G, by repeat (first | with_reducible exact Below.refl _ _ | with_reducible refine Below.drew ?_ | with_reducible refine Below.alloc ?_ (by first | omega | (simp <;> omega)) _ | with_reducible refine Below.setCell ?_ (by first | omega | (simp <;> omega)) _ | with_reducible refine Below.trans ?_ (Below.mono B2 (by first | omega | (simp <;> omega))))⟩
                    · have b2' : ¬ (C : Int) > 57 := by omega
                      obtain ⟨M, hM⟩ : ∃ M, 10 * n + (C - 48) = M := ⟨_, rfl⟩
                      have ST : Hid (digL 0 D.data.toList = digL M (D.data.toList.drop (k + 1))) := by
                        show _ = _
                        rw [if_neg (fun h => h.elim b1 b2), hM] at st
                        rw [← st]
                        cases D.data.toList <;> rfl
                      have MB : Hid (M < 10 ^ (k + 1)) := by
                        show _ < _
                        have := hn.out
                        rw [Nat.pow_succ]
                        omega
                      have MV : Hid ((M : Int) = 10 * (n : Int) + (C : Int) - 48) := by show _ = _; omega
                      clear ND NB YG RT K2 HPA HA DG hdl hn st hC ec bg hM
                      go_wp2
                      go_round
                      case rel => exact ⟨k + 1, M, by omega, by go_num, by rw [MV.out], MB, ST⟩
                      case measure => (simp [intOf]; omega)
                · obtain rfl : k = D.size := by omega
                  have hki : ¬ (D.size : Int) < (D.size : Int) := by omega
                  have n999 : n ≤ 999 := by
                    have p : 10 ^ D.size ≤ 10 ^ 3 := Nat.pow_le_pow_right (by decide) (by omega)
                    have := hn.out
                    omega
                  have ER : digR D.data.toList = some n := by
                    rw [DG.out, hdl.out, drop_all]
                    rfl
                  have NB2 := hide (fun e => NB.out v a n HPA.out ER e)
                  have YG2 := hide (fun e => YG.out v a n h l HPA.out ER e HA.out)
                  have RT2 := hide (fun w' => RT.out v h l (n : Int) a HA.out w')
                  have F2 := K2.out.1
                  simp only [Facts, CellsAt] at F2
                  obtain ⟨ok, hok⟩ : ∃ ok, okP v a (n : Int) = ok := ⟨_, rfl⟩
                  rw [hok] at NB2 YG2 RT2
                  clear ND NB YG RT HPA HA DG hdl hn ER hok
                  go_wp2_with fail
                  refine (RT2.out _).mono ?_
                  rintro e w5 ⟨rfl, hb⟩
                  have K5 := hide ((K2.out.push (b := w2.heap.size) (cs := [.bool v, .int .u64 h, .int .u64 l, .int .i64 n]) (t := 28) rfl).below hb)
                  have hne : w.heap.size ≠ w2.heap.size := Nat.ne_of_lt K2.out.2.1.2.1.lt
                  clear RT2 hb K2 F2
                  obtain ⟨r0, r1, r2, r3, r4, r5, r6, r7, r8⟩ := K5.out.2.1.2.2.1.four
                  obtain ⟨p0, p1, p2, p3, p4, p5, p6, p7, p8⟩ := K5.out.2.1.1.four
                  have B5 := K5.out.bel
                  clear K5
                  cases ok
                  · have gx := hide (NB2.out rfl)
                    clear NB2 YG2
                    go_wp2
                    refine bodyPost_ret (v := .tuple #[pv false 0 0 0, .int .i64 4]) (by simp [results, Tryz.results6, go_sem, World.cell?_setCell_same', World.cell?_setCell_other, *]) rfl ⟨false, 0, 0, 0, 4, rfl, gx, by repeat (first | with_reducible exact Below.refl _ _ | with_reducible refine Below.drew ?_ | with_reducible refine Below.alloc ?_ (by first | omega | (simp <;> omega)) _ | with_reducible refine Below.setCell ?_ (by first | omega | (simp <;> omega)) _ | with_reducible refine Below.trans ?_ (Below.mono B5 (by first | omega | (simp <;> omega))))⟩
                  · have gx := hide (YG2.out rfl)
                    clear NB2 YG2
                    go_wp2
                    refine bodyPost_ret (v := .tuple #[pv v h l n, .int .i64 0]) (by simp [results, Tryz.results6, go_sem, World.cell?_setCell_same', World.cell?_setCell_other, *]) rfl ⟨v, h, l, n, 0, rfl, gx, by repeat (first | with_reducible exact Below.refl _ _ | with_reducible refine Below.drew ?_ | with_reducible refine Below.alloc ?_ (by first | omega | (simp <;> omega)) _ | with_reducible refine Below.setCell ?_ (by first | omega | (simp <;> omega)) _ | with_reducible refine Below.trans ?_ (Below.mono B5 (by first | omega | (simp <;> omega))))⟩
end Go.Proofs.YtipjmmhlfmahbaaGreatDoor
