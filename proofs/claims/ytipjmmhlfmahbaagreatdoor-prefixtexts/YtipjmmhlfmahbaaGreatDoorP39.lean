/-
  Texts RfS of the proof.
-/
import Derived.Deep.CutBlock
import Derived.Deep.DeepCutAuto
import Derived.Deep.LoopGhost
import Derived.Test.YtipjmmhlfmahbaaGreatDoorP32
import Derived.Test.YtipjmmhlfmahbaaGreatDoorP33

namespace Go.Proofs.YtipjmmhlfmahbaaGreatDoor
open Go.ChangeShapes Go.WideShapes Go.ChangeAt Go.RowKit
set_option linter.unusedVariables false
set_option linter.unusedSimpArgs false

theorem ext_drop (s : ByteArray) (a : Nat) : (s.extract a s.size).data.toList = s.data.toList.drop a := by
  rw [ByteArray.data_extract]
  have : s.size = s.data.size := rfl
  rw [this, Array.toList_extract]
  simp
  exact List.take_of_length_le (by simp)

theorem two_new (W : World) (x y : Value) (t : TypeId) : ∀ (j : Nat) (u : Value), [x, y][j]? = some u → (W.alloc (.cells #[x, y] t)).cell? ((⟨W.heap.size, 0, none⟩ : Addr).add j) = some u := by
  intro j u hj
  match j, hj with
  | 0, hj => simp at hj; subst hj; simp [Addr.add]
  | 1, hj => simp at hj; subst hj; simp [Addr.add]

theorem two_ok (x y : Int) : ∀ u ∈ ([.int .u8 x, .int .u8 y] : List Value), u.oneCell' = true := by
  intro u hu
  simp at hu
  rcases hu with rfl | rfl <;> rfl

set_option maxRecDepth 100000 in
set_option maxHeartbeats 16000000 in
theorem rparse_long (s : ByteArray) (hs : s.size ≤ 1000) (hc : colonF s.data.toList = true) (w : World) :
    Calls Tryz.prog 18 #[.string s] w fun e w' => RPRet s.data.toList w e w' := by
  have HC := hide (hasC_step s)
  have HA : Hid (hasC s s.size = true) := (hasC_all s).trans hc
  have W0 : Blk (w.alloc (.cells #[.bool false, .int .u64 0, .int .u64 0] 26)) w.heap.size #[.bool false, .int .u64 0, .int .u64 0] 26 := Blk.new _ _ _
  have B0 : Below w.heap.size w (w.alloc (.cells #[.bool false, .int .u64 0, .int .u64 0] 26)) := by repeat (first | with_reducible exact Below.refl _ _ | with_reducible refine Below.drew ?_ | with_reducible refine Below.alloc ?_ (by first | omega | (simp <;> omega)) _ | with_reducible refine Below.setCell ?_ (by first | omega | (simp <;> omega)) _)
  obtain ⟨i0, hi, hz0, hz1, hz2⟩ := info_parts infoU8
  have BAD : Hid (refL s.data.toList = none → ParseIs s.data.toList false 0 0 4) := by
    intro e
    refine Or.inr ⟨?_, rfl, rfl, rfl, rfl⟩
    have ne : s.data.toList ≠ [] := by
      intro q
      rw [q] at hc
      cases hc
    unfold parseF
    rw [hc, if_pos rfl, ← refL_is ne, e]
    rfl
  have FIN : Hid (∀ n, refL s.data.toList = some n → ∀ h l, IsNum h l n → ParseIs s.data.toList true h l 0) := by
    intro n e h l hn
    refine Or.inl ⟨n, ?_, hn, rfl⟩
    have ne : s.data.toList ≠ [] := by
      intro q
      rw [q] at hc
      cases hc
    unfold parseF
    rw [hc, if_pos rfl, ← refL_is ne, e]
    rfl
  have FO := hide (fun (t : ByteArray) (ht : t.size ≤ 1000) (w' : World) => rfour_c t ht w')
  have DG := hide (fun (c : UInt8) (V : Int) (hV : digV c.toNat = V) (w' : World) => rdigit_c (UInt8.toNat_lt c) hV w')
  have WH := hide W0
  have BH := hide B0
  obtain ⟨w0, hw0⟩ : ∃ w0, w0 = w.alloc (.cells #[.bool false, .int .u64 0, .int .u64 0] 26) := ⟨_, rfl⟩
  rw [← hw0] at WH BH
  have Z0 : Hid (w0.heap.size = w.heap.size + 1) := by show _ = _; rw [hw0]; simp
  clear hc W0 B0
  go_enter Tryz.func18, Tryz.ntmps18
  go_wp2_with fail
  rw [← hw0]
  clear hw0
  go_loop [4, 5] (fun cv iv => ∃ k : Nat, k ≤ s.size ∧ iv = .int .i64 k ∧ cv = .bool (hasC s k)) (fun _ iv => s.size - (intOf iv).toNat)
  case atStart => exact ⟨0, Nat.zero_le _, rfl, rfl⟩
  case round =>
    obtain ⟨k, hk, rfl, rfl⟩ := hrel
    by_cases hlt : k < s.size
    · have hki : (k : Int) < (s.size : Int) := by omega
      have st := HC.out k hlt
      have bg : s[k] = bt s k := bt_get s k hlt
      obtain ⟨c, ec⟩ : ∃ c : UInt8, bt s k = c := ⟨_, rfl⟩
      rw [ec] at bg st
      have bg' : (s[k].toNat : Int) = (c.toNat : Int) := by rw [bg]
      have c58 : (c == 58) = decide (c.toNat = 58) := by
        rw [Bool.eq_iff_iff, beq_iff_eq, decide_eq_true_iff]
        exact ⟨fun e => by rw [e]; rfl, fun e => UInt8.toNat_inj.1 e⟩
      obtain ⟨C, hC⟩ : ∃ C : Nat, c.toNat = C := ⟨_, rfl⟩
      rw [hC] at bg' c58
      obtain ⟨b0, hb0⟩ : ∃ b0, hasC s k = b0 := ⟨_, rfl⟩
      rw [hb0, c58] at st
      rw [hb0]
      have ST := hide st
      clear st c58 hC ec hb0 bg HC HA
      by_cases d : C = 58
      · have d' : ((C : Int) == 58) = true := by rw [beq_iff_eq]; omega
        have X : Hid (hasC s (k + 1) = true) := by show _ = _; rw [ST.out, d]; simp
        cases b0
        all_goals
          go_wp2
          go_round
          case rel => exact ⟨k + 1, by omega, by go_num, by rw [X.out]⟩
          case measure => (simp [intOf]; omega)
      · have d' : ((C : Int) == 58) = false := by rw [beq_eq_false_iff_ne]; omega
        have X : Hid (hasC s (k + 1) = b0) := by show _ = _; rw [ST.out, decide_eq_false d, Bool.or_false]
        cases b0
        all_goals
          go_wp2
          go_round
          case rel => exact ⟨k + 1, by omega, by go_num, by rw [X.out]⟩
          case measure => (simp [intOf]; omega)
    · obtain rfl : k = s.size := by omega
      rw [HA.out]
      have hki : ¬ (s.size : Int) < (s.size : Int) := by omega
      clear HC HA
      go_upto_region 14 with fail
      obtain ⟨W1, hW1⟩ : ∃ W1, W1 = w0.alloc (.cells #[] 5) := ⟨_, rfl⟩
      rw [← hW1]
      have O1 : Hid (PSq w (.slice (some ⟨w0.heap.size, 0, none⟩) 0 0) [] W1) := by
        rw [hW1]
        exact ⟨World.ownsRow_made _ _ _ (by rw [Z0.out]; exact Nat.le_refl _) (Nat.zero_le _) rfl, WH.out.alloc _, BH.out.alloc (by rw [Z0.out]; omega) _, by have := Z0.out; simp; omega⟩
      clear WH BH
      go_cut [57] from 45 to 57 (fun gv wc => ∃ t : Bool, gv = .bool t ∧ wc = W1 ∧ Hid (StartB s t))
      case first =>
        clear hW1 O1
        by_cases l2 : 2 ≤ s.size
        · have l2' : (s.size : Int) ≥ 2 := by omega
          obtain ⟨c0, e0⟩ : ∃ c, bt s 0 = c := ⟨_, rfl⟩
          obtain ⟨c1, e1⟩ : ∃ c, bt s 1 = c := ⟨_, rfl⟩
          have T1 := hide (fun h : c0 = 58 ∧ c1 = 58 => start_two (s := s) ⟨l2, by rw [e0]; exact h.1, by rw [e1]; exact h.2⟩)
          have T0 := hide (fun h : ¬ (c0 = 58 ∧ c1 = 58) => start_one (s := s) (fun q => h ⟨by rw [← e0]; exact q.2.1, by rw [← e1]; exact q.2.2⟩))
          have hn0 : 0 < s.size := by omega
          have hn1 : 1 < s.size := by omega
          have b0' : ((s[0]'hn0).toNat : Int) = (c0.toNat : Int) := by rw [bt_get s 0 hn0, e0]
          have b1' : ((s[1]'hn1).toNat : Int) = (c1.toNat : Int) := by rw [bt_get s 1 hn1, e1]
          have q0 := c58_int c0
          have q1 := c58_int c1
          clear e0 e1 l2
          by_cases d0 : c0 = 58
          · rw [decide_eq_true d0] at q0
            by_cases d1 : c1 = 58
            · rw [decide_eq_true d1] at q1
              have G := hide (T1.out ⟨d0, d1⟩)
              clear T1 T0 d0 d1
              go_wp2_with fail
              go_meet
              case rel => exact ⟨true, rfl, rfl, G⟩
            · rw [decide_eq_false d1] at q1
              have G := hide (T0.out (fun h => d1 h.2))
              clear T1 T0 d0 d1
              go_wp2_with fail
              go_meet
              case rel => exact ⟨false, rfl, rfl, G⟩
          · rw [decide_eq_false d0] at q0
            have G := hide (T0.out (fun h => d0 h.1))
            clear T1 T0 d0 q1 b1'
            go_wp2_with fail
            go_meet
            case rel => exact ⟨false, rfl, rfl, G⟩
        · have l2' : ¬ (s.size : Int) ≥ 2 := by omega
          have G := hide (start_one (s := s) (fun q => l2 q.1))
          clear l2
          go_wp2_with fail
          go_meet
          case rel => exact ⟨false, rfl, rfl, G⟩
      case rest =>
        obtain ⟨t, rfl, hwc, hst⟩ := hcut
        rw [hwc]
        clear hwc hW1
        go_upto_if 57 with fail
        go_cut [9, 10] from 9 to 10 (fun gv av wc => ∃ (a : Nat) (gap : Option Nat) (f : Nat), gv = .int .i64 (noI gap) ∧ av = .int .i64 a ∧ wc = W1 ∧ Hid (PIn s [] gap a f))
        case first =>
          clear O1
          have G := hide hst.out.pin
          clear hst
          cases t with
          | true =>
            go_wp2_with fail
            go_meet
            case rel => exact ⟨2, some 0, _, rfl, rfl, rfl, G⟩
          | false =>
            go_wp2_with fail
            go_meet
            case rel => exact ⟨0, none, _, rfl, rfl, rfl, G⟩
        case rest =>
          clear hst
          obtain ⟨a0, gap0, f0, rfl, rfl, hwc, hin⟩ := hcut
          rw [hwc]
          clear hwc
          go_upto_block 2 with fail
          go_cut [8, 9] (fun u gv wc => ∃ (out : List Nat) (gap : Option Nat), gv = .int .i64 (noI gap) ∧ Hid (PSq w u out wc) ∧ Hid (PEx s out gap))
          case first =>
            have a0s := hin.out.le
            go_wp2_with fail
            go_loopg [8, 9, 10] (s.size + 1) (fun k u gv av wr => ∃ (a : Nat) (out : List Nat) (gap : Option Nat) (f : Nat), s.size < a + k ∧ a ≤ s.size ∧ gv = .int .i64 (noI gap) ∧ av = .int .i64 a ∧ Hid (PSq w u out wr) ∧ Hid (PIn s out gap a f))
            case atStart => exact ⟨a0, [], gap0, f0, by omega, a0s, rfl, rfl, O1, hin⟩
            case round =>
              clear O1 hin
              obtain ⟨a, out, gap, f, hga, hle, rfl, rfl, hsq, hin⟩ := hrel
              by_cases ha : a < s.size
              · have hai : (a : Int) < (s.size : Int) := by omega
                go_upto_block 4 with fail
                go_cut [11, 12] (fun ev dv wc => ∃ (e : Nat) (D : Bool), ev = .int .i64 e ∧ dv = .bool D ∧ wc = wr ∧ Hid (D = decide ((46 : UInt8) ∈ seg s a e)) ∧ Hid (Piece s a e))
                case first =>
                  clear hsq hin hga
                  go_wp2_with fail
                  go_loop [11, 12] (fun ev dv => ∃ (e : Nat) (D : Bool), ev = .int .i64 e ∧ dv = .bool D ∧ a ≤ e ∧ e ≤ s.size ∧ Hid (D = decide ((46 : UInt8) ∈ seg s a e)) ∧ Hid ((58 : UInt8) ∉ seg s a e)) (fun ev _ => s.size - (intOf ev).toNat)
                  case atStart => exact ⟨a, false, rfl, rfl, Nat.le_refl _, hle, by show _ = _; rw [seg_nil]; rfl, by show _ ∉ _; rw [seg_nil]; simp⟩
                  case round =>
                    obtain ⟨e, D, rfl, rfl, h1, h2, hD, hN⟩ := hrel
                    by_cases hlt : e < s.size
                    · have hki : (e : Int) < (s.size : Int) := by omega
                      obtain ⟨c, ec⟩ : ∃ c : UInt8, bt s e = c := ⟨_, rfl⟩
                      have bg' : ((s[e]'hlt).toNat : Int) = (c.toNat : Int) := by rw [bt_get s e hlt, ec]
                      have q0 := c58_int c
                      have st := seg_step s a e h1 hlt
                      rw [ec] at st
                      have ST := hide st
                      clear st
                      by_cases d : c = 58
                      · rw [decide_eq_true d] at q0
                        have q0' : ((c.toNat : Int) != 58) = false := by simp only [bne, q0]; rfl
                        have P : Hid (Piece s a e) := ⟨h1, h2, hN.out, Or.inr (by rw [ec, d])⟩
                        clear ST ec d hN
                        go_wp2_with fail
                        go_meet
                        case rel => exact ⟨e, D, rfl, rfl, rfl, hD, P⟩
                      · rw [decide_eq_false d] at q0
                        have q0' : ((c.toNat : Int) != 58) = true := by simp only [bne, q0]; rfl
                        have N2 : Hid ((58 : UInt8) ∉ seg s a (e + 1)) := by
                          show _ ∉ _
                          rw [ST.out]
                          simp only [List.mem_append, List.mem_singleton, not_or]
                          exact ⟨hN.out, fun q => d q.symm⟩
                        have r0 := c46_int c
                        have D2 : Hid ((D || decide (c = 46)) = decide ((46 : UInt8) ∈ seg s a (e + 1))) := by
                          show _ = _
                          rw [ST.out, hD.out, Bool.eq_iff_iff]
                          simp only [List.mem_append, List.mem_singleton, Bool.or_eq_true, decide_eq_true_eq]
                          exact ⟨fun q => q.imp id (fun x => x.symm), fun q => q.imp id (fun x => x.symm)⟩
                        clear ST ec d hN hD
                        by_cases d2 : c = 46
                        · rw [decide_eq_true d2] at r0 D2
                          rw [Bool.or_true] at D2
                          clear d2
                          cases D
                          all_goals
                            go_wp2
                            go_round
                            case rel => exact ⟨e + 1, true, by go_num, rfl, by omega, by omega, D2, N2⟩
                            case measure => (simp [intOf]; omega)
                        · rw [decide_eq_false d2] at r0 D2
                          rw [Bool.or_false] at D2
                          clear d2
                          cases D
                          all_goals
                            go_wp2
                            go_round
                            case rel => exact ⟨e + 1, _, by go_num, rfl, by omega, by omega, D2, N2⟩
                            case measure => (simp [intOf]; omega)
                    · obtain rfl : e = s.size := by omega
                      have hki : ¬ (s.size : Int) < (s.size : Int) := by omega
                      have P : Hid (Piece s a s.size) := ⟨h1, h2, hN.out, Or.inl rfl⟩
                      clear hN
                      go_wp2_with fail
                      go_meet
                      case rel => exact ⟨s.size, D, rfl, rfl, rfl, hD, P⟩
                case rest =>
                  obtain ⟨e, D, rfl, rfl, hwc, hD, hp⟩ := hcut
                  rw [hwc]
                  clear hwc
                  have pae := hp.out.ae
                  have pes := hp.out.es
                  obtain ⟨q, cap, hu⟩ := slice_of hsq.out.own
                  subst hu
                  cases D with
                  | true =>
                    have d : (46 : UInt8) ∈ seg s a e := of_decide_eq_true hD.out.symm
                    have DN := hide (fun q => hin.out.dot_no hp.out ha d q)
                    have DY := hide (fun (b : List Nat) q => hin.out.dot_yes hp.out ha d (b := b) q)
                    have oL := hin.out.ol
                    clear hin hD d hp
                    go_wp2_with fail
                    have SX : Hid ((s.extract a s.size).data.toList = s.data.toList.drop a) := by show _ = _; exact ext_drop s a
                    have SZ : (s.extract a s.size).size ≤ 1000 := by rw [ByteArray.size_extract]; omega
                    obtain ⟨sx, hsx⟩ : ∃ sx, s.extract a s.size = sx := ⟨_, rfl⟩
                    rw [hsx] at SX SZ
                    rw [hsx]
                    clear hsx
                    refine (FO.out sx SZ _).mono ?_
                    rintro e1 w1 ⟨sv, ok, rfl, hF, hb⟩
                    have hF2 := hF.out
                    rw [SX.out] at hF2
                    have S1 := hide (hsq.out.below hb)
                    clear hF hb hsq SX SZ FO DG
                    rcases hF2 with ⟨bs, h1, rfl, h3⟩ | ⟨h1, rfl⟩
                    · have PE := hide (DY.out bs h1)
                      have b4 : bs.length = 4 := (four_bytes _ none [] bs (fun v e => by cases e) (fun b m => by cases m) h1).1
                      obtain ⟨g, cp, rfl, hcell, hg⟩ := row_of h3 (by omega)
                      have hnews : ∀ (j : Nat) (u : Value), (bytC bs)[j]? = some u → w1.cell? ((⟨g, 0, none⟩ : Addr).add j) = some u := fun j u hu => h3.cells (g := g) rfl j u hu
                      have hone : ∀ u ∈ bytC bs, u.oneCell' = true := by
                        intro u hu
                        obtain ⟨x, _, rfl⟩ := List.mem_map.1 hu
                        rfl
                      have hlen : (bytC bs).length = 4 * 1 := by rw [List.length_map]; omega
                      have sz1 := S1.out.siz
                      have HN := hide hnews
                      have HO := hide hone
                      clear DN DY h1 BAD hnews hone hcell h3
                      go_wp2_with (first | (at_builtin; refine wpList_append_own _ rfl _ _ 63 rfl (w.heap.size + 1) 5 i0 (.int .u8 0) 1 1 Tryz.underlying63 hi hz0 hz1 hz2 rfl (by decide) _ _ _ rfl S1.out.own ⟨g, 0, none⟩ 4 cp (bytC bs) rfl hlen HN.out HO.out ?c3 ?c4 ?c5 ?_))
                      case c3 => unfold maxLen; omega
                      case c4 => omega
                      case c5 => omega
                      intro v' w4 hown hgrow _
                      have S4 : Hid (PSq w v' (out ++ bs) w4) := by
                        refine S1.out.grown0 ?_ hgrow
                        rw [List.length_append, b4, show bytC (out ++ bs) = bytC out ++ bytC bs by simp [bytC]]
                        exact hown
                      clear hown hgrow S1 HN HO hlen
                      go_wp2_with fail
                      go_meet
                      case rel => exact ⟨out ++ bs, gap, rfl, S4, PE⟩
                    · have G := hide (BAD.out (DN.out h1))
                      have R1 := S1.out.res
                      obtain ⟨r0, r1, r2, r3, r4, r5, r6⟩ := R1.three
                      have B1 := S1.out.bel
                      clear S1 BAD DN DY h1 hga R1
                      go_wp2
                      refine bodyPost_ret (v := .tuple #[av false 0 0, .int .i64 4]) (by simp [results, Tryz.results18, go_sem, World.cell?_setCell_same', World.cell?_setCell_other, *]) rfl ⟨false, 0, 0, 4, rfl, G, by repeat (first | with_reducible exact Below.refl _ _ | with_reducible refine Below.drew ?_ | with_reducible refine Below.alloc ?_ (by first | omega | (simp <;> omega)) _ | with_reducible refine Below.setCell ?_ (by first | omega | (simp <;> omega)) _ | with_reducible refine Below.trans ?_ (Below.mono B1 (by first | omega | (simp <;> omega))))⟩
                  | false =>
                    have d : (46 : UInt8) ∉ seg s a e := of_decide_eq_false hD.out.symm
                    by_cases z : e = a ∨ 4 < e - a
                    · have G := hide (BAD.out (hin.out.size_no hp.out ha d z))
                      clear hin hD d hp DG FO BAD
                      have zz : ((e : Int) == (a : Int)) = true ∨ (((e : Int) == (a : Int)) = false ∧ (e : Int) - (a : Int) > 4) := by
                        rcases z with z | z
                        · exact Or.inl (by rw [beq_iff_eq]; omega)
                        · exact Or.inr ⟨by rw [beq_eq_false_iff_ne]; omega, by omega⟩
                      clear z
                      rcases zz with z1 | ⟨z1, z2⟩
                      all_goals
                        have R1 := hsq.out.res
                        obtain ⟨r0, r1, r2, r3, r4, r5, r6⟩ := R1.three
                        have B1 := hsq.out.bel
                        clear hsq hga R1
                        go_wp2
                        refine bodyPost_ret (v := .tuple #[av false 0 0, .int .i64 4]) (by simp [results, Tryz.results18, go_sem, World.cell?_setCell_same', World.cell?_setCell_other, *]) rfl ⟨false, 0, 0, 4, rfl, G, by repeat (first | with_reducible exact Below.refl _ _ | with_reducible refine Below.drew ?_ | with_reducible refine Below.alloc ?_ (by first | omega | (simp <;> omega)) _ | with_reducible refine Below.setCell ?_ (by first | omega | (simp <;> omega)) _ | with_reducible refine Below.trans ?_ (Below.mono B1 (by first | omega | (simp <;> omega))))⟩
                    · have q1 : a < e := by omega
                      have q4 : e - a ≤ 4 := by omega
                      have z1 : ((e : Int) == (a : Int)) = false := by rw [beq_eq_false_iff_ne]; omega
                      have z2 : ¬ (e : Int) - (a : Int) > 4 := by omega
                      obtain ⟨H0, hH⟩ : ∃ H0, hexL 0 (seg s a e) = H0 := ⟨_, rfl⟩
                      have HH : Hid (hexL 0 (seg s a e) = H0) := hH
                      have XN := hide (fun k : H0 = none => BAD.out (hin.out.hex_no hp.out ha d q1 q4 (hH.trans k)))
                      have HL := hide (fun (n : Nat) (k : H0 = some n) => hin.out.hex_lt hp.out ha q1 q4 (hH.trans k))
                      have LN := hide (fun (n : Nat) (k : H0 = some n) l => BAD.out (hin.out.long_no hp.out ha d q1 q4 (hH.trans k) l))
                      have EN := hide (fun (n : Nat) (k : H0 = some n) l x => hin.out.ends hp.out ha d q1 q4 (hH.trans k) l x)
                      have LA := hide (fun (n : Nat) (k : H0 = some n) x => BAD.out (hin.out.last_no hp.out ha d q1 q4 (hH.trans k) x))
                      have GN := hide (fun (n : Nat) (k : H0 = some n) x c (g : Nat) hg => BAD.out (hin.out.gap_no hp.out ha d q1 q4 (hH.trans k) x c (g := g) hg))
                      have GY := hide (fun (n : Nat) (k : H0 = some n) l x c hg => hin.out.gap_yes hp.out ha d q1 q4 (hH.trans k) l x c hg)
                      have GO := hide (fun (n : Nat) (k : H0 = some n) l x c => hin.out.goes hp.out ha d q1 q4 (hH.trans k) l x c)
                      have oL := hin.out.ol
                      clear hin hp d hD hH z BAD FO
                      go_wp2_with fail
                      go_loop [15, 16] (fun nv kv => ∃ (n k : Nat), nv = .int .i64 n ∧ kv = .int .i64 k ∧ a ≤ k ∧ k ≤ e ∧ Hid (n < 16 ^ (k - a)) ∧ Hid (hexL n (seg s k e) = H0)) (fun _ kv => s.size - (intOf kv).toNat)
                      case atStart => exact ⟨0, a, rfl, rfl, Nat.le_refl _, pae, by show _ < _; simp, HH⟩
                      case round =>
                        clear HH z1 z2
                        obtain ⟨n, k, rfl, rfl, hk1, hk2, hn, hx⟩ := hrel
                        by_cases hke : k < e
                        · have hki : (k : Int) < (e : Int) := by omega
                          have hks : k < s.size := by omega
                          obtain ⟨c, ec⟩ : ∃ c : UInt8, bt s k = c := ⟨_, rfl⟩
                          have bg' : ((s[k]'hks).toNat : Int) = (c.toNat : Int) := by rw [bt_get s k hks, ec]
                          have st := seg_cons s k e hke pes
                          rw [ec] at st
                          have n16 : n < 65536 := by
                            have := hn.out
                            have m : 16 ^ (k - a) ≤ 16 ^ 4 := Nat.pow_le_pow_right (by omega) (by omega)
                            omega
                          have hx2 := hx.out
                          rw [st] at hx2
                          unfold hexL at hx2
                          clear ec st hx LN EN LA GN GY GO HL
                          cases hd : hexD c.toNat with
                          | none =>
                            rw [hd] at hx2
                            have G := hide (XN.out hx2.symm)
                            have V : digV c.toNat = -1 := by unfold digV; rw [hd]
                            have D1 := hide (DG.out c _ V)
                            clear hx2 XN V hd DG hn
                            go_wp2_with fail
                            refine (D1.out _).mono ?_
                            rintro e1 w1 ⟨rfl, rfl⟩
                            have R1 := hsq.out.res
                            obtain ⟨r0, r1, r2, r3, r4, r5, r6⟩ := R1.three
                            have B1 := hsq.out.bel
                            clear hsq hga D1 R1
                            go_wp2
                            refine bodyPost_ret (v := .tuple #[av false 0 0, .int .i64 4]) (by simp [results, Tryz.results18, go_sem, World.cell?_setCell_same', World.cell?_setCell_other, *]) rfl ⟨false, 0, 0, 4, rfl, G, by repeat (first | with_reducible exact Below.refl _ _ | with_reducible refine Below.drew ?_ | with_reducible refine Below.alloc ?_ (by first | omega | (simp <;> omega)) _ | with_reducible refine Below.setCell ?_ (by first | omega | (simp <;> omega)) _ | with_reducible refine Below.trans ?_ (Below.mono B1 (by first | omega | (simp <;> omega))))⟩
                          | some dv =>
                            rw [hd] at hx2
                            have X2 : Hid (hexL (n * 16 + dv) (seg s (k + 1) e) = H0) := hx2
                            have dl := hexD_lt hd
                            have N2 : Hid (n * 16 + dv < 16 ^ (k + 1 - a)) := by
                              show _ < _
                              rw [show k + 1 - a = (k - a) + 1 by omega, Nat.pow_succ]
                              have := hn.out
                              omega
                            have V : digV c.toNat = (dv : Int) := by unfold digV; rw [hd]
                            have D1 := hide (DG.out c _ V)
                            have dn : ¬ (dv : Int) < 0 := by omega
                            clear hx2 XN V hd DG hn hsq
                            go_wp2_with fail
                            refine (D1.out _).mono ?_
                            rintro e1 w1 ⟨rfl, rfl⟩
                            go_wp2_with fail
                            refine (D1.out _).mono ?_
                            rintro e1 w1 ⟨rfl, rfl⟩
                            go_wp2
                            go_round
                            case rel => exact ⟨n * 16 + dv, k + 1, by go_num, by go_num, by omega, by omega, N2, X2⟩
                            case measure => (simp [intOf]; omega)
                        · have hke2 : k = e := by omega
                          subst hke2
                          have hki : ¬ (k : Int) < (k : Int) := by omega
                          have hn0 : H0 = some n := by
                            have := hx.out
                            rw [seg_nil] at this
                            exact this.symm
                          have n16 := HL.out n hn0
                          have wA : IntKind.u8.wrap ((n : Int) / 256) = ((n / 256 : Nat) : Int) := by simp [IntKind.wrap, IntKind.bits, IntKind.signed]; try omega
                          have wB : IntKind.u8.wrap ((n : Int) % 256) = ((n % 256 : Nat) : Int) := by simp [IntKind.wrap, IntKind.bits, IntKind.signed]; try omega
                          have sz1 := hsq.out.siz
                          have LN2 := hide (LN.out n hn0)
                          have EN2 := hide (EN.out n hn0)
                          have LA2 := hide (LA.out n hn0)
                          have GN2 := hide (GN.out n hn0)
                          have GY2 := hide (GY.out n hn0)
                          have GO2 := hide (GO.out n hn0)
                          clear hx hn HL LN EN LA GN GY GO XN hn0 DG
                          go_wp2_with (first | (at_builtin; refine wpList_append_own _ rfl _ _ 63 rfl (w.heap.size + 1) 5 i0 (.int .u8 0) 1 1 Tryz.underlying63 hi hz0 hz1 hz2 rfl (by decide) _ _ _ rfl (hsq.out.own.alloc _) ⟨wr.heap.size, 0, none⟩ 2 2 [.int .u8 ((n / 256 : Nat) : Int), .int .u8 ((n % 256 : Nat) : Int)] rfl rfl (two_new wr _ _ _) (two_ok _ _) ?c3 ?c4 ?c5 ?_))
                          case c3 => unfold maxLen; omega
                          case c4 => omega
                          case c5 => (first | omega | (simp; omega))
                          intro v' w4 hown hgrow _
                          have s4 : PSq w v' (out ++ [n / 256, n % 256]) w4 := by
                            refine hsq.out.grown ?_ hgrow
                            rw [List.length_append, show bytC (out ++ [n / 256, n % 256]) = bytC out ++ [.int .u8 ((n / 256 : Nat) : Int), .int .u8 ((n % 256 : Nat) : Int)] by simp [bytC]]
                            exact hown
                          have ol2 : (out ++ [n / 256, n % 256]).length = out.length + 2 := by rw [List.length_append]; rfl
                          obtain ⟨q', cap', hv⟩ := slice_of s4.own
                          subst hv
                          have S4 := hide s4
                          clear hown hgrow s4 hsq
                          obtain ⟨o2, ho2⟩ : ∃ o2, out ++ [n / 256, n % 256] = o2 := ⟨_, rfl⟩
                          rw [ho2] at S4 EN2 GY2 GO2 ol2 ⊢
                          have ol3 : Hid (o2.length = out.length + 2) := ol2
                          clear ho2 wA wB n16
                          by_cases l14 : 14 < out.length
                          · have G := hide (LN2.out l14)
                            have g16 : (o2.length : Int) > 16 := by omega
                            have R1 := S4.out.res
                            obtain ⟨r0, r1, r2, r3, r4, r5, r6⟩ := R1.three
                            have B1 := S4.out.bel
                            clear S4 hga LN2 EN2 LA2 GN2 GY2 GO2 R1
                            go_wp2
                            refine bodyPost_ret (v := .tuple #[av false 0 0, .int .i64 4]) (by simp [results, Tryz.results18, go_sem, World.cell?_setCell_same', World.cell?_setCell_other, *]) rfl ⟨false, 0, 0, 4, rfl, G, by repeat (first | with_reducible exact Below.refl _ _ | with_reducible refine Below.drew ?_ | with_reducible refine Below.alloc ?_ (by first | omega | (simp <;> omega)) _ | with_reducible refine Below.setCell ?_ (by first | omega | (simp <;> omega)) _ | with_reducible refine Below.trans ?_ (Below.mono B1 (by first | omega | (simp <;> omega))))⟩
                          · have g16 : ¬ (o2.length : Int) > 16 := by omega
                            by_cases es : k = s.size
                            · have PE := hide (EN2.out (by omega) es)
                              have e0 : ((k : Int) == (s.size : Int)) = true := by rw [beq_iff_eq]; omega
                              clear LN2 EN2 LA2 GN2 GY2 GO2 ol2
                              go_wp2_with fail
                              go_meet
                              case rel => exact ⟨o2, gap, rfl, S4, PE⟩
                            · have e0 : ((k : Int) == (s.size : Int)) = false := by rw [beq_eq_false_iff_ne]; omega
                              by_cases e1 : k + 1 = s.size
                              · have G := hide (LA2.out e1)
                                have e2 : ((k : Int) + 1 == (s.size : Int)) = true := by rw [beq_iff_eq]; omega
                                have e3 : ¬ (k : Int) + 1 < (s.size : Int) := by omega
                                have R1 := S4.out.res
                                obtain ⟨r0, r1, r2, r3, r4, r5, r6⟩ := R1.three
                                have B1 := S4.out.bel
                                clear S4 hga LN2 EN2 LA2 GN2 GY2 GO2 R1
                                go_wp2
                                refine bodyPost_ret (v := .tuple #[av false 0 0, .int .i64 4]) (by simp [results, Tryz.results18, go_sem, World.cell?_setCell_same', World.cell?_setCell_other, *]) rfl ⟨false, 0, 0, 4, rfl, G, by repeat (first | with_reducible exact Below.refl _ _ | with_reducible refine Below.drew ?_ | with_reducible refine Below.alloc ?_ (by first | omega | (simp <;> omega)) _ | with_reducible refine Below.setCell ?_ (by first | omega | (simp <;> omega)) _ | with_reducible refine Below.trans ?_ (Below.mono B1 (by first | omega | (simp <;> omega))))⟩
                              · have e2 : ((k : Int) + 1 == (s.size : Int)) = false := by rw [beq_eq_false_iff_ne]; omega
                                have e3 : (k : Int) + 1 < (s.size : Int) := by omega
                                have e4 : k + 1 < s.size := by omega
                                obtain ⟨c, ec⟩ : ∃ c : UInt8, bt s (k + 1) = c := ⟨_, rfl⟩
                                have bg' : ((s[k + 1]'e4).toNat : Int) = (c.toNat : Int) := by rw [bt_get s (k + 1) e4, ec]
                                have q0 := c58_int c
                                by_cases d58 : c = 58
                                · rw [decide_eq_true d58] at q0
                                  cases gap with
                                  | some g =>
                                    have G := hide (GN2.out e4 (ec.trans d58) g rfl)
                                    have nv : noI (some g) = (g : Int) := rfl
                                    rw [nv]
                                    have g0 : (g : Int) ≥ 0 := by omega
                                    clear ec d58
                                    have R1 := S4.out.res
                                    obtain ⟨r0, r1, r2, r3, r4, r5, r6⟩ := R1.three
                                    have B1 := S4.out.bel
                                    clear S4 hga LN2 EN2 LA2 GN2 GY2 GO2 R1
                                    go_wp2
                                    refine bodyPost_ret (v := .tuple #[av false 0 0, .int .i64 4]) (by simp [results, Tryz.results18, go_sem, World.cell?_setCell_same', World.cell?_setCell_other, *]) rfl ⟨false, 0, 0, 4, rfl, G, by repeat (first | with_reducible exact Below.refl _ _ | with_reducible refine Below.drew ?_ | with_reducible refine Below.alloc ?_ (by first | omega | (simp <;> omega)) _ | with_reducible refine Below.setCell ?_ (by first | omega | (simp <;> omega)) _ | with_reducible refine Below.trans ?_ (Below.mono B1 (by first | omega | (simp <;> omega))))⟩
                                  | none =>
                                    obtain ⟨f2, I2⟩ := GY2.out (by omega) e4 (ec.trans d58) rfl
                                    rw [← ol2] at I2
                                    have nv : noI none = -1 := rfl
                                    rw [nv]
                                    have IH := hide I2
                                    clear ec d58 I2 LN2 EN2 LA2 GN2 GY2 GO2
                                    by_cases e5 : k + 2 = s.size
                                    · have e6 : ((k : Int) + 1 + 1 == (s.size : Int)) = true := by rw [beq_iff_eq]; omega
                                      have e7 : ((k : Int) + 2 == (s.size : Int)) = true := by rw [beq_iff_eq]; omega
                                      have PE : Hid (PEx s o2 (some o2.length)) := by
                                        have := IH.out
                                        rw [e5] at this
                                        exact this.done
                                      clear IH ol2
                                      go_wp2_with fail
                                      go_meet
                                      case rel => exact ⟨o2, some o2.length, by (first | rfl | simp [noI]), S4, PE⟩
                                    · have e6 : ((k : Int) + 1 + 1 == (s.size : Int)) = false := by rw [beq_eq_false_iff_ne]; omega
                                      have e7 : ((k : Int) + 2 == (s.size : Int)) = false := by rw [beq_eq_false_iff_ne]; omega
                                      clear ol2
                                      go_wp2
                                      go_roundg (gk - 1)
                                      case measure => omega
                                      case rel => exact ⟨k + 2, o2, some o2.length, f2, by omega, by omega, by (first | rfl | simp [noI]), by go_num, S4, IH⟩
                                · rw [decide_eq_false d58] at q0
                                  obtain ⟨f2, I2⟩ := GO2.out (by omega) e4 (by rw [ec]; exact d58)
                                  have IH := hide I2
                                  clear ec d58 I2 LN2 EN2 LA2 GN2 GY2 GO2 ol2
                                  go_wp2
                                  go_roundg (gk - 1)
                                  case measure => omega
                                  case rel => exact ⟨k + 1, o2, gap, f2, by omega, by omega, rfl, by go_num, S4, IH⟩
              · have hai : ¬ (a : Int) < (s.size : Int) := by omega
                obtain rfl : a = s.size := by omega
                have G := hide hin.out.done
                go_wp2_with fail
                go_meet
                case rel => exact ⟨out, gap, rfl, hsq, G⟩
          case rest =>
            clear O1 hin
            obtain ⟨out, gap, rfl, hsq, hex⟩ := hcut
            obtain ⟨W2, rfl⟩ : ∃ W2, W2 = wc := ⟨_, rfl⟩
            obtain ⟨q, cap, hu⟩ := slice_of hsq.out.own
            subst hu
            have oL := hex.out.ol
            obtain ⟨bad, hbad⟩ : ∃ bad : Bool, bad = badF out gap := ⟨_, rfl⟩
            have HB := hide hbad
            have EQ := hide (noI_eq gap)
            have EQ' := hide (noI_eq' gap out.length)
            have SG : Hid ((gap = none ∧ noI gap < 0 ∧ ¬ noI gap ≥ 0) ∨ ((∃ g, gap = some g) ∧ ¬ noI gap < 0 ∧ noI gap ≥ 0)) := by
              cases gap with
              | none => exact Or.inl ⟨rfl, by show (-1 : Int) < 0; omega, by show ¬ (-1 : Int) ≥ 0; omega⟩
              | some g => exact Or.inr ⟨⟨g, rfl⟩, by show ¬ (g : Int) < 0; omega, by show (g : Int) ≥ 0; omega⟩
            obtain ⟨gv, hgv⟩ : ∃ gv, noI gap = gv := ⟨_, rfl⟩
            rw [hgv] at EQ EQ' SG ⊢
            clear hbad DG FO Z0 hgv
            go_upto_region 52 with fail
            go_cut [188] from 173 to 188 (fun v wx => v = .bool bad ∧ wx = W2)
            case first =>
              clear hsq hex BAD EQ EQ'
              rcases SG.out with ⟨rfl, g0, g1⟩ | ⟨⟨g, rfl⟩, g0, g1⟩
              · by_cases l : out.length = 16
                · have l1 : ((out.length : Int) != 16) = false := by rw [bne_eq_false_iff_eq]; omega
                  have l2 : ((out.length : Int) == 16) = true := by rw [beq_iff_eq]; omega
                  have b0 : Hid (bad = false) := by
                    show _ = _
                    rw [HB.out]
                    simp [badF, l]
                  clear HB l SG
                  go_wp2_with fail
                  go_meet
                  case rel => exact ⟨by rw [b0.out], rfl⟩
                · have l1 : ((out.length : Int) != 16) = true := by rw [bne_iff_ne]; omega
                  have l2 : ((out.length : Int) == 16) = false := by rw [beq_eq_false_iff_ne]; omega
                  have b0 : Hid (bad = true) := by
                    show _ = _
                    rw [HB.out]
                    simp [badF, l]
                  clear HB l SG
                  go_wp2_with fail
                  go_meet
                  case rel => exact ⟨by rw [b0.out], rfl⟩
              · by_cases l : 14 < out.length
                · have l1 : (out.length : Int) > 14 := by omega
                  have b0 : Hid (bad = true) := by
                    show _ = _
                    rw [HB.out]
                    simp [badF, l]
                  clear HB SG
                  go_wp2_with fail
                  go_meet
                  case rel => exact ⟨by rw [b0.out], rfl⟩
                · have l1 : ¬ (out.length : Int) > 14 := by omega
                  have b0 : Hid (bad = false) := by
                    show _ = _
                    rw [HB.out]
                    simp [badF, l]
                  clear HB SG
                  go_wp2_with fail
                  go_meet
                  case rel => exact ⟨by rw [b0.out], rfl⟩
            case rest =>
              obtain ⟨rfl, hwx⟩ := hcut
              rw [hwx]
              clear hwx
              cases bad with
              | true =>
                have G := hide (BAD.out (hex.out.bad HB.out.symm))
                have R1 := hsq.out.res
                obtain ⟨r0, r1, r2, r3, r4, r5, r6⟩ := R1.three
                have B1 := hsq.out.bel
                clear hsq hex HB BAD R1
                go_wp2
                refine bodyPost_ret (v := .tuple #[av false 0 0, .int .i64 4]) (by simp [results, Tryz.results18, go_sem, World.cell?_setCell_same', World.cell?_setCell_other, *]) rfl ⟨false, 0, 0, 4, rfl, G, by repeat (first | with_reducible exact Below.refl _ _ | with_reducible refine Below.drew ?_ | with_reducible refine Below.alloc ?_ (by first | omega | (simp <;> omega)) _ | with_reducible refine Below.setCell ?_ (by first | omega | (simp <;> omega)) _ | with_reducible refine Below.trans ?_ (Below.mono B1 (by first | omega | (simp <;> omega))))⟩
              | false =>
                obtain ⟨p1, p2, p3⟩ := hex.out.fin HB.out.symm
                have G := hide (FIN.out _ p1)
                have FL := hide p2
                have FB := hide p3
                have k14 : Hid (∀ i, gap = some i → ∃ K : Nat, K + out.length = 16 ∧ 0 < K) := by
                  intro i e
                  have := HB.out
                  rw [e] at this
                  have l : ¬ 14 < out.length := of_decide_eq_false this.symm
                  exact ⟨16 - out.length, by omega, by omega⟩
                clear SG p1 p2 p3 hex HB BAD FIN
                have O0 : Hid ((W2.alloc (.cells #[] 5)).ownsRow W2.heap.size 5 1 (.slice (some ⟨W2.heap.size, 0, none⟩) 0 0) (allF out gap 0).length (bytC (allF out gap 0))) := by
                  rw [all_zero]
                  exact World.ownsRow_made _ _ _ (Nat.le_refl _) (Nat.zero_le _) rfl
                have N0 : Hid (Value.slice (some ⟨W2.heap.size, 0, none⟩) 0 0 ≠ .slice none 0 0) := by intro h; simp at h
                have B0 : Hid (Below W2.heap.size W2 (W2.alloc (.cells #[] 5))) := (Below.refl _ _).alloc (Nat.le_refl _) _
                go_wp2_with fail
                go_loopg [17, 18] (out.length + 1) (fun k u iv wr => ∃ i : Nat, out.length < i + k ∧ i ≤ out.length ∧ iv = .int .i64 i ∧ Hid (u ≠ .slice none 0 0) ∧ Hid (wr.ownsRow W2.heap.size 5 1 u (allF out gap i).length (bytC (allF out gap i))) ∧ Hid (Below W2.heap.size W2 wr))
                case atStart => exact ⟨0, by omega, by omega, rfl, N0, O0, B0⟩
                case round =>
                  clear O0 N0 B0
                  obtain ⟨i, hga, hi2, rfl, hnn, hown, hb⟩ := hrel
                  obtain ⟨q2, cap2, hu2⟩ := slice_of hown.out
                  subst hu2
                  have szB := hb.out.size
                  have AL : Hid ((allF out gap i).length ≤ 40) := by
                    show _ ≤ _
                    cases gap with
                    | none => simp [allF]; omega
                    | some g =>
                      show (if i ≤ g then _ else _ : List Nat).length ≤ 40
                      split <;> simp <;> omega
                  have al := AL.out
                  by_cases hlt : i < out.length
                  · have hki : (i : Int) < (out.length : Int) := by omega
                    obtain ⟨x, hx⟩ : ∃ x, out[i]? = some x := ⟨_, List.getElem?_eq_getElem hlt⟩
                    have NX := hide (all_next (gap := gap) hx)
                    have HX := hide hx
                    have E1 := EQ.out i
                    obtain ⟨b, eb⟩ : ∃ b, decide (gap = some i) = b := ⟨_, rfl⟩
                    rw [eb] at E1
                    have EB := hide eb
                    clear EQ EQ' hx eb
                    go_upto_if 199 with fail
                    go_cut [17] (fun u wx => ∃ (n : Nat), Hid (n = (allM out gap i).length) ∧ n ≤ 80 ∧ Hid (wx.ownsRow W2.heap.size 5 1 u n (bytC (allM out gap i))) ∧ Hid (Below W2.heap.size W2 wx))
                    case first =>
                      cases b with
                      | true =>
                        have c : gap = some i := of_decide_eq_true EB.out
                        obtain ⟨K, hK, hK0⟩ := k14.out i c
                        have kK : (16 : Int) - (out.length : Int) = (K : Int) := by omega
                        have MA : Hid (allM out gap i = allF out gap i ++ List.replicate K 0) := by
                          show _ = _
                          unfold allM
                          rw [if_pos c, show 16 - out.length = K by omega]
                        have K1 : K ≤ 1000 := by omega
                        have n1 : (allF out gap i).length ≤ 1000 := by omega
                        clear c k14 NX HX G FL FB hsq EB
                        go_wp2_with (first | (at_builtin; refine wpList_made _ rfl _ _ 63 3 rfl W2.heap.size 5 i0 (.int .u8 0) Tryz.underlying63 Tryz.underlying3 hi hz0 hz1 hz2 rfl rfl _ _ _ rfl hown.out hnn.out K rfl hK0 K1 n1 szB ?_))
                        intro v' w4 hown4 hgrow
                        have B4 : Hid (Below W2.heap.size W2 w4) := below_grown0 hb.out szB hown.out hgrow
                        have O4 : Hid (w4.ownsRow W2.heap.size 5 1 v' (allM out gap i).length (bytC (allM out gap i))) := by
                          show World.ownsRow _ _ _ _ _ _ _
                          rw [MA.out, List.length_append, List.length_replicate, show bytC (allF out gap i ++ List.replicate K 0) = bytC (allF out gap i) ++ List.replicate K (.int .u8 0) by simp [bytC]]
                          exact hown4
                        have L4 : (allM out gap i).length ≤ 80 := by
                          rw [MA.out, List.length_append, List.length_replicate]
                          omega
                        clear hown4 hgrow hown hb MA hnn
                        go_wp2_with fail
                        go_meet
                        case rel => exact ⟨_, rfl, L4, O4, B4⟩
                      | false =>
                        have c : ¬ gap = some i := of_decide_eq_false EB.out
                        have MA : allM out gap i = allF out gap i := by
                          unfold allM
                          rw [if_neg c]
                        have O4 : Hid (wr.ownsRow W2.heap.size 5 1 (.slice q2 (allF out gap i).length cap2) (allM out gap i).length (bytC (allM out gap i))) := by
                          show World.ownsRow _ _ _ _ _ _ _
                          rw [MA]
                          exact hown.out
                        have L4 : (allM out gap i).length ≤ 80 := by rw [MA]; omega
                        clear MA c EB
                        go_wp2_with fail
                        go_meet
                        case rel => exact ⟨_, rfl, L4, O4, hb⟩
                    case rest =>
                      clear hown hb hnn E1 szB AL al
                      obtain ⟨n, hn, n80, hown, hb⟩ := hcut
                      obtain ⟨W3, rfl⟩ : ∃ W3, W3 = wc := ⟨_, rfl⟩
                      have szB := hb.out.size
                      obtain ⟨go, co, ho, hcell, hgo⟩ := row_of (hsq.out.below hb.out).own (by omega)
                      cases ho
                      have C3 := hcell i x HX.out
                      obtain ⟨q3, cap3, hu3⟩ := slice_of hown.out
                      subst hu3
                      clear hcell HX
                      go_wp2_with (first | (at_builtin; refine wpList_append_own _ rfl _ _ 63 rfl W2.heap.size 5 i0 (.int .u8 0) 1 1 Tryz.underlying63 hi hz0 hz1 hz2 rfl (by decide) _ _ _ rfl (hown.out.alloc _) ⟨W3.heap.size, 0, none⟩ 1 1 [.int .u8 (x : Nat)] rfl rfl (one_new W3 _ _) (one_ok _ _) ?c3 ?c4 ?c5 ?_))
                      case c3 => unfold maxLen; omega
                      case c4 => omega
                      case c5 => (first | omega | (simp; omega))
                      intro v' w4 hown4 hgrow _
                      have B4 := hide (below_grown hb.out szB hown.out hgrow)
                      have LN : (allF out gap (i + 1)).length = n + 1 := by rw [NX.out, List.length_append, hn.out]; rfl
                      have O4 : Hid (w4.ownsRow W2.heap.size 5 1 v' (allF out gap (i + 1)).length (bytC (allF out gap (i + 1)))) := by
                        show World.ownsRow _ _ _ _ _ _ _
                        rw [LN, NX.out, show bytC (allM out gap i ++ [x]) = bytC (allM out gap i) ++ [.int .u8 (x : Nat)] by simp [bytC]]
                        exact hown4
                      have N4 : Hid (v' ≠ .slice none 0 0) := by
                        intro e
                        obtain ⟨g', cp', e', _⟩ := row_of O4.out (by omega)
                        rw [e'] at e
                        simp at e
                      clear hown4 hgrow hown hb NX LN hn EB
                      go_wp2
                      go_roundg (gk - 1)
                      case measure => omega
                      case rel => exact ⟨i + 1, by omega, by omega, by go_num, N4, O4, B4⟩
                  · have hie : i = out.length := by omega
                    subst hie
                    have hki : ¬ (out.length : Int) < (out.length : Int) := by omega
                    have E1 := EQ'.out
                    obtain ⟨b, eb⟩ : ∃ b, decide (gap = some out.length) = b := ⟨_, rfl⟩
                    rw [eb] at E1
                    have EB := hide eb
                    clear EQ EQ' eb
                    go_upto_if 215 with fail
                    go_cut [17] (fun u wx => Hid (wx.ownsRow W2.heap.size 5 1 u (allM out gap out.length).length (bytC (allM out gap out.length))) ∧ Hid (Below W2.heap.size W2 wx))
                    case first =>
                      cases b with
                      | true =>
                        have c : gap = some out.length := of_decide_eq_true EB.out
                        obtain ⟨K, hK, hK0⟩ := k14.out out.length c
                        have kK : (16 : Int) - (out.length : Int) = (K : Int) := by omega
                        have MA : Hid (allM out gap out.length = allF out gap out.length ++ List.replicate K 0) := by
                          show _ = _
                          unfold allM
                          rw [if_pos c, show 16 - out.length = K by omega]
                        have K1 : K ≤ 1000 := by omega
                        have n1 : (allF out gap out.length).length ≤ 1000 := by omega
                        clear c k14 G FL FB hsq EB
                        go_wp2_with (first | (at_builtin; refine wpList_made _ rfl _ _ 63 3 rfl W2.heap.size 5 i0 (.int .u8 0) Tryz.underlying63 Tryz.underlying3 hi hz0 hz1 hz2 rfl rfl _ _ _ rfl hown.out hnn.out K rfl hK0 K1 n1 szB ?_))
                        intro v' w4 hown4 hgrow
                        have B4 : Hid (Below W2.heap.size W2 w4) := below_grown0 hb.out szB hown.out hgrow
                        have O4 : Hid (w4.ownsRow W2.heap.size 5 1 v' (allM out gap out.length).length (bytC (allM out gap out.length))) := by
                          show World.ownsRow _ _ _ _ _ _ _
                          rw [MA.out, List.length_append, List.length_replicate, show bytC (allF out gap out.length ++ List.replicate K 0) = bytC (allF out gap out.length) ++ List.replicate K (.int .u8 0) by simp [bytC]]
                          exact hown4
                        clear hown4 hgrow hown hb MA hnn
                        go_wp2_with fail
                        go_meet
                        case rel => exact ⟨O4, B4⟩
                      | false =>
                        have c : ¬ gap = some out.length := of_decide_eq_false EB.out
                        have MA : allM out gap out.length = allF out gap out.length := by
                          unfold allM
                          rw [if_neg c]
                        have O4 : Hid (wr.ownsRow W2.heap.size 5 1 (.slice q2 (allF out gap out.length).length cap2) (allM out gap out.length).length (bytC (allM out gap out.length))) := by
                          show World.ownsRow _ _ _ _ _ _ _
                          rw [MA]
                          exact hown.out
                        clear MA c EB
                        go_wp2_with fail
                        go_meet
                        case rel => exact ⟨O4, hb⟩
                    case rest =>
                      clear hown hb hnn E1 szB AL al k14
                      obtain ⟨hown, hb⟩ := hcut
                      obtain ⟨W3, rfl⟩ : ∃ W3, W3 = wc := ⟨_, rfl⟩
                      obtain ⟨F, hF⟩ : ∃ F, allM out gap out.length = F := ⟨_, rfl⟩
                      rw [hF] at hown FL FB G
                      have hown2 := hown.out
                      rw [FL.out] at hown2
                      obtain ⟨g3, c3, hu3, hcell, hg3⟩ := row_of hown2 (by omega)
                      subst hu3
                      have OB := hide (rofb_c F FB.out 16 FL.out (Or.inr rfl) g3 c3 W3 hcell hg3 (b16 := true) rfl)
                      have S3 := hide (hsq.out.below hb.out)
                      clear hown hown2 hb hcell hsq FL FB hF
                      go_wp2_with fail
                      refine OB.out.mono ?_
                      rintro e1 w5 ⟨h, l, rfl, hn, hb5⟩
                      have S5 := S3.out.below hb5
                      obtain ⟨r0, r1, r2, r3, r4, r5, r6⟩ := S5.res.three
                      have B5 := S5.bel
                      have G5 := hide (G.out h l hn)
                      clear OB S3 hb5 S5 hn G
                      go_wp2
                      refine bodyPost_ret (v := .tuple #[av true h l, .int .i64 0]) (by simp [results, Tryz.results18, go_sem, World.cell?_setCell_same', World.cell?_setCell_other, *]) rfl ⟨true, h, l, 0, rfl, G5, by repeat (first | with_reducible exact Below.refl _ _ | with_reducible refine Below.drew ?_ | with_reducible refine Below.alloc ?_ (by first | omega | (simp <;> omega)) _ | with_reducible refine Below.setCell ?_ (by first | omega | (simp <;> omega)) _ | with_reducible refine Below.trans ?_ (Below.mono B5 (by first | omega | (simp <;> omega))))⟩
end Go.Proofs.YtipjmmhlfmahbaaGreatDoor
