/-
  Texts AddrT of the proof.
-/
import Derived.Deep.Onto
import Derived.Deep.RegionHeld
import Derived.Lib.Join
import Derived.Test.YtipjmmhlfmahbaaGreatDoorP17
import Derived.Test.YtipjmmhlfmahbaaGreatDoorP18

namespace Go.Proofs.YtipjmmhlfmahbaaGreatDoor
open Go.ChangeShapes Go.WideShapes Go.ChangeAt Go.RowKit
set_option linter.unusedVariables false
set_option linter.unusedSimpArgs false

/-- How many digits of base 16 a number below 65536 has. -/
def hexLen (u : Nat) : Nat := if u < 16 then 1 else if u < 256 then 2 else if u < 4096 then 3 else 4

/-- Its digits of base 16. -/
def hexT (u : Nat) : ByteArray := strOfNums (lowH u (hexLen u))

theorem IsHex.len {u j : Nat} (h : IsHex u j) (hj : j ≤ 4) : j = hexLen u := by
  obtain ⟨p, l, g⟩ := h
  unfold hexLen
  have : j = 1 ∨ j = 2 ∨ j = 3 ∨ j = 4 := by omega
  rcases this with rfl | rfl | rfl | rfl
  · rw [if_pos (by simpa using l)]
  · have := g (by omega); simp at this l
    rw [if_neg (by omega), if_pos (by omega)]
  · have := g (by omega); simp at this l
    rw [if_neg (by omega), if_neg (by omega), if_pos (by omega)]
  · have := g (by omega); simp at this l
    rw [if_neg (by omega), if_neg (by omega), if_neg (by omega)]

set_option maxHeartbeats 800000 in
theorem fu16_c (u : Nat) (hu : u < 65536) (w : World) (hL : LW w) :
    Calls Tryz.prog 90 #[.int .u64 u, .int .i64 16] w fun e w' => e = .returned (.string (hexT u)) ∧ Below w.heap.size w w' := by
  go_enter Tryz.func90, Tryz.ntmps90
  go_wp2_with (go_at_call 86; refine (fbits_w u hu _ hL).mono ?_; rintro e w1 ⟨j, rfl, hx, hj, hb1⟩; obtain rfl := hx.len hj; clear hx hj)
  go_ret
  exact ⟨rfl, hb1⟩

/-- A number's digits of base 10 or 16. -/
def txtP (b : Int) (n : Nat) : ByteArray := if b = 10 then ⟨(Lib.decDigits n).toArray⟩ else hexT n

set_option maxHeartbeats 800000 in
theorem fmt16_c (u : Nat) (hu : u < 65536) (w : World) (hL : LW w) :
    Calls Tryz.prog 78 #[.int .u64 u, .int .i64 16] w fun e w' => e = .returned (.string (hexT u)) ∧ Below w.heap.size w w' := by
  go_enter Tryz.func78, Tryz.ntmps78
  go_wp2_with (go_at_call 90; refine (fu16_c u hu _ hL).mono ?_; rintro e w1 ⟨rfl, hb1⟩)
  go_ret
  exact ⟨rfl, hb1⟩

theorem fmt_i {b r : Int} {u : Nat} (hb : b = 10 ∨ b = 16) (hr : r = (u : Int)) (hu : u < 65536) (w : World) (hL : LW w) :
    Calls Tryz.prog 78 #[.int .u64 r, .int .i64 b] w fun e w' => e = .returned (.string (txtP b u)) ∧ Below w.heap.size w w' := by
  subst hr
  rcases hb with rfl | rfl
  · exact fmt10_c u (by omega) w hL
  · exact fmt16_c u hu w hL

theorem infoStr : (Tryz.prog.info? 9).map (fun i => (i.zero, i.size, i.bytes)) = some (some (.string ⟨#[]⟩), 1, 16) := by kernel_rfl

set_option maxHeartbeats 1600000 in
theorem pieces_4 {h l : Int} {a : Nat} (ha : IsNum h l a) (w : World) (hL : LW w) :
    Calls Tryz.prog 64 #[av false h l, .int .i64 8, .int .i64 10] w fun e w' => ∃ sv, e = .returned sv ∧ w'.ownsRow w.heap.size 9 1 sv 4 ((topP a 32 8 4).map fun n => .string (txtP 10 n)) ∧ Below w.heap.size w w' := by
  obtain ⟨i0, hi, hz0, hz1, hz2⟩ := info_parts infoStr
  have wd := fun w' => width_lit false 32 rfl h l w'
  have pc := fun (t : Int) (t0 : 0 ≤ t) (t1 : 8 * (t + 1) ≤ 32) (w' : World) => piece_w (v := false) (s := 8) ha (Or.inl rfl) t0 t1 w'
  have hz := hL.sz
  clear ha
  go_enter Tryz.func64, Tryz.ntmps64
  go_wp2_with fail
  refine (wd _).mono ?_
  rintro e w2 ⟨rfl, hb2⟩
  obtain ⟨hc2, hf2⟩ := bcell hb2
  have hz_w2_0 : w.heap.size < w2.heap.size   := (by have := hb2.size; first | omega | (simp at this; omega))
  clear wd
  have B2 : Below w.heap.size w w2 := by repeat (first | with_reducible exact Below.refl _ _ | with_reducible refine Below.drew ?_ | with_reducible refine Below.alloc ?_ (by first | omega | (simp <;> omega)) _ | with_reducible refine Below.setCell ?_ (by first | omega | (simp <;> omega)) _ | with_reducible refine Below.trans ?_ (Below.mono hb2 (by first | omega | (simp <;> omega))))
  have L2 : LW w2 := hL.of B2 hz
  have bx : w2.cell? ⟨w.heap.size, 0, none⟩ = some (.bool false) ∧ w2.cell? ⟨w.heap.size, 1, none⟩ = some (.int .u64 h) ∧ w2.cell? ⟨w.heap.size, 2, none⟩ = some (.int .u64 l) := by simp [*]
  obtain ⟨bx0, bx1, bx2⟩ := bx
  clear hc2 hf2 hb2
  go_wp2_with fail
  go_loopw [7, 13] (fun u i wr => ∃ k : Nat, k ≤ 4 ∧ i = .int .i64 k ∧ wr.ownsRow w2.heap.size 9 1 u k ((topP a 32 8 k).map fun n => .string (txtP 10 n)) ∧ Below w2.heap.size w2 wr) (fun _ i _ => 4 - (intOf i).toNat)
  case atStart => exact ⟨0, by omega, rfl, World.ownsRow_nil _ _ _ _, Below.refl _ _⟩
  case round =>
    obtain ⟨k, hk, rfl, hown, hb⟩ := hrel
    have hs := hb.size
    by_cases hlt : k < 4
    · have hki : (k : Int) < 4 := by omega
      obtain ⟨hcr, hfr⟩ := bcell' hb
      have hzr : w.heap.size < wr.heap.size := by omega
      have Lr : LW wr := L2.of hb L2.sz
      go_wp2_with fail
      refine (pc k (by omega) (by omega) _).mono ?_
      rintro e w3 ⟨r, rfl, hr3, hb3⟩
      have e1 : r = ((a / 2 ^ (32 - 8 * (k + 1)) % 2 ^ 8 : Nat) : Int) := by
        rw [hr3.out, show (widthA false - 8 * ((k : Int) + 1)).toNat = 32 - 8 * (k + 1) by simp only [widthA]; first | (simp; omega) | omega]; rfl
      have F := fmt_i (b := 10) (Or.inl rfl) e1 (piece_lt _ _ (by decide))
      have L3 : LW w3 := Lr.of hb3 Lr.sz
      have hown3 := own_below hown hb3
      have hb4 : Below w2.heap.size w2 w3 := hb.trans (hb3.mono hs)
      clear hown hb3 hb hcr hfr hs hzr e1 hr3 Lr
      go_wp2_with fail
      refine (F _ L3).mono ?_
      rintro e w5 ⟨rfl, hb5⟩
      have hown5 := own_below hown3 hb5
      have hb6 : Below w2.heap.size w2 w5 := hb4.trans (hb5.mono hb4.size)
      have hs3 := hb6.size
      clear hown3 hb5 hb4 L3 F
      obtain ⟨T, hT⟩ : ∃ T, T = txtP 10 (a / 2 ^ (32 - 8 * (k + 1)) % 2 ^ 8) := ⟨_, rfl⟩
      rw [← hT]
      have HT : Hid (T = txtP 10 (a / 2 ^ (32 - 8 * (k + 1)) % 2 ^ 8)) := hT
      clear hT
      go_wp2_with (first | (at_builtin; refine wpList_append_own _ rfl _ _ 87 rfl w2.heap.size 9 i0 (.string ⟨#[]⟩) 1 16 Tryz.underlying87 hi hz0 hz1 hz2 rfl (by decide) _ _ _ rfl (hown5.alloc _) ⟨w5.heap.size, 0, none⟩ 1 1 [.string T] rfl rfl ?c1 ?c2 ?c3 ?c4 ?c5 ?_))
      case c1 =>
        intro j u hj
        match j, hj with
        | 0, hj => simp at hj; subst hj; simp [Addr.add]
      case c2 => intro u hu; simp at hu; subst hu; rfl
      case c3 => unfold maxLen; omega
      case c4 => omega
      case c5 => simp; omega
      intro v' w4 hown4 hgrow _
      have hb5 := below_grown hb6 hs3 hown5 hgrow
      clear hown5 hgrow
      go_wp2
      go_roundw
      case measure => simp [intOf]; omega
      case rel =>
        refine ⟨k + 1, by omega, by go_num, ?_, hb5⟩
        rw [HT.out] at hown4
        simpa [topP] using hown4
    · obtain rfl : k = 4 := by omega
      have hB : Below w.heap.size w wr := B2.trans (hb.mono B2.size)
      have hown' := World.ownsRow.mono hown B2.size
      clear hown hb hs
      go_wp2
      go_ret
      exact ⟨_, rfl, hown', hB⟩

set_option maxHeartbeats 1600000 in
theorem pieces_8 {h l : Int} {a : Nat} (ha : IsNum h l a) (w : World) (hL : LW w) :
    Calls Tryz.prog 64 #[av true h l, .int .i64 16, .int .i64 16] w fun e w' => ∃ sv, e = .returned sv ∧ w'.ownsRow w.heap.size 9 1 sv 8 ((topP a 128 16 8).map fun n => .string (txtP 16 n)) ∧ Below w.heap.size w w' := by
  obtain ⟨i0, hi, hz0, hz1, hz2⟩ := info_parts infoStr
  have wd := fun w' => width_lit true 128 rfl h l w'
  have pc := fun (t : Int) (t0 : 0 ≤ t) (t1 : 16 * (t + 1) ≤ 128) (w' : World) => piece_w (v := true) (s := 16) ha (Or.inr rfl) t0 t1 w'
  have hz := hL.sz
  clear ha
  go_enter Tryz.func64, Tryz.ntmps64
  go_wp2_with fail
  refine (wd _).mono ?_
  rintro e w2 ⟨rfl, hb2⟩
  obtain ⟨hc2, hf2⟩ := bcell hb2
  have hz_w2_0 : w.heap.size < w2.heap.size   := (by have := hb2.size; first | omega | (simp at this; omega))
  clear wd
  have B2 : Below w.heap.size w w2 := by repeat (first | with_reducible exact Below.refl _ _ | with_reducible refine Below.drew ?_ | with_reducible refine Below.alloc ?_ (by first | omega | (simp <;> omega)) _ | with_reducible refine Below.setCell ?_ (by first | omega | (simp <;> omega)) _ | with_reducible refine Below.trans ?_ (Below.mono hb2 (by first | omega | (simp <;> omega))))
  have L2 : LW w2 := hL.of B2 hz
  have bx : w2.cell? ⟨w.heap.size, 0, none⟩ = some (.bool true) ∧ w2.cell? ⟨w.heap.size, 1, none⟩ = some (.int .u64 h) ∧ w2.cell? ⟨w.heap.size, 2, none⟩ = some (.int .u64 l) := by simp [*]
  obtain ⟨bx0, bx1, bx2⟩ := bx
  clear hc2 hf2 hb2
  go_wp2_with fail
  go_loopw [7, 13] (fun u i wr => ∃ k : Nat, k ≤ 8 ∧ i = .int .i64 k ∧ wr.ownsRow w2.heap.size 9 1 u k ((topP a 128 16 k).map fun n => .string (txtP 16 n)) ∧ Below w2.heap.size w2 wr) (fun _ i _ => 8 - (intOf i).toNat)
  case atStart => exact ⟨0, by omega, rfl, World.ownsRow_nil _ _ _ _, Below.refl _ _⟩
  case round =>
    obtain ⟨k, hk, rfl, hown, hb⟩ := hrel
    have hs := hb.size
    by_cases hlt : k < 8
    · have hki : (k : Int) < 8 := by omega
      obtain ⟨hcr, hfr⟩ := bcell' hb
      have hzr : w.heap.size < wr.heap.size := by omega
      have Lr : LW wr := L2.of hb L2.sz
      go_wp2_with fail
      refine (pc k (by omega) (by omega) _).mono ?_
      rintro e w3 ⟨r, rfl, hr3, hb3⟩
      have e1 : r = ((a / 2 ^ (128 - 16 * (k + 1)) % 2 ^ 16 : Nat) : Int) := by
        rw [hr3.out, show (widthA true - 16 * ((k : Int) + 1)).toNat = 128 - 16 * (k + 1) by simp only [widthA]; first | (simp; omega) | omega]; rfl
      have F := fmt_i (b := 16) (Or.inr rfl) e1 (piece_lt _ _ (by decide))
      have L3 : LW w3 := Lr.of hb3 Lr.sz
      have hown3 := own_below hown hb3
      have hb4 : Below w2.heap.size w2 w3 := hb.trans (hb3.mono hs)
      clear hown hb3 hb hcr hfr hs hzr e1 hr3 Lr
      go_wp2_with fail
      refine (F _ L3).mono ?_
      rintro e w5 ⟨rfl, hb5⟩
      have hown5 := own_below hown3 hb5
      have hb6 : Below w2.heap.size w2 w5 := hb4.trans (hb5.mono hb4.size)
      have hs3 := hb6.size
      clear hown3 hb5 hb4 L3 F
      obtain ⟨T, hT⟩ : ∃ T, T = txtP 16 (a / 2 ^ (128 - 16 * (k + 1)) % 2 ^ 16) := ⟨_, rfl⟩
      rw [← hT]
      have HT : Hid (T = txtP 16 (a / 2 ^ (128 - 16 * (k + 1)) % 2 ^ 16)) := hT
      clear hT
      go_wp2_with (first | (at_builtin; refine wpList_append_own _ rfl _ _ 87 rfl w2.heap.size 9 i0 (.string ⟨#[]⟩) 1 16 Tryz.underlying87 hi hz0 hz1 hz2 rfl (by decide) _ _ _ rfl (hown5.alloc _) ⟨w5.heap.size, 0, none⟩ 1 1 [.string T] rfl rfl ?c1 ?c2 ?c3 ?c4 ?c5 ?_))
      case c1 =>
        intro j u hj
        match j, hj with
        | 0, hj => simp at hj; subst hj; simp [Addr.add]
      case c2 => intro u hu; simp at hu; subst hu; rfl
      case c3 => unfold maxLen; omega
      case c4 => omega
      case c5 => simp; omega
      intro v' w4 hown4 hgrow _
      have hb5 := below_grown hb6 hs3 hown5 hgrow
      clear hown5 hgrow
      go_wp2
      go_roundw
      case measure => simp [intOf]; omega
      case rel =>
        refine ⟨k + 1, by omega, by go_num, ?_, hb5⟩
        rw [HT.out] at hown4
        simpa [topP] using hown4
    · obtain rfl : k = 8 := by omega
      have hB : Below w.heap.size w wr := B2.trans (hb.mono B2.size)
      have hown' := World.ownsRow.mono hown B2.size
      clear hown hb hs
      go_wp2
      go_ret
      exact ⟨_, rfl, hown', hB⟩

end Go.Proofs.YtipjmmhlfmahbaaGreatDoor

namespace Go.Proofs.YtipjmmhlfmahbaaGreatDoor
open Go.ChangeShapes Go.WideShapes Go.ChangeAt Go.RowKit
set_option linter.unusedVariables false
set_option linter.unusedSimpArgs false

/-- The longest row of noughts so far and how long it is, at a place, with the place at which the present row began. -/
def loF : List Nat → Nat → Nat → Nat → Nat → Nat × Nat
  | [], _, b, m, _ => (b, m)
  | g :: r, k, b, m, s => if g ≠ 0 then loF r (k + 1) b m (k + 1) else if m < k + 1 - s then loF r (k + 1) s (k + 1 - s) s else loF r (k + 1) b m s

/-- The row that is left out: from, to. -/
def loR (gs : List Nat) : Nat × Nat := if (loF gs 0 0 1 0).2 = 1 then (0, 0) else ((loF gs 0 0 1 0).1, (loF gs 0 0 1 0).1 + (loF gs 0 0 1 0).2)

theorem hexT_zero : hexT 0 = ⟨#[48]⟩ := by decide +kernel

theorem hexI_48 {x : Int} (h0 : 0 ≤ x) (h : hexI x = 48) : x = 0 := by
  unfold hexI at h
  split at h <;> omega

theorem hexT_ne {n : Nat} (h : n ≠ 0) : hexT n ≠ ⟨#[48]⟩ := by
  intro c
  have sz := congrArg ByteArray.size c
  unfold hexT at sz c
  rw [strOfNums_size, lowH_length] at sz
  have e : hexLen n = 1 := sz
  rw [e] at c
  have d : (strOfNums (lowH n 1)).data.toList = [48] := by rw [c]
  rw [strOfNums_data] at d
  simp only [lowH, List.map_cons, List.map_nil, List.cons.injEq, and_true, Nat.pow_zero, Nat.div_one] at d
  have b := hexI_bd ((n % 16 : Nat) : Int) (by omega) (by omega)
  have e2 : hexI ((n % 16 : Nat) : Int) = 48 := by
    have := congrArg UInt8.toNat d
    rw [UInt8.toNat_ofNat'] at this
    have e48 : (48 : UInt8).toNat = 48 := rfl
    rw [e48] at this
    omega
  have z := hexI_48 (by omega) e2
  unfold hexLen at e
  split at e
  · omega
  · split at e <;> first | omega | (split at e <;> omega)

theorem str_ne {s : ByteArray} {l : List UInt8} (h : s ≠ ⟨l.toArray⟩) : (s.toList == l) = false := by
  rw [beq_eq_false_iff_ne, Lib.toList_data]
  intro c
  apply h
  obtain ⟨⟨d⟩⟩ := s
  simp at c
  rw [c]

set_option maxHeartbeats 1600000 in
theorem leftOut_w (gs : List Nat) (hn : gs.length = 8) (g cap : Nat) (w : World) (hcell : ∀ j, j < 8 → w.cell? ⟨g, j, none⟩ = some (.string (hexT (gs.getD j 0)))) :
    Calls Tryz.prog 65 #[.slice (some ⟨g, 0, none⟩) 8 cap] w fun e w' => ∃ p q : Int, e = .returned (.tuple #[.int .i64 p, .int .i64 q]) ∧ Hid (p = ((loR gs).1 : Int) ∧ q = ((loR gs).2 : Int)) ∧ w' = w := by
  go_enter Tryz.func65, Tryz.ntmps65
  go_wp2_with fail
  go_loop [4, 5, 6, 12] (fun b m s i => ∃ (k B M S : Nat), k ≤ 8 ∧ b = .int .i64 B ∧ m = .int .i64 M ∧ s = .int .i64 S ∧ i = .int .i64 k ∧ B ≤ 8 ∧ M ≤ 8 ∧ 1 ≤ M ∧ S ≤ k ∧ Hid (loF gs 0 0 1 0 = loF (gs.drop k) k B M S)) (fun _ _ _ i => 8 - (intOf i).toNat)
  case atStart => exact ⟨0, 0, 1, 0, by omega, rfl, rfl, rfl, rfl, by omega, by omega, by omega, by omega, rfl⟩
  case round =>
    obtain ⟨k, B, M, S, hk, rfl, rfl, rfl, rfl, hB, hM, hM1, hS, hh⟩ := hrel
    by_cases hlt : k < 8
    · have hki : (k : Int) < 8 := by omega
      have hc := hcell k hlt
      have hdrop : gs.drop k = gs.getD k 0 :: gs.drop (k + 1) := by
        rw [List.drop_eq_getElem_cons (by omega), List.getD_eq_getElem?_getD, List.getElem?_eq_getElem (by omega)]; rfl
      rw [hdrop] at hh
      generalize gs.getD k 0 = n at hc hh
      clear hcell hdrop
      by_cases h0 : n = 0
      · subst h0
        rw [hexT_zero] at hc
        by_cases h1 : M < k + 1 - S
        · have hh' : Hid (loF gs 0 0 1 0 = loF (gs.drop (k + 1)) (k + 1) S (k + 1 - S) S) := by show _ = _; rw [hh.out]; simp [loF, h1]
          have h1' : (M : Int) < (k : Int) + 1 - (S : Int) := by omega
          clear hh h1
          go_wp2
          go_round
          case measure => simp [intOf]; omega
          case rel => exact ⟨k + 1, S, k + 1 - S, S, by omega, rfl, by congr 1; omega, rfl, by go_num, by omega, by omega, by omega, by omega, hh'⟩
        · have hh' : Hid (loF gs 0 0 1 0 = loF (gs.drop (k + 1)) (k + 1) B M S) := by show _ = _; rw [hh.out]; simp [loF, h1]
          have h1' : ¬ (M : Int) < (k : Int) + 1 - (S : Int) := by omega
          clear hh h1
          go_wp2
          go_round
          case measure => simp [intOf]; omega
          case rel => exact ⟨k + 1, B, M, S, by omega, rfl, rfl, rfl, by go_num, by omega, by omega, by omega, by omega, hh'⟩
      · have hh' : Hid (loF gs 0 0 1 0 = loF (gs.drop (k + 1)) (k + 1) B M (k + 1)) := by show _ = _; rw [hh.out]; simp [loF, h0]
        have hne : ((hexT n).toList == [48]) = false := str_ne (hexT_ne h0)
        clear hh h0
        go_wp2
        go_round
        case measure => simp [intOf]; omega
        case rel => exact ⟨k + 1, B, M, k + 1, by omega, rfl, rfl, by go_num, by go_num, by omega, by omega, by omega, by omega, hh'⟩
    · have hki : ¬ (k : Int) < 8 := by omega
      have hh' : Hid (loF gs 0 0 1 0 = (B, M)) := by
        have := hh.out
        rw [List.drop_eq_nil_of_le (by omega)] at this
        exact this
      by_cases h1 : M = 1
      · subst h1
        clear hh
        go_wp2
        go_ret2
        refine ⟨_, _, rfl, ?_, rfl⟩
        show _ ∧ _
        unfold loR
        rw [hh'.out]
        exact ⟨rfl, rfl⟩
      · have h1' : ((M : Int) == 1) = false := by rw [beq_eq_false_iff_ne]; omega
        clear hh
        go_wp2
        go_ret2
        refine ⟨_, _, rfl, ?_, rfl⟩
        show _ ∧ _
        unfold loR
        rw [hh'.out, if_neg h1]
        exact ⟨rfl, by simp⟩
end Go.Proofs.YtipjmmhlfmahbaaGreatDoor

namespace Go.Proofs.YtipjmmhlfmahbaaGreatDoor
open Go.ChangeShapes Go.WideShapes Go.ChangeAt Go.RowKit
set_option linter.unusedVariables false
set_option linter.unusedSimpArgs false

theorem joinTail_len (sep : List UInt8) (L : Nat) (hs : sep.length ≤ 1) : ∀ (xs : List (List UInt8)), (∀ x ∈ xs, x.length ≤ L) → (Lib.joinTail sep xs).length ≤ xs.length * (L + 1)
  | [], _ => by simp [Lib.joinTail]
  | x :: r, h => by
    have ih := joinTail_len sep L hs r (fun y hy => h y (List.mem_cons_of_mem _ hy))
    have hx := h x List.mem_cons_self
    simp only [Lib.joinTail, List.map_cons, List.flatten_cons, List.length_append, List.length_cons] at ih ⊢
    rw [Nat.add_mul]
    omega

theorem join_len {sep : List UInt8} {L : Nat} (hs : sep.length ≤ 1) {xs : List (List UInt8)} (h : ∀ x ∈ xs, x.length ≤ L) : (Lib.join xs sep).length ≤ xs.length * (L + 1) := by
  cases xs with
  | nil => simp [Lib.join_nil]
  | cons x r =>
    rw [Lib.join_cons, List.length_append, List.length_cons]
    have := joinTail_len sep L hs r (fun y hy => h y (List.mem_cons_of_mem _ hy))
    have hx := h x List.mem_cons_self
    rw [Nat.add_mul]
    omega

/-- strings.Join of a few short texts that lie in a row. -/
theorem join_at (g o n cap : Nat) (xs : List ByteArray) (sep : ByteArray) (w : World) (hn : xs.length = n) (hcells : ∀ (j : Nat) x, xs[j]? = some x → w.cell? ⟨g, o + j, none⟩ = some (.string x)) (hg : g < w.heap.size) (hc : n ≤ cap) (hn8 : n ≤ 8) (hsep : sep.size ≤ 1) (hl : ∀ x ∈ xs, x.size ≤ 100) :
    Calls Tryz.prog 66 #[.slice (some ⟨g, o, none⟩) n cap, .string sep] w fun e w' => e = .returned (.string ⟨(Lib.join (xs.map (·.data.toList)) sep.data.toList).toArray⟩) ∧ Below w.heap.size w w' := by
  subst hn
  have := join_len (sep := sep.data.toList) (L := 100) (by simpa using hsep) (xs := xs.map (·.data.toList)) (fun x hx => by
    obtain ⟨y, hy, rfl⟩ := List.mem_map.1 hx
    simpa using hl y hy)
  rw [List.length_map] at this
  refine Tryz.strings_Join g o cap xs sep w hcells hg (by omega) hc ?_
  have h2 : xs.length * (100 + 1) ≤ 8 * 101 := Nat.mul_le_mul_right _ hn8
  omega

theorem decDigits_len {n : Nat} (h : n < 65536) : (Lib.decDigits n).length ≤ 20 := by
  rw [Lib.decDigits_length]
  by_cases h1 : 1 ≤ n
  · have := Lib.numDigits_eq n h1 (by omega); split at this <;> omega
  · obtain rfl : n = 0 := by omega
    rw [Lib.nDigits_small (by omega)]; omega

theorem txtP_size {b : Int} {n : Nat} (h : n < 65536) : (txtP b n).size ≤ 100 := by
  unfold txtP
  split
  · have := decDigits_len h
    simp [ByteArray.size]; omega
  · unfold hexT
    rw [strOfNums_size, lowH_length]
    unfold hexLen
    split <;> try split <;> try split
    all_goals omega

theorem topP_lt (a W s : Nat) (hs : s ≤ 16) : ∀ k, ∀ n ∈ topP a W s k, n < 65536
  | 0, n, h => by simp [topP] at h
  | k + 1, n, h => by
    simp only [topP, List.mem_append, List.mem_singleton] at h
    rcases h with h | rfl
    · exact topP_lt a W s hs k n h
    · exact piece_lt _ _ hs

/-- Texts in a row, as bytes. -/
def joinT (b : Int) (ns : List Nat) (sep : List UInt8) : List UInt8 := Lib.join (ns.map fun n => (txtP b n).data.toList) sep

/-- The text of a short address. -/
def prS (a : Nat) : ByteArray := ⟨(joinT 10 (topP a 32 8 4) [46]).toArray⟩

set_option maxHeartbeats 800000 in
theorem printShort_c {h l : Int} {a : Nat} (ha : IsNum h l a) (w : World) (hL : LW w) :
    Calls Tryz.prog 45 #[av false h l] w fun e w' => e = .returned (.string (prS a)) ∧ Below w.heap.size w w' := by
  have hz := hL.sz
  have Lx : ∀ W, Below w.heap.size w W → LW W := fun W hb => hL.of hb hz
  go_enter Tryz.func45, Tryz.ntmps45
  go_wp2_with fail
  refine (pieces_4 ha _ (Lx _ (by repeat (first | with_reducible exact Below.refl _ _ | with_reducible refine Below.drew ?_ | with_reducible refine Below.alloc ?_ (by first | omega | (simp <;> omega)) _ | with_reducible refine Below.setCell ?_ (by first | omega | (simp <;> omega)) _)))).mono ?_
  rintro e w1 ⟨sv, rfl, hown, hb1⟩
  have hz_w1_0 : w.heap.size < w1.heap.size   := (by have := hb1.size; first | omega | (simp at this; omega))
  obtain ⟨g, cap, rfl, hg, hcap⟩ : ∃ g cap, sv = .slice (some ⟨g, 0, none⟩) 4 cap ∧ g < w1.heap.size ∧ 4 ≤ cap := by
    rcases hown.2 with ⟨rfl, h0⟩ | ⟨g, cap, cur, rfl, _, hh, hc, _⟩
    · omega
    · exact ⟨g, cap, rfl, (Array.getElem?_eq_some_iff.1 hh).1, hc⟩
  have J := join_at g 0 4 cap ((topP a 32 8 4).map (txtP 10)) ⟨#[46]⟩ w1 (by rw [List.length_map, topP_length]) (fun j x hx => by
    have hj : j < 4 := by
      have := (List.getElem?_eq_some_iff.1 hx).1
      rwa [List.length_map, topP_length] at this
    rw [Nat.zero_add, World.ownsRow.cellAt hown j (by omega)]
    rw [List.getElem?_map] at hx ⊢
    obtain ⟨n, hn, rfl⟩ := Option.map_eq_some_iff.1 hx
    rw [hn]; rfl) hg hcap (by decide) (by decide) (fun x hx => by
    obtain ⟨n, hn, rfl⟩ := List.mem_map.1 hx
    exact txtP_size (topP_lt _ _ _ (by decide) _ _ hn))
  have e1 : (⟨(Lib.join (((topP a 32 8 4).map (txtP 10)).map (·.data.toList)) [46]).toArray⟩ : ByteArray) = prS a := by
    unfold prS joinT; rw [List.map_map]; rfl
  clear hown hL Lx
  go_wp2_with fail
  refine J.mono ?_
  rintro e w2 ⟨rfl, hb2⟩
  clear J
  have e2 : Hid _ := e1
  clear e1
  go_wp2
  go_ret
  exact ⟨by rw [← e2.out]; rfl, by repeat (first | with_reducible exact Below.refl _ _ | with_reducible refine Below.drew ?_ | with_reducible refine Below.alloc ?_ (by first | omega | (simp <;> omega)) _ | with_reducible refine Below.setCell ?_ (by first | omega | (simp <;> omega)) _ | with_reducible refine Below.trans ?_ (Below.mono hb2 (by first | omega | (simp <;> omega))) | with_reducible refine Below.trans ?_ (Below.mono hb1 (by first | omega | (simp <;> omega))))⟩

/-- The text of a long address. -/
def prL (a : Nat) : ByteArray :=
  if (loR (topP a 128 16 8)).1 = (loR (topP a 128 16 8)).2 then ⟨(joinT 16 (topP a 128 16 8) [58]).toArray⟩
  else ⟨(joinT 16 ((topP a 128 16 8).take (loR (topP a 128 16 8)).1) [58] ++ [58, 58] ++ joinT 16 ((topP a 128 16 8).drop (loR (topP a 128 16 8)).2) [58]).toArray⟩

theorem loF_le : ∀ (gs : List Nat) (k b m s : Nat), s ≤ k → b + m ≤ max k 1 → (loF gs k b m s).1 + (loF gs k b m s).2 ≤ max (k + gs.length) 1
  | [], k, b, m, s, _, h => by simpa [loF] using h
  | g :: r, k, b, m, s, hs, h => by
    have e : k + (g :: r).length = k + 1 + r.length := by simp; omega
    rw [e]
    unfold loF
    split
    · exact loF_le r (k + 1) b m (k + 1) (by omega) (by omega)
    · split
      · exact loF_le r (k + 1) s (k + 1 - s) s (by omega) (by omega)
      · exact loF_le r (k + 1) b m s (by omega) (by omega)

theorem loR_le {gs : List Nat} (h : gs.length = 8) : (loR gs).1 ≤ (loR gs).2 ∧ (loR gs).2 ≤ 8 := by
  have := loF_le gs 0 0 1 0 (by omega) (by omega)
  unfold loR
  split
  · exact ⟨Nat.le_refl _, by show 0 ≤ 8; omega⟩
  · show (loF gs 0 0 1 0).1 ≤ (loF gs 0 0 1 0).1 + (loF gs 0 0 1 0).2 ∧ (loF gs 0 0 1 0).1 + (loF gs 0 0 1 0).2 ≤ 8
    omega

set_option maxRecDepth 100000 in
set_option maxHeartbeats 1600000 in
theorem printLong_c {h l : Int} {a : Nat} (ha : IsNum h l a) (w : World) (hL : LW w) :
    Calls Tryz.prog 44 #[av true h l] w fun e w' => e = .returned (.string (prL a)) ∧ Below w.heap.size w w' := by
  have hz := hL.sz
  have Lx : ∀ W, Below w.heap.size w W → LW W := fun W hb => hL.of hb hz
  obtain ⟨gs, hgs⟩ : ∃ gs, gs = topP a 128 16 8 := ⟨_, rfl⟩
  have hn : gs.length = 8 := by rw [hgs, topP_length]
  have hlt : ∀ n ∈ gs, n < 65536 := by rw [hgs]; exact topP_lt _ _ _ (by decide) _
  go_enter Tryz.func44, Tryz.ntmps44
  go_wp2_with fail
  refine (pieces_8 ha _ (Lx _ (by repeat (first | with_reducible exact Below.refl _ _ | with_reducible refine Below.drew ?_ | with_reducible refine Below.alloc ?_ (by first | omega | (simp <;> omega)) _ | with_reducible refine Below.setCell ?_ (by first | omega | (simp <;> omega)) _)))).mono ?_
  rintro e w1 ⟨sv, rfl, hown, hb1⟩
  have hz_w1_0 : w.heap.size < w1.heap.size   := (by have := hb1.size; first | omega | (simp at this; omega))
  rw [← hgs] at hown
  obtain ⟨g, cap, rfl, hg, hcap⟩ : ∃ g cap, sv = .slice (some ⟨g, 0, none⟩) 8 cap ∧ g < w1.heap.size ∧ 8 ≤ cap := by
    rcases hown.2 with ⟨rfl, h0⟩ | ⟨g, cap, cur, rfl, _, hh, hc, _⟩
    · omega
    · exact ⟨g, cap, rfl, (Array.getElem?_eq_some_iff.1 hh).1, hc⟩
  have hcell : ∀ j, j < 8 → w1.cell? ⟨g, j, none⟩ = some (.string (hexT (gs.getD j 0))) := fun j hj => by
    rw [World.ownsRow.cellAt hown j (by omega), List.getElem?_map, List.getD_eq_getElem?_getD, List.getElem?_eq_getElem (by omega)]
    rfl
  have B1 : Below w.heap.size w w1 := by repeat (first | with_reducible exact Below.refl _ _ | with_reducible refine Below.drew ?_ | with_reducible refine Below.alloc ?_ (by first | omega | (simp <;> omega)) _ | with_reducible refine Below.setCell ?_ (by first | omega | (simp <;> omega)) _ | with_reducible refine Below.trans ?_ (Below.mono hb1 (by first | omega | (simp <;> omega))))
  clear hown hL Lx ha hb1
  go_wp2_with fail
  refine (leftOut_w gs hn g cap _ hcell).mono ?_
  rintro e w2 ⟨p, q, rfl, hpq, rfl⟩
  have hle := loR_le hn
  obtain ⟨P, hP⟩ : ∃ P, P = (loR gs).1 := ⟨_, rfl⟩
  obtain ⟨Q, hQ⟩ : ∃ Q, Q = (loR gs).2 := ⟨_, rfl⟩
  have hpq' := hpq.out
  rw [← hP, ← hQ] at hle hpq'
  obtain ⟨hp, hq⟩ := hpq'
  have xs (W : World) (hb : Below w2.heap.size w2 W) (o n : Nat) (hon : o + n ≤ 8) : ∀ (j : Nat) (x : ByteArray), (((gs.drop o).take n).map hexT)[j]? = some x → W.cell? ⟨g, o + j, none⟩ = some (.string x) := fun j x hx => by
    have hj : j < n := by
      have := (List.getElem?_eq_some_iff.1 hx).1
      simp at this; omega
    rw [hb.cell (p := ⟨g, o + j, none⟩) hg, hcell _ (by omega)]
    rw [List.getElem?_map] at hx
    obtain ⟨m, hm, rfl⟩ := Option.map_eq_some_iff.1 hx
    rw [List.getElem?_take_of_lt hj, List.getElem?_drop] at hm
    rw [List.getD_eq_getElem?_getD, hm]
    rfl
  have sz (o n : Nat) : ∀ x ∈ ((gs.drop o).take n).map hexT, x.size ≤ 100 := fun x hx => by
    obtain ⟨m, hm, rfl⟩ := List.mem_map.1 hx
    exact txtP_size (b := 16) (hlt m (List.mem_of_mem_drop (List.mem_of_mem_take hm)))
  have JN (W : World) (hb : Below w2.heap.size w2 W) (o n : Nat) (hon : o + n ≤ 8) (c : Nat) (hc : n ≤ c) : Calls Tryz.prog 66 #[.slice (some ⟨g, o, none⟩) n c, .string ⟨#[58]⟩] W fun e w' => e = .returned (.string ⟨(joinT 16 ((gs.drop o).take n) [58]).toArray⟩) ∧ Below W.heap.size W w' := by
    refine (join_at g o n c (((gs.drop o).take n).map hexT) ⟨#[58]⟩ W (by simp; omega) (xs W hb o n hon) (by have := hb.size; omega) hc (by omega) (by decide) (sz o n)).mono ?_
    rintro e w' ⟨rfl, hb'⟩
    refine ⟨?_, hb'⟩
    unfold joinT
    rw [List.map_map]
    rfl
  clear hcell xs sz
  have RES : Hid (prL a = if P = Q then ⟨(joinT 16 gs [58]).toArray⟩ else ⟨(joinT 16 (gs.take P) [58] ++ [58, 58] ++ joinT 16 (gs.drop Q) [58]).toArray⟩) := by
    show _ = _
    unfold prL
    rw [← hgs, ← hP, ← hQ]
  clear hgs hP hQ hpq
  by_cases hpe : P = Q
  · have e1 : (p == q) = true := by rw [beq_iff_eq]; omega
    have J := JN w2 (Below.refl _ _) 0 8 (by omega) cap hcap
    rw [List.drop_zero, List.take_of_length_le (by omega)] at J
    clear hp hq JN
    go_wp2_with fail
    refine J.mono ?_
    rintro e w3 ⟨rfl, hb3⟩
    clear J
    go_wp2
    go_ret
    exact ⟨by rw [RES.out, if_pos hpe]; rfl, by repeat (first | with_reducible exact Below.refl _ _ | with_reducible refine Below.drew ?_ | with_reducible refine Below.alloc ?_ (by first | omega | (simp <;> omega)) _ | with_reducible refine Below.setCell ?_ (by first | omega | (simp <;> omega)) _ | with_reducible refine Below.trans ?_ (Below.mono hb3 (by first | omega | (simp <;> omega))) | with_reducible refine Below.trans ?_ (Below.mono B1 (by first | omega | (simp <;> omega))))⟩
  · have e1 : (p == q) = false := by rw [beq_eq_false_iff_ne]; omega
    have p0 : 0 ≤ p := by omega
    have p1 : p ≤ 8 := by omega
    have q0 : 0 ≤ q := by omega
    have q1 : q ≤ 8 := by omega
    have sl1 : ∀ W, (Instr.sliceAt 87 (.slice (some ⟨g, 0, none⟩) 8 cap) none (some (.int .i64 p)) none).run Tryz.prog W = .ok (.slice (some ⟨g, 0, none⟩) P cap) W := fun W => by
      clear e1
      subst hp
      go_simp
      intro hc
      omega
    obtain ⟨o, ho, sl2⟩ : ∃ o, (o = Q ∨ 8 - Q = 0) ∧ ∀ W, (Instr.sliceAt 87 (.slice (some ⟨g, 0, none⟩) 8 cap) (some (.int .i64 q)) none none).run Tryz.prog W = .ok (.slice (some ⟨g, o, none⟩) (8 - Q) (cap - Q)) W := by
      by_cases hcq : cap = Q
      · refine ⟨0, Or.inr (by omega), fun W => ?_⟩
        clear e1
        subst hq
        go_simp
      · refine ⟨Q, Or.inl rfl, fun W => ?_⟩
        clear e1
        subst hq
        go_simp
    have J1 := fun W hb => JN W hb 0 P (by omega) cap (by omega)
    rw [List.drop_zero] at J1
    have J2 : ∀ W, Below w2.heap.size w2 W → Calls Tryz.prog 66 #[.slice (some ⟨g, o, none⟩) (8 - Q) (cap - Q), .string ⟨#[58]⟩] W fun e w' => e = .returned (.string ⟨(joinT 16 (gs.drop Q) [58]).toArray⟩) ∧ Below W.heap.size W w' := fun W hb => by
      rcases ho with rfl | h0
      · have := JN W hb o (8 - o) (by omega) (cap - o) (by omega)
        rwa [List.take_of_length_le (by simp; omega)] at this
      · rw [h0, List.drop_eq_nil_of_le (by omega)]
        refine (Tryz.strings_Join_none _ _ _ W).mono ?_
        rintro e w' ⟨rfl, rfl⟩
        exact ⟨rfl, Below.refl _ _⟩
    obtain ⟨X, hX⟩ : ∃ X : ByteArray, X = ⟨(joinT 16 (gs.take P) [58]).toArray⟩ := ⟨_, rfl⟩
    obtain ⟨Y, hY⟩ : ∃ Y : ByteArray, Y = ⟨(joinT 16 (gs.drop Q) [58]).toArray⟩ := ⟨_, rfl⟩
    have RES2 : Hid (prL a = X ++ ⟨#[58, 58]⟩ ++ Y) := by
      show _ = _
      rw [RES.out, if_neg hpe, hX, hY]
      apply ByteArray.ext
      simp
    have jl (ns : List Nat) (h8 : ns.length ≤ 8) (hm : ∀ n ∈ ns, n < 65536) : (joinT 16 ns [58]).length ≤ 808 := by
      have := join_len (sep := [58]) (L := 100) (by decide) (xs := ns.map fun n => (txtP 16 n).data.toList) (fun x hx => by
        obtain ⟨m, hm', rfl⟩ := List.mem_map.1 hx
        simpa using txtP_size (b := 16) (hm m hm'))
      rw [List.length_map] at this
      have h2 : ns.length * (100 + 1) ≤ 8 * 101 := Nat.mul_le_mul_right _ h8
      unfold joinT
      omega
    have sX : X.size ≤ 808 := by rw [hX]; exact jl _ (by simp; omega) (fun n h => hlt n (List.mem_of_mem_take h))
    have sY : Y.size ≤ 808 := by rw [hY]; exact jl _ (by simp; omega) (fun n h => hlt n (List.mem_of_mem_drop h))
    rw [← hX] at J1
    rw [← hY] at J2
    have K1 : Hid _ := J1
    have K2 : Hid _ := J2
    clear hp hq JN RES hX hY ho J1 J2 hpe hle jl hlt
    go_wp2_with fail
    refine wp_region_held_drew (S := fun _ => True) (by kernel_rfl) trivial (fun hHeld => ?_)
    refine wpAnyH_take (i := 0) (oi := _) (v := ?v1) (List.getElem?_toArray.trans rfl) (by kernel_rfl) (by kernel_rfl) (by kernel_rfl) (fun _ _ _ h => h) (Or.inl ⟨by rfl, ?hy1⟩) (by assumption) ?rest1
    case hy1 => (intro wq hSw; go_simp; try with_reducible rfl)
    try simp only [Act.put, List.setIfInBounds_toArray, List.set_cons_zero, List.set_cons_succ]
    refine wpAnyH_take (i := 1) (oi := _) (v := ?v2) (List.getElem?_toArray.trans rfl) (by kernel_rfl) (by kernel_rfl) (by kernel_rfl) (fun _ _ _ h => h) (Or.inl ⟨by rfl, ?hy2⟩) (by assumption) ?rest2
    case hy2 => (intro wq hSw; go_simp; try with_reducible rfl)
    try simp only [Act.put, List.setIfInBounds_toArray, List.set_cons_zero, List.set_cons_succ]
    refine wpAnyH_take (i := 2) (oi := _) (v := ?v3) (List.getElem?_toArray.trans rfl) (by kernel_rfl) (by kernel_rfl) (by kernel_rfl) (fun _ _ _ h => h) (Or.inl ⟨by rfl, ?hy3⟩) (by assumption) ?rest3
    case hy3 => (intro wq hSw; go_simp; try with_reducible rfl)
    try simp only [Act.put, List.setIfInBounds_toArray, List.set_cons_zero, List.set_cons_succ]
    refine wpAnyH_take (i := 5) (oi := _) (v := ?v4) (List.getElem?_toArray.trans rfl) (by kernel_rfl) (by kernel_rfl) (by kernel_rfl) (fun _ _ _ h => h) (Or.inl ⟨by rfl, ?hy4⟩) (by assumption) ?rest4
    case hy4 => (intro wq hSw; go_simp; try with_reducible rfl)
    try simp only [Act.put, List.setIfInBounds_toArray, List.set_cons_zero, List.set_cons_succ]
    refine wpAnyH_take (i := 6) (oi := _) (v := ?v5) (List.getElem?_toArray.trans rfl) (by kernel_rfl) (by kernel_rfl) (by kernel_rfl) (fun _ _ _ h => h) (Or.inl ⟨by rfl, ?hy5⟩) (by assumption) ?rest5
    case hy5 => (intro wq hSw; go_simp; try with_reducible rfl)
    try simp only [Act.put, List.setIfInBounds_toArray, List.set_cons_zero, List.set_cons_succ]
    refine wpAnyH_take (i := 7) (oi := _) (v := ?v6) (List.getElem?_toArray.trans rfl) (by kernel_rfl) (by kernel_rfl) (by kernel_rfl) (fun _ _ _ h => h) (Or.inl ⟨by rfl, ?hy6⟩) (by assumption) ?rest6
    case hy6 => (intro wq hSw; go_simp; try with_reducible rfl)
    try simp only [Act.put, List.setIfInBounds_toArray, List.set_cons_zero, List.set_cons_succ]
    refine wpAnyH_ready (rs := [3]) (by kernel_rfl) (by simp) ?rdy7
    refine (AllReadyH.cons (List.getElem?_toArray.trans rfl) (fun K hK => ?stp7_3) AllReadyH.nil)
    case stp7_3 =>
      go_simp
      go_wp2_with fail
      (refine (K1.out _ (by repeat (first | with_reducible exact Below.refl _ _ | with_reducible refine Below.drew ?_ | with_reducible refine Below.alloc ?_ (by first | omega | (simp <;> omega)) _ | with_reducible refine Below.setCell ?_ (by first | omega | (simp <;> omega)) _))).mono ?_; rintro e w3 ⟨rfl, hb3⟩; have hz_w3_0 : w.heap.size < w3.heap.size   := (by have := hb3.size; first | omega | (simp at this; omega)))
      go_wp2_with fail
      refine hK.out _ _ trivial (fun hHeld2 => ?_)
      clear hK K hHeld2
      try simp only [Act.put, List.setIfInBounds_toArray, List.set_cons_zero, List.set_cons_succ]
      refine wpAnyH_ready (rs := [4, 8]) (by kernel_rfl) (by simp) ?rdy8
      refine (AllReadyH.cons (List.getElem?_toArray.trans rfl) (fun K hK => ?stp8_4) (AllReadyH.cons (List.getElem?_toArray.trans rfl) (fun K hK => ?stp8_8) AllReadyH.nil))
      case stp8_4 =>
        go_simp
        go_wp2_with fail
        refine hK.out _ _ trivial (fun hHeld2 => ?_)
        clear hK K hHeld2
        try simp only [Act.put, List.setIfInBounds_toArray, List.set_cons_zero, List.set_cons_succ]
        refine wpAnyH_ready (rs := [8]) (by kernel_rfl) (by simp) ?rdy9
        refine (AllReadyH.cons (List.getElem?_toArray.trans rfl) (fun K hK => ?stp9_8) AllReadyH.nil)
        case stp9_8 =>
          go_simp
          go_wp2_with fail
          (refine (K2.out _ (by repeat (first | with_reducible exact Below.refl _ _ | with_reducible refine Below.drew ?_ | with_reducible refine Below.alloc ?_ (by first | omega | (simp <;> omega)) _ | with_reducible refine Below.setCell ?_ (by first | omega | (simp <;> omega)) _ | with_reducible refine Below.trans ?_ (Below.mono hb3 (by first | omega | (simp <;> omega)))))).mono ?_; rintro e w4 ⟨rfl, hb4⟩; have hz_w4_0 : w.heap.size < w4.heap.size   := (by have := hb4.size; first | omega | (simp at this; omega)))
          go_wp2_with fail
          refine hK.out _ _ trivial (fun hHeld2 => ?_)
          clear hK K hHeld2
          try simp only [Act.put, List.setIfInBounds_toArray, List.set_cons_zero, List.set_cons_succ]
          refine wpAnyH_ready (rs := [9]) (by kernel_rfl) (by simp) ?rdy10
          refine (AllReadyH.cons (List.getElem?_toArray.trans rfl) (fun K hK => ?stp10_9) AllReadyH.nil)
          case stp10_9 =>
            go_simp
            go_wp2_with fail
            refine hK.out _ _ trivial (fun hHeld2 => ?_)
            clear hK K hHeld2
            try simp only [Act.put, List.setIfInBounds_toArray, List.set_cons_zero, List.set_cons_succ]
            refine wpAnyH_ready (rs := [10]) (by kernel_rfl) (by simp) ?rdy11
            refine (AllReadyH.cons (List.getElem?_toArray.trans rfl) (fun K hK => ?stp11_10) AllReadyH.nil)
            case stp11_10 =>
              go_simp
              go_wp2_with fail
              refine hK.out _ _ trivial (fun hHeld2 => ?_)
              clear hK K hHeld2
              try simp only [Act.put, List.setIfInBounds_toArray, List.set_cons_zero, List.set_cons_succ]
              refine wpAnyH_done (by kernel_rfl) ?_ _
              go_wp2
              go_ret
              exact ⟨by rw [RES2.out]; rfl, by repeat (first | with_reducible exact Below.refl _ _ | with_reducible refine Below.drew ?_ | with_reducible refine Below.alloc ?_ (by first | omega | (simp <;> omega)) _ | with_reducible refine Below.setCell ?_ (by first | omega | (simp <;> omega)) _ | with_reducible refine Below.trans ?_ (Below.mono hb4 (by first | omega | (simp <;> omega))) | with_reducible refine Below.trans ?_ (Below.mono hb3 (by first | omega | (simp <;> omega))) | with_reducible refine Below.trans ?_ (Below.mono B1 (by first | omega | (simp <;> omega))))⟩
      case stp8_8 =>
        go_simp
        go_wp2_with fail
        (refine (K2.out _ (by repeat (first | with_reducible exact Below.refl _ _ | with_reducible refine Below.drew ?_ | with_reducible refine Below.alloc ?_ (by first | omega | (simp <;> omega)) _ | with_reducible refine Below.setCell ?_ (by first | omega | (simp <;> omega)) _ | with_reducible refine Below.trans ?_ (Below.mono hb3 (by first | omega | (simp <;> omega)))))).mono ?_; rintro e w4 ⟨rfl, hb4⟩; have hz_w4_0 : w.heap.size < w4.heap.size   := (by have := hb4.size; first | omega | (simp at this; omega)))
        go_wp2_with fail
        refine hK.out _ _ trivial (fun hHeld2 => ?_)
        clear hK K hHeld2
        try simp only [Act.put, List.setIfInBounds_toArray, List.set_cons_zero, List.set_cons_succ]
        refine wpAnyH_ready (rs := [4]) (by kernel_rfl) (by simp) ?rdy12
        refine (AllReadyH.cons (List.getElem?_toArray.trans rfl) (fun K hK => ?stp12_4) AllReadyH.nil)
        case stp12_4 =>
          go_simp
          go_wp2_with fail
          refine hK.out _ _ trivial (fun hHeld2 => ?_)
          clear hK K hHeld2
          try simp only [Act.put, List.setIfInBounds_toArray, List.set_cons_zero, List.set_cons_succ]
          refine wpAnyH_ready (rs := [9]) (by kernel_rfl) (by simp) ?rdy13
          refine (AllReadyH.cons (List.getElem?_toArray.trans rfl) (fun K hK => ?stp13_9) AllReadyH.nil)
          case stp13_9 =>
            go_simp
            go_wp2_with fail
            refine hK.out _ _ trivial (fun hHeld2 => ?_)
            clear hK K hHeld2
            try simp only [Act.put, List.setIfInBounds_toArray, List.set_cons_zero, List.set_cons_succ]
            refine wpAnyH_ready (rs := [10]) (by kernel_rfl) (by simp) ?rdy14
            refine (AllReadyH.cons (List.getElem?_toArray.trans rfl) (fun K hK => ?stp14_10) AllReadyH.nil)
            case stp14_10 =>
              go_simp
              go_wp2_with fail
              refine hK.out _ _ trivial (fun hHeld2 => ?_)
              clear hK K hHeld2
              try simp only [Act.put, List.setIfInBounds_toArray, List.set_cons_zero, List.set_cons_succ]
              refine wpAnyH_done (by kernel_rfl) ?_ _
              go_wp2
              go_ret
              exact ⟨by rw [RES2.out]; rfl, by repeat (first | with_reducible exact Below.refl _ _ | with_reducible refine Below.drew ?_ | with_reducible refine Below.alloc ?_ (by first | omega | (simp <;> omega)) _ | with_reducible refine Below.setCell ?_ (by first | omega | (simp <;> omega)) _ | with_reducible refine Below.trans ?_ (Below.mono hb4 (by first | omega | (simp <;> omega))) | with_reducible refine Below.trans ?_ (Below.mono hb3 (by first | omega | (simp <;> omega))) | with_reducible refine Below.trans ?_ (Below.mono B1 (by first | omega | (simp <;> omega))))⟩

/-- An address's text. -/
def prA (v : Bool) (a : Nat) : ByteArray := if okA v a = true then (if v = true then prL a else prS a) else ⟨#[]⟩

set_option maxHeartbeats 800000 in
theorem aprint_no {v : Bool} {h l : Int} {a : Nat} (ha : IsNum h l a) (hok : okA v a = false) (w : World) :
    Calls Tryz.prog 19 #[av v h l] w fun e w' => e = .returned (.string ⟨#[]⟩) ∧ Below w.heap.size w w' := by
  have hr := fun w' => aright_c (v := v) ha w'
  rw [hok] at hr
  clear hok ha
  go_enter Tryz.func19, Tryz.ntmps19
  go_wp2_with fail
  refine (hr _).mono ?_
  rintro e w1 ⟨rfl, hb1⟩
  clear hr
  go_wp2
  go_ret
  exact ⟨rfl, by repeat (first | with_reducible exact Below.refl _ _ | with_reducible refine Below.drew ?_ | with_reducible refine Below.alloc ?_ (by first | omega | (simp <;> omega)) _ | with_reducible refine Below.setCell ?_ (by first | omega | (simp <;> omega)) _ | with_reducible refine Below.trans ?_ (Below.mono hb1 (by first | omega | (simp <;> omega))))⟩

set_option maxHeartbeats 800000 in
theorem aprint_S {h l : Int} {a : Nat} (ha : IsNum h l a) (hok : okA false a = true) (w : World) (hL : LW w) :
    Calls Tryz.prog 19 #[av false h l] w fun e w' => e = .returned (.string (prS a)) ∧ Below w.heap.size w w' := by
  have hr := fun w' => aright_c (v := false) ha w'
  have hp := fun w' hb => printShort_c ha w' (hL.of hb hL.sz)
  rw [hok] at hr
  clear hok ha hL
  go_enter Tryz.func19, Tryz.ntmps19
  go_wp2_with fail
  refine (hr _).mono ?_
  rintro e w1 ⟨rfl, hb1⟩
  obtain ⟨hc1, hf1⟩ := bcell hb1
  have hz_w1_0 : w.heap.size < w1.heap.size   := (by have := hb1.size; first | omega | (simp at this; omega))
  clear hr
  go_wp2_with fail
  refine (hp _ (by repeat (first | with_reducible exact Below.refl _ _ | with_reducible refine Below.drew ?_ | with_reducible refine Below.alloc ?_ (by first | omega | (simp <;> omega)) _ | with_reducible refine Below.setCell ?_ (by first | omega | (simp <;> omega)) _ | with_reducible refine Below.trans ?_ (Below.mono hb1 (by first | omega | (simp <;> omega)))))).mono ?_
  rintro e w2 ⟨rfl, hb2⟩
  clear hp
  go_wp2
  go_ret
  exact ⟨rfl, by repeat (first | with_reducible exact Below.refl _ _ | with_reducible refine Below.drew ?_ | with_reducible refine Below.alloc ?_ (by first | omega | (simp <;> omega)) _ | with_reducible refine Below.setCell ?_ (by first | omega | (simp <;> omega)) _ | with_reducible refine Below.trans ?_ (Below.mono hb2 (by first | omega | (simp <;> omega))) | with_reducible refine Below.trans ?_ (Below.mono hb1 (by first | omega | (simp <;> omega))))⟩

set_option maxHeartbeats 800000 in
theorem aprint_L {h l : Int} {a : Nat} (ha : IsNum h l a) (hok : okA true a = true) (w : World) (hL : LW w) :
    Calls Tryz.prog 19 #[av true h l] w fun e w' => e = .returned (.string (prL a)) ∧ Below w.heap.size w w' := by
  have hr := fun w' => aright_c (v := true) ha w'
  have hp := fun w' hb => printLong_c ha w' (hL.of hb hL.sz)
  rw [hok] at hr
  clear hok ha hL
  go_enter Tryz.func19, Tryz.ntmps19
  go_wp2_with fail
  refine (hr _).mono ?_
  rintro e w1 ⟨rfl, hb1⟩
  obtain ⟨hc1, hf1⟩ := bcell hb1
  have hz_w1_0 : w.heap.size < w1.heap.size   := (by have := hb1.size; first | omega | (simp at this; omega))
  clear hr
  go_wp2_with fail
  refine (hp _ (by repeat (first | with_reducible exact Below.refl _ _ | with_reducible refine Below.drew ?_ | with_reducible refine Below.alloc ?_ (by first | omega | (simp <;> omega)) _ | with_reducible refine Below.setCell ?_ (by first | omega | (simp <;> omega)) _ | with_reducible refine Below.trans ?_ (Below.mono hb1 (by first | omega | (simp <;> omega)))))).mono ?_
  rintro e w2 ⟨rfl, hb2⟩
  clear hp
  go_wp2
  go_ret
  exact ⟨rfl, by repeat (first | with_reducible exact Below.refl _ _ | with_reducible refine Below.drew ?_ | with_reducible refine Below.alloc ?_ (by first | omega | (simp <;> omega)) _ | with_reducible refine Below.setCell ?_ (by first | omega | (simp <;> omega)) _ | with_reducible refine Below.trans ?_ (Below.mono hb2 (by first | omega | (simp <;> omega))) | with_reducible refine Below.trans ?_ (Below.mono hb1 (by first | omega | (simp <;> omega))))⟩

/-- Print: an address's text. -/
theorem aprint_c {v : Bool} {h l : Int} {a : Nat} (ha : IsNum h l a) (w : World) (hL : LW w) :
    Calls Tryz.prog 19 #[av v h l] w fun e w' => e = .returned (.string (prA v a)) ∧ Below w.heap.size w w' := by
  unfold prA
  cases hok : okA v a
  · exact aprint_no ha hok w
  · cases v
    · exact aprint_S ha hok w hL
    · exact aprint_L ha hok w hL
end Go.Proofs.YtipjmmhlfmahbaaGreatDoor
