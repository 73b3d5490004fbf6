/-
  What printPieces and leftOut of package addr return.
-/
import Derived.Test.YtbecaepagachpaaGreatDoorAddrD
import Derived.Test.YtbecaepagachpaaGreatDoorFmt16
import Derived.Deep.Onto
namespace Go.Proofs.YtbecaepagachpaaGreatDoor
open Go.ChangeShapes Go.WideShapes Go.ChangeAt Go.RowKit
set_option linter.unusedVariables false
set_option linter.unusedSimpArgs false

/-- How many digits of base 16 a number below 65536 has. -/
def hexLen (u : Nat) : Nat := if u < 16 then 1 else if u < 256 then 2 else if u < 4096 then 3 else 4

/-- Its digits of base 16. -/
def hexT (u : Nat) : ByteArray := strOfNums (lowH u (hexLen u))

theorem IsHex.len {u j : Nat} (h : IsHex u j) (hj : j ≤ 4) : j = hexLen u := by
  obtain ⟨p, l, g⟩ := h
  unfold hexLen
  have : j = 1 ∨ j = 2 ∨ j = 3 ∨ j = 4 := by omega
  rcases this with rfl | rfl | rfl | rfl
  · rw [if_pos (by simpa using l)]
  · have := g (by omega); simp at this l
    rw [if_neg (by omega), if_pos (by omega)]
  · have := g (by omega); simp at this l
    rw [if_neg (by omega), if_neg (by omega), if_pos (by omega)]
  · have := g (by omega); simp at this l
    rw [if_neg (by omega), if_neg (by omega), if_neg (by omega)]

set_option maxHeartbeats 800000 in
theorem fu16_c (u : Nat) (hu : u < 65536) (w : World) (hL : LW w) :
    Calls Tryz.prog 109 #[.int .u64 u, .int .i64 16] w fun e w' => e = .returned (.string (hexT u)) ∧ Below w.heap.size w w' := by
  go_enter Tryz.func109, Tryz.ntmps109
  go_wp2_with (go_at_call 105; refine (fbits_w u hu _ hL).mono ?_; rintro e w1 ⟨j, rfl, hx, hj, hb1⟩; obtain rfl := hx.len hj; clear hx hj)
  go_ret
  exact ⟨rfl, hb1⟩

/-- A number's digits of base 10 or 16. -/
def txtP (b : Int) (n : Nat) : ByteArray := if b = 10 then ⟨(Lib.decDigits n).toArray⟩ else hexT n

set_option maxHeartbeats 800000 in
theorem fmt16_c (u : Nat) (hu : u < 65536) (w : World) (hL : LW w) :
    Calls Tryz.prog 97 #[.int .u64 u, .int .i64 16] w fun e w' => e = .returned (.string (hexT u)) ∧ Below w.heap.size w w' := by
  go_enter Tryz.func97, Tryz.ntmps97
  go_wp2_with (go_at_call 109; refine (fu16_c u hu _ hL).mono ?_; rintro e w1 ⟨rfl, hb1⟩)
  go_ret
  exact ⟨rfl, hb1⟩

theorem fmt_i {b r : Int} {u : Nat} (hb : b = 10 ∨ b = 16) (hr : r = (u : Int)) (hu : u < 65536) (w : World) (hL : LW w) :
    Calls Tryz.prog 97 #[.int .u64 r, .int .i64 b] w fun e w' => e = .returned (.string (txtP b u)) ∧ Below w.heap.size w w' := by
  subst hr
  rcases hb with rfl | rfl
  · exact fmt10_c u (by omega) w hL
  · exact fmt16_c u hu w hL

theorem infoStr : (Tryz.prog.info? 9).map (fun i => (i.zero, i.size, i.bytes)) = some (some (.string ⟨#[]⟩), 1, 16) := by kernel_rfl

set_option maxHeartbeats 1600000 in
theorem pieces_4 {h l : Int} {a : Nat} (ha : IsNum h l a) (w : World) (hL : LW w) :
    Calls Tryz.prog 85 #[av false h l, .int .i64 8, .int .i64 10] w fun e w' => ∃ sv, e = .returned sv ∧ w'.ownsRow w.heap.size 9 1 sv 4 ((topP a 32 8 4).map fun n => .string (txtP 10 n)) ∧ Below w.heap.size w w' := by
  obtain ⟨i0, hi, hz0, hz1, hz2⟩ := info_parts infoStr
  have wd := fun w' => width_lit false 32 rfl h l w'
  have pc := fun (t : Int) (t0 : 0 ≤ t) (t1 : 8 * (t + 1) ≤ 32) (w' : World) => piece_w (v := false) (s := 8) ha (Or.inl rfl) t0 t1 w'
  have hz := hL.sz
  clear ha
  go_enter Tryz.func85, Tryz.ntmps85
  go_wp2_with fail
  refine (wd _).mono ?_
  rintro e w2 ⟨rfl, hb2⟩
  obtain ⟨hc2, hf2⟩ := bcell hb2
  have hz_w2_0 : w.heap.size < w2.heap.size   := (by have := hb2.size; first | omega | (simp at this; omega))
  clear wd
  have B2 : Below w.heap.size w w2 := by repeat (first | with_reducible exact Below.refl _ _ | with_reducible refine Below.drew ?_ | with_reducible refine Below.alloc ?_ (by first | omega | (simp <;> omega)) _ | with_reducible refine Below.setCell ?_ (by first | omega | (simp <;> omega)) _ | with_reducible refine Below.trans ?_ (Below.mono hb2 (by first | omega | (simp <;> omega))))
  have L2 : LW w2 := hL.of B2 hz
  have bx : w2.cell? ⟨w.heap.size, 0, none⟩ = some (.bool false) ∧ w2.cell? ⟨w.heap.size, 1, none⟩ = some (.int .u64 h) ∧ w2.cell? ⟨w.heap.size, 2, none⟩ = some (.int .u64 l) := by simp [*]
  obtain ⟨bx0, bx1, bx2⟩ := bx
  clear hc2 hf2 hb2
  go_wp2_with fail
  go_loopw [7, 13] (fun u i wr => ∃ k : Nat, k ≤ 4 ∧ i = .int .i64 k ∧ wr.ownsRow w2.heap.size 9 1 u k ((topP a 32 8 k).map fun n => .string (txtP 10 n)) ∧ Below w2.heap.size w2 wr) (fun _ i _ => 4 - (intOf i).toNat)
  case atStart => exact ⟨0, by omega, rfl, World.ownsRow_nil _ _ _ _, Below.refl _ _⟩
  case round =>
    obtain ⟨k, hk, rfl, hown, hb⟩ := hrel
    have hs := hb.size
    by_cases hlt : k < 4
    · have hki : (k : Int) < 4 := by omega
      obtain ⟨hcr, hfr⟩ := bcell' hb
      have hzr : w.heap.size < wr.heap.size := by omega
      have Lr : LW wr := L2.of hb L2.sz
      go_wp2_with fail
      refine (pc k (by omega) (by omega) _).mono ?_
      rintro e w3 ⟨r, rfl, hr3, hb3⟩
      have e1 : r = ((a / 2 ^ (32 - 8 * (k + 1)) % 2 ^ 8 : Nat) : Int) := by
        rw [hr3.out, show (widthA false - 8 * ((k : Int) + 1)).toNat = 32 - 8 * (k + 1) by simp only [widthA]; first | (simp; omega) | omega]; rfl
      have F := fmt_i (b := 10) (Or.inl rfl) e1 (piece_lt _ _ (by decide))
      have L3 : LW w3 := Lr.of hb3 Lr.sz
      have hown3 := own_below hown hb3
      have hb4 : Below w2.heap.size w2 w3 := hb.trans (hb3.mono hs)
      clear hown hb3 hb hcr hfr hs hzr e1 hr3 Lr
      go_wp2_with fail
      refine (F _ L3).mono ?_
      rintro e w5 ⟨rfl, hb5⟩
      have hown5 := own_below hown3 hb5
      have hb6 : Below w2.heap.size w2 w5 := hb4.trans (hb5.mono hb4.size)
      have hs3 := hb6.size
      clear hown3 hb5 hb4 L3 F
      obtain ⟨T, hT⟩ : ∃ T, T = txtP 10 (a / 2 ^ (32 - 8 * (k + 1)) % 2 ^ 8) := ⟨_, rfl⟩
      rw [← hT]
      have HT : Hid (T = txtP 10 (a / 2 ^ (32 - 8 * (k + 1)) % 2 ^ 8)) := hT
      clear hT
      go_wp2_with (first | (at_builtin; refine wpList_append_own _ rfl _ _ 99 rfl w2.heap.size 9 i0 (.string ⟨#[]⟩) 1 16 Tryz.underlying99 hi hz0 hz1 hz2 rfl (by decide) _ _ _ rfl (hown5.alloc _) ⟨w5.heap.size, 0, none⟩ 1 1 [.string T] rfl rfl ?c1 ?c2 ?c3 ?c4 ?c5 ?_))
      case c1 =>
        intro j u hj
        match j, hj with
        | 0, hj => simp at hj; subst hj; simp [Addr.add]
      case c2 => intro u hu; simp at hu; subst hu; rfl
      case c3 => unfold maxLen; omega
      case c4 => omega
      case c5 => simp; omega
      intro v' w4 hown4 hgrow _
      have hb5 := below_grown hb6 hs3 hown5 hgrow
      clear hown5 hgrow
      go_wp2
      go_roundw
      case measure => simp [intOf]; omega
      case rel =>
        refine ⟨k + 1, by omega, by go_num, ?_, hb5⟩
        rw [HT.out] at hown4
        simpa [topP] using hown4
    · obtain rfl : k = 4 := by omega
      have hB : Below w.heap.size w wr := B2.trans (hb.mono B2.size)
      have hown' := World.ownsRow.mono hown B2.size
      clear hown hb hs
      go_wp2
      go_ret
      exact ⟨_, rfl, hown', hB⟩

set_option maxHeartbeats 1600000 in
theorem pieces_8 {h l : Int} {a : Nat} (ha : IsNum h l a) (w : World) (hL : LW w) :
    Calls Tryz.prog 85 #[av true h l, .int .i64 16, .int .i64 16] w fun e w' => ∃ sv, e = .returned sv ∧ w'.ownsRow w.heap.size 9 1 sv 8 ((topP a 128 16 8).map fun n => .string (txtP 16 n)) ∧ Below w.heap.size w w' := by
  obtain ⟨i0, hi, hz0, hz1, hz2⟩ := info_parts infoStr
  have wd := fun w' => width_lit true 128 rfl h l w'
  have pc := fun (t : Int) (t0 : 0 ≤ t) (t1 : 16 * (t + 1) ≤ 128) (w' : World) => piece_w (v := true) (s := 16) ha (Or.inr rfl) t0 t1 w'
  have hz := hL.sz
  clear ha
  go_enter Tryz.func85, Tryz.ntmps85
  go_wp2_with fail
  refine (wd _).mono ?_
  rintro e w2 ⟨rfl, hb2⟩
  obtain ⟨hc2, hf2⟩ := bcell hb2
  have hz_w2_0 : w.heap.size < w2.heap.size   := (by have := hb2.size; first | omega | (simp at this; omega))
  clear wd
  have B2 : Below w.heap.size w w2 := by repeat (first | with_reducible exact Below.refl _ _ | with_reducible refine Below.drew ?_ | with_reducible refine Below.alloc ?_ (by first | omega | (simp <;> omega)) _ | with_reducible refine Below.setCell ?_ (by first | omega | (simp <;> omega)) _ | with_reducible refine Below.trans ?_ (Below.mono hb2 (by first | omega | (simp <;> omega))))
  have L2 : LW w2 := hL.of B2 hz
  have bx : w2.cell? ⟨w.heap.size, 0, none⟩ = some (.bool true) ∧ w2.cell? ⟨w.heap.size, 1, none⟩ = some (.int .u64 h) ∧ w2.cell? ⟨w.heap.size, 2, none⟩ = some (.int .u64 l) := by simp [*]
  obtain ⟨bx0, bx1, bx2⟩ := bx
  clear hc2 hf2 hb2
  go_wp2_with fail
  go_loopw [7, 13] (fun u i wr => ∃ k : Nat, k ≤ 8 ∧ i = .int .i64 k ∧ wr.ownsRow w2.heap.size 9 1 u k ((topP a 128 16 k).map fun n => .string (txtP 16 n)) ∧ Below w2.heap.size w2 wr) (fun _ i _ => 8 - (intOf i).toNat)
  case atStart => exact ⟨0, by omega, rfl, World.ownsRow_nil _ _ _ _, Below.refl _ _⟩
  case round =>
    obtain ⟨k, hk, rfl, hown, hb⟩ := hrel
    have hs := hb.size
    by_cases hlt : k < 8
    · have hki : (k : Int) < 8 := by omega
      obtain ⟨hcr, hfr⟩ := bcell' hb
      have hzr : w.heap.size < wr.heap.size := by omega
      have Lr : LW wr := L2.of hb L2.sz
      go_wp2_with fail
      refine (pc k (by omega) (by omega) _).mono ?_
      rintro e w3 ⟨r, rfl, hr3, hb3⟩
      have e1 : r = ((a / 2 ^ (128 - 16 * (k + 1)) % 2 ^ 16 : Nat) : Int) := by
        rw [hr3.out, show (widthA true - 16 * ((k : Int) + 1)).toNat = 128 - 16 * (k + 1) by simp only [widthA]; first | (simp; omega) | omega]; rfl
      have F := fmt_i (b := 16) (Or.inr rfl) e1 (piece_lt _ _ (by decide))
      have L3 : LW w3 := Lr.of hb3 Lr.sz
      have hown3 := own_below hown hb3
      have hb4 : Below w2.heap.size w2 w3 := hb.trans (hb3.mono hs)
      clear hown hb3 hb hcr hfr hs hzr e1 hr3 Lr
      go_wp2_with fail
      refine (F _ L3).mono ?_
      rintro e w5 ⟨rfl, hb5⟩
      have hown5 := own_below hown3 hb5
      have hb6 : Below w2.heap.size w2 w5 := hb4.trans (hb5.mono hb4.size)
      have hs3 := hb6.size
      clear hown3 hb5 hb4 L3 F
      obtain ⟨T, hT⟩ : ∃ T, T = txtP 16 (a / 2 ^ (128 - 16 * (k + 1)) % 2 ^ 16) := ⟨_, rfl⟩
      rw [← hT]
      have HT : Hid (T = txtP 16 (a / 2 ^ (128 - 16 * (k + 1)) % 2 ^ 16)) := hT
      clear hT
      go_wp2_with (first | (at_builtin; refine wpList_append_own _ rfl _ _ 99 rfl w2.heap.size 9 i0 (.string ⟨#[]⟩) 1 16 Tryz.underlying99 hi hz0 hz1 hz2 rfl (by decide) _ _ _ rfl (hown5.alloc _) ⟨w5.heap.size, 0, none⟩ 1 1 [.string T] rfl rfl ?c1 ?c2 ?c3 ?c4 ?c5 ?_))
      case c1 =>
        intro j u hj
        match j, hj with
        | 0, hj => simp at hj; subst hj; simp [Addr.add]
      case c2 => intro u hu; simp at hu; subst hu; rfl
      case c3 => unfold maxLen; omega
      case c4 => omega
      case c5 => simp; omega
      intro v' w4 hown4 hgrow _
      have hb5 := below_grown hb6 hs3 hown5 hgrow
      clear hown5 hgrow
      go_wp2
      go_roundw
      case measure => simp [intOf]; omega
      case rel =>
        refine ⟨k + 1, by omega, by go_num, ?_, hb5⟩
        rw [HT.out] at hown4
        simpa [topP] using hown4
    · obtain rfl : k = 8 := by omega
      have hB : Below w.heap.size w wr := B2.trans (hb.mono B2.size)
      have hown' := World.ownsRow.mono hown B2.size
      clear hown hb hs
      go_wp2
      go_ret
      exact ⟨_, rfl, hown', hB⟩

end Go.Proofs.YtbecaepagachpaaGreatDoor
