/-
  The walk of SumBytes.
-/
import Derived.Test.YtgbpnekinbdadaaDoorSuB
namespace Go.Proofs.YtgbpnekinbdadaaDoor
open Go.ChangeShapes Go.WideShapes Go.ChangeAt Go.RowKit
set_option linter.unusedVariables false
set_option linter.unusedSimpArgs false

theorem layS_size (n : Nat) : (layS n).size = 4 := by
  show (layS n).data.size = 4
  rw [← Array.length_toList]
  unfold layS
  rw [strOfNums_data]
  simp

theorem layS_at (n : Nat) {i : Nat} (hi : i < 4) : sb8 (layS n) i = byteW n i := by
  have b : byteW n i < 256 := Nat.mod_lt _ (by decide)
  unfold sb8 layS
  rw [strOfNums_data, List.map_map, List.getD_eq_getElem?_getD, List.getElem?_map, List.getElem?_range hi]
  simp
  omega

theorem read_lay {n : Nat} (hn : n ≤ 4294967295) : readV (layS n) 4 = n := by
  simp only [readV, layS_at n (show 0 < 4 by decide), layS_at n (show 1 < 4 by decide), layS_at n (show 2 < 4 by decide), layS_at n (show 3 < 4 by decide)]
  unfold byteW
  simp
  omega

theorem lay_read {s : ByteArray} (h : s.size = 4) : layS (readV s 4) = s := by
  have b0 := sb8_lt s 0
  have b1 := sb8_lt s 1
  have b2 := sb8_lt s 2
  have b3 := sb8_lt s 3
  have e : ∀ i, i < 4 → byteW (readV s 4) i = sb8 s i := by
    intro i hi
    have hv : readV s 4 = sb8 s 0 + 256 * sb8 s 1 + 65536 * sb8 s 2 + 16777216 * sb8 s 3 := by
      simp [readV]
    unfold byteW
    rw [hv]
    rcases (show i = 0 ∨ i = 1 ∨ i = 2 ∨ i = 3 by omega) with rfl | rfl | rfl | rfl
    all_goals simp
    all_goals omega
  have z1 : (layS (readV s 4)).data.toList.length = 4 := by rw [Array.length_toList]; exact layS_size _
  have z2 : s.data.toList.length = 4 := by rw [Array.length_toList]; exact h
  have l1 : (layS (readV s 4)).data.toList = s.data.toList := by
    apply List.ext_getElem?
    intro i
    by_cases hi : i < 4
    · have h2 := layS_at (readV s 4) hi
      rw [e i hi] at h2
      have q1 : i < (layS (readV s 4)).data.toList.length := by omega
      have q2 : i < s.data.toList.length := by omega
      unfold sb8 at h2
      rw [List.getD_eq_getElem?_getD, List.getD_eq_getElem?_getD, List.getElem?_eq_getElem q1, List.getElem?_eq_getElem q2] at h2
      rw [List.getElem?_eq_getElem q1, List.getElem?_eq_getElem q2]
      congr 1
      exact UInt8.toNat_inj.1 h2
    · rw [List.getElem?_eq_none, List.getElem?_eq_none]
      · omega
      · omega
  cases hb : layS (readV s 4) with
  | mk d =>
    cases s with
    | mk d' =>
      rw [hb] at l1
      congr 1
      exact Array.ext' l1

/-- Four bytes, one behind the other. -/
theorem layS_four (n : Nat) : layS n = strOfNums [((n % 256 : Nat) : Int), ((n / 256 % 256 : Nat) : Int), ((n / 65536 % 256 : Nat) : Int), ((n / 16777216 % 256 : Nat) : Int)] := by
  unfold layS byteW
  simp [List.range_succ]

set_option maxRecDepth 100000 in
set_option maxHeartbeats 1600000 in
theorem rlay_c {n : Nat} (hn : n ≤ 4294967295) (w : World) :
    Calls Tryd.prog 21 #[.int .u32 n] w fun e w' => e = .returned (.string (layS n)) ∧ Below w.heap.size w w' := by
  obtain ⟨a, ha⟩ : ∃ a, n % 256 = a := ⟨_, rfl⟩
  obtain ⟨b, hb⟩ : ∃ b, n / 256 % 256 = b := ⟨_, rfl⟩
  obtain ⟨c, hc⟩ : ∃ c, n / 65536 % 256 = c := ⟨_, rfl⟩
  obtain ⟨d, hd⟩ : ∃ d, n / 16777216 = d := ⟨_, rfl⟩
  have hd2 : n / 16777216 % 256 = d := by omega
  have e4 := layS_four n
  rw [ha, hb, hc, hd2] at e4
  have ha' : (n : Int) % 256 = (a : Int) := by omega
  have hb' : (n : Int) / 256 % 256 = (b : Int) := by omega
  have hc' : (n : Int) / 65536 % 256 = (c : Int) := by omega
  have hd' : (n : Int) / 16777216 = (d : Int) := by omega
  have al : a < 256 := by omega
  have bl : b < 256 := by omega
  have cl : c < 256 := by omega
  have dl : d < 256 := by omega
  have cv : ∀ W : World, (convert 40 9 (.slice (some ⟨W.heap.size, 0, none⟩) 4 4)).run Tryd.prog (W.alloc (.cells #[.int .u8 a, .int .u8 b, .int .u8 c, .int .u8 d] 5)) = .ok (.string (layS n)) (W.alloc (.cells #[.int .u8 a, .int .u8 b, .int .u8 c, .int .u8 d] 5)) := fun W => by
    rw [e4]
    refine run_convert_bytes_arg (P := Tryd.prog) _ 40 5 Tryd.underlying40 Tryd.underlying5 W.heap.size 0 4 4 [(a : Int), b, c, d] rfl (fun i hi => ?_) 9 Tryd.underlying9
    have B := Blk.new W #[.int .u8 a, .int .u8 b, .int .u8 c, .int .u8 d] 5
    rw [Nat.zero_add, B.cell i]
    rcases (show i = 0 ∨ i = 1 ∨ i = 2 ∨ i = 3 by omega) with rfl | rfl | rfl | rfl <;> rfl
  clear e4 ha hb hc hd hd2
  go_enter Tryd.func21, Tryd.ntmps21
  go_wp2
  go_ret
  exact ⟨by first | rfl | simp, by first | exact by repeat (first | with_reducible exact Below.refl _ _ | with_reducible refine Below.drew ?_ | with_reducible refine Below.alloc ?_ (by first | omega | (simp <;> omega)) _ | with_reducible refine Below.setCell ?_ (by first | omega | (simp <;> omega)) _) | (simp only [*]; exact by repeat (first | with_reducible exact Below.refl _ _ | with_reducible refine Below.drew ?_ | with_reducible refine Below.alloc ?_ (by first | omega | (simp <;> omega)) _ | with_reducible refine Below.setCell ?_ (by first | omega | (simp <;> omega)) _))⟩

set_option maxRecDepth 100000 in
set_option maxHeartbeats 1600000 in
theorem sumbytes_walk {n : Nat} (hn : n ≤ 4294967295) (s : ByteArray) (hs : s.size ≤ maxLen) (w : World) (hT : RM w) :
    Calls Tryd.prog 8 #[.int .u32 n, .string s] w fun e w' => e = .returned (.bool true) ∧ Below w.heap.size w w' := by
  have AW := hide (awake8_c w hT)
  have L1 := hide (fun w => lay_c hn w)
  have R1 := hide (fun w => read_ok (layS n) (layS_size n) (read_lay hn) w)
  have L2 := hide (fun w => rlay_c hn w)
  obtain ⟨T, hTT⟩ : ∃ T, layS n = T := ⟨_, rfl⟩
  rw [hTT] at L1 R1 L2
  clear hT hTT
  by_cases h4 : s.size = 4
  · obtain ⟨k, hk⟩ : ∃ k, readV s 4 = k := ⟨_, rfl⟩
    have kl : k ≤ 4294967295 := by have := readV_lt s 4; omega
    have R2 := hide (fun w => read_ok s h4 hk w)
    have le := lay_read h4
    rw [hk] at le
    have L3 := hide (fun w => lay_c kl w)
    rw [le] at L3
    have c4 : ((s.size : Int) != 4) = false := by simp; omega
    clear hk le h4 hs
    go_enter Tryd.func8, Tryd.ntmps8
    go_wp2_with fail
    refine AW.out.mono ?_
    rintro e w1 ⟨rfl, rfl⟩
    go_wp2_with fail
    refine (L1.out _).mono ?_
    rintro e w2 ⟨rfl, hb2⟩
    go_wp2_with fail
    refine (R1.out _).mono ?_
    rintro e w3 ⟨rfl, rfl⟩
    go_wp2_with fail
    refine (R2.out _).mono ?_
    rintro e w4 ⟨rfl, rfl⟩
    go_wp2_with fail
    refine (L2.out _).mono ?_
    rintro e w5 ⟨rfl, hb5⟩
    go_wp2_with fail
    refine (L3.out _).mono ?_
    rintro e w6 ⟨rfl, hb6⟩
    have B := hide ((hb2.trans (hb5.mono hb2.size)).trans (hb6.mono (Nat.le_trans hb2.size hb5.size)))
    clear hb2 hb5 hb6
    go_wp2
    go_ret
    exact ⟨by first | rfl | simp, B.out⟩
  · have R2 := hide (fun w => read_no s hs h4 w)
    unfold maxLen at hs
    have c4 : ((s.size : Int) != 4) = true := by simp; omega
    clear h4
    go_enter Tryd.func8, Tryd.ntmps8
    go_wp2_with fail
    refine AW.out.mono ?_
    rintro e w1 ⟨rfl, rfl⟩
    go_wp2_with fail
    refine (L1.out _).mono ?_
    rintro e w2 ⟨rfl, hb2⟩
    go_wp2_with fail
    refine (R1.out _).mono ?_
    rintro e w3 ⟨rfl, rfl⟩
    go_wp2_with fail
    refine (R2.out _).mono ?_
    rintro e w4 ⟨rfl, rfl⟩
    go_wp2_with fail
    refine (L2.out _).mono ?_
    rintro e w5 ⟨rfl, hb5⟩
    have B := hide (hb2.trans (hb5.mono hb2.size))
    clear hb2 hb5
    go_wp2
    go_ret
    exact ⟨by first | rfl | simp, B.out⟩

theorem sumbytes_c {z : Int} (hz : 0 ≤ z ∧ z ≤ 4294967295) (s : ByteArray) (hs : s.size ≤ maxLen) (w : World) (hT : RM w) :
    Calls Tryd.prog 8 #[.int .u32 z, .string s] w fun e w' => e = .returned (.bool true) ∧ Below w.heap.size w w' := by
  obtain ⟨n, rfl⟩ := Int.eq_ofNat_of_zero_le hz.1
  exact sumbytes_walk (by omega) s hs w hT
end Go.Proofs.YtgbpnekinbdadaaDoor
