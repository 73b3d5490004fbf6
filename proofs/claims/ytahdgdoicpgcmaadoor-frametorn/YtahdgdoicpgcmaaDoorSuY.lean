/-
  The walk of SumBytes.
-/
import Derived.Test.YtahdgdoicpgcmaaDoorSuB
namespace Go.Proofs.YtahdgdoicpgcmaaDoor
open Go.ChangeShapes Go.WideShapes Go.ChangeAt Go.RowKit
set_option linter.unusedVariables false
set_option linter.unusedSimpArgs false

theorem layS_size (n : Nat) : (layS n).size = 4 := by
  show (layS n).data.size = 4
  rw [← Array.length_toList]
  unfold layS
  rw [strOfNums_data]
  simp

theorem layS_at (n : Nat) {i : Nat} (hi : i < 4) : sb8 (layS n) i = byteW n i := by
  have b : byteW n i < 256 := Nat.mod_lt _ (by decide)
  unfold sb8 layS
  rw [strOfNums_data, List.map_map, List.getD_eq_getElem?_getD, List.getElem?_map, List.getElem?_range hi]
  simp
  omega

theorem read_lay {n : Nat} (hn : n ≤ 4294967295) : readV (layS n) 4 = n := by
  simp only [readV, layS_at n (show 0 < 4 by decide), layS_at n (show 1 < 4 by decide), layS_at n (show 2 < 4 by decide), layS_at n (show 3 < 4 by decide)]
  unfold byteW
  simp
  omega

theorem lay_read {s : ByteArray} (h : s.size = 4) : layS (readV s 4) = s := by
  have b0 := sb8_lt s 0
  have b1 := sb8_lt s 1
  have b2 := sb8_lt s 2
  have b3 := sb8_lt s 3
  have e : ∀ i, i < 4 → byteW (readV s 4) i = sb8 s i := by
    intro i hi
    have hv : readV s 4 = sb8 s 0 + 256 * sb8 s 1 + 65536 * sb8 s 2 + 16777216 * sb8 s 3 := by
      simp [readV]
    unfold byteW
    rw [hv]
    rcases (show i = 0 ∨ i = 1 ∨ i = 2 ∨ i = 3 by omega) with rfl | rfl | rfl | rfl
    all_goals simp
    all_goals omega
  have z1 : (layS (readV s 4)).data.toList.length = 4 := by rw [Array.length_toList]; exact layS_size _
  have z2 : s.data.toList.length = 4 := by rw [Array.length_toList]; exact h
  have l1 : (layS (readV s 4)).data.toList = s.data.toList := by
    apply List.ext_getElem?
    intro i
    by_cases hi : i < 4
    · have h2 := layS_at (readV s 4) hi
      rw [e i hi] at h2
      have q1 : i < (layS (readV s 4)).data.toList.length := by omega
      have q2 : i < s.data.toList.length := by omega
      unfold sb8 at h2
      rw [List.getD_eq_getElem?_getD, List.getD_eq_getElem?_getD, List.getElem?_eq_getElem q1, List.getElem?_eq_getElem q2] at h2
      rw [List.getElem?_eq_getElem q1, List.getElem?_eq_getElem q2]
      congr 1
      exact UInt8.toNat_inj.1 h2
    · rw [List.getElem?_eq_none, List.getElem?_eq_none]
      · omega
      · omega
  cases hb : layS (readV s 4) with
  | mk d =>
    cases s with
    | mk d' =>
      rw [hb] at l1
      congr 1
      exact Array.ext' l1

/-- Four bytes, one behind the other. -/
theorem layS_four (n : Nat) : layS n = strOfNums [((n % 256 : Nat) : Int), ((n / 256 % 256 : Nat) : Int), ((n / 65536 % 256 : Nat) : Int), ((n / 16777216 % 256 : Nat) : Int)] := by
  unfold layS byteW
  simp [List.range_succ]

set_option maxRecDepth 100000 in
set_option maxHeartbeats 1600000 in
theorem rlay_c {n : Nat} (hn : n ≤ 4294967295) (w : World) :
    Calls Tryd.prog 19 #[.int .u32 n] w fun e w' => e = .returned (.string (layS n)) ∧ Below w.heap.size w w' := by
  obtain ⟨a, ha⟩ : ∃ a, n % 256 = a := ⟨_, rfl⟩
  obtain ⟨b, hb⟩ : ∃ b, n / 256 % 256 = b := ⟨_, rfl⟩
  obtain ⟨c, hc⟩ : ∃ c, n / 65536 % 256 = c := ⟨_, rfl⟩
  obtain ⟨d, hd⟩ : ∃ d, n / 16777216 = d := ⟨_, rfl⟩
  have hd2 : n / 16777216 % 256 = d := by omega
  have e4 := layS_four n
  rw [ha, hb, hc, hd2] at e4
  have ha' : (n : Int) % 256 = (a : Int) := by omega
  have hb' : (n : Int) / 256 % 256 = (b : Int) := by omega
  have hc' : (n : Int) / 65536 % 256 = (c : Int) := by omega
  have hd' : (n : Int) / 16777216 = (d : Int) := by omega
  have al : a < 256 := by omega
  have bl : b < 256 := by omega
  have cl : c < 256 := by omega
  have dl : d < 256 := by omega
  have cv : ∀ W : World, (convert 45 9 (.slice (some ⟨W.heap.size, 0, none⟩) 4 4)).run Tryd.prog (W.alloc (.cells #[.int .u8 a, .int .u8 b, .int .u8 c, .int .u8 d] 5)) = .ok (.string (layS n)) (W.alloc (.cells #[.int .u8 a, .int .u8 b, .int .u8 c, .int .u8 d] 5)) := fun W => by
    rw [e4]
    refine run_convert_bytes_arg (P := Tryd.prog) _ 45 5 Tryd.underlying45 Tryd.underlying5 W.heap.size 0 4 4 [(a : Int), b, c, d] rfl (fun i hi => ?_) 9 Tryd.underlying9
    have B := Blk.new W #[.int .u8 a, .int .u8 b, .int .u8 c, .int .u8 d] 5
    rw [Nat.zero_add, B.cell i]
    rcases (show i = 0 ∨ i = 1 ∨ i = 2 ∨ i = 3 by omega) with rfl | rfl | rfl | rfl <;> rfl
  clear e4 ha hb hc hd hd2
  go_enter Tryd.func19, Tryd.ntmps19
  go_wp2
  go_ret
  exact ⟨by first | rfl | simp, by first | exact by repeat (first | with_reducible exact Below.refl _ _ | with_reducible refine Below.drew ?_ | with_reducible refine Below.alloc ?_ (by first | omega | (simp <;> omega)) _ | with_reducible refine Below.setCell ?_ (by first | omega | (simp <;> omega)) _) | (simp only [*]; exact by repeat (first | with_reducible exact Below.refl _ _ | with_reducible refine Below.drew ?_ | with_reducible refine Below.alloc ?_ (by first | omega | (simp <;> omega)) _ | with_reducible refine Below.setCell ?_ (by first | omega | (simp <;> omega)) _))⟩

end Go.Proofs.YtahdgdoicpgcmaaDoor