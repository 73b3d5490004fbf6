/-
  Texts RHex of the proof.
-/
import Derived.Test.YtipjmmhlfmahbaaGreatDoorP24
import Derived.Test.YtipjmmhlfmahbaaGreatDoorP23

namespace Go.Proofs.YtipjmmhlfmahbaaGreatDoor
open Go.ChangeShapes Go.WideShapes Go.ChangeAt Go.RowKit
set_option linter.unusedVariables false
set_option linter.unusedSimpArgs false

/-- The row of the low digits. -/
def hexV (u j : Nat) : List Value := (lowH u j).map fun x : Int => Value.int .u8 x

theorem hexV_succ (u j : Nat) : Value.int .u8 (hexI ((u / 16 ^ j % 16 : Nat) : Int)) :: hexV u j = hexV u (j + 1) := rfl

theorem own_hex {W : World} {base k u : Nat} {sv : Value} (h : W.ownsRow base 5 1 sv k (hexV u k)) (h0 : 0 < k) : (convert 63 9 sv).run Tryz.prog W = .ok (.string (strOfNums (lowH u k))) W := by
  have hl := lowH_length u k
  obtain ⟨g, cap, rfl⟩ : ∃ g cap, sv = .slice (some ⟨g, 0, none⟩) k cap := by
    rcases h.2 with ⟨_, q⟩ | ⟨g, cap, cur, q, _⟩
    · omega
    · exact ⟨g, cap, q⟩
  refine run_convert_bytes_arg (P := Tryz.prog) W 63 5 Tryz.underlying63 Tryz.underlying5 g 0 k cap (lowH u k) hl (fun i hi => ?_) 9 Tryz.underlying9
  rw [Nat.zero_add, World.ownsRow.cellAt h i (by omega)]
  have hl2 : i < (lowH u k).length := by omega
  unfold hexV
  simp [hl2]

theorem own_fresh (W : World) (c : Int) (base : Nat) (hb : base ≤ W.heap.size) : (W.alloc (.cells #[.int .u8 c] 5)).ownsRow base 5 1 (.slice (some ⟨W.heap.size, 0, none⟩) 1 1) 1 [.int .u8 c] :=
  ⟨rfl, Or.inr ⟨W.heap.size, 1, #[.int .u8 c], rfl, hb, heap_alloc_new W _, Nat.le_refl _, by unfold maxLen; omega, rfl, rfl⟩⟩

set_option maxRecDepth 100000 in
set_option maxHeartbeats 3200000 in
theorem rhex_c {u : Nat} (hu : u < 65536) (w : World) :
    Calls Tryz.prog 48 #[.int .i64 u] w fun e w' => e = .returned (.string (hexT u)) ∧ Below w.heap.size w w' := by
  obtain ⟨i0, hi, hz0, hz1, hz2⟩ := info_parts infoU8
  have O0 : Hid ((w.alloc (.cells #[] 5)).ownsRow w.heap.size 5 1 (.slice (some ⟨w.heap.size, 0, none⟩) 0 0) 0 (hexV u 0)) := World.ownsRow_made _ _ _ (Nat.le_refl _) (Nat.zero_le _) rfl
  have B00 : Below w.heap.size w (w.alloc (.cells #[] 5)) := by repeat (first | with_reducible exact Below.refl _ _ | with_reducible refine Below.drew ?_ | with_reducible refine Below.alloc ?_ (by first | omega | (simp <;> omega)) _ | with_reducible refine Below.setCell ?_ (by first | omega | (simp <;> omega)) _)
  have B0 : Hid (Below w.heap.size w (w.alloc (.cells #[] 5))) := B00
  go_enter Tryz.func48, Tryz.ntmps48
  go_wp2_with fail
  go_loopw [0, 3, 4] (fun nv bv iv wr => ∃ (j g cap : Nat) (q : Int), j ≤ 4 ∧ iv = .int .i64 j ∧ nv = .int .i64 q ∧ bv = .slice (some ⟨g, 0, none⟩) j cap ∧ 0 ≤ q ∧ q < 65536 ∧ Hid (q = ((u / 16 ^ j : Nat) : Int)) ∧ Hid (1 < j → 16 ^ (j - 1) ≤ u) ∧ Hid (wr.ownsRow w.heap.size 5 1 bv j (hexV u j)) ∧ Hid (Below w.heap.size w wr)) (fun _ _ iv _ => 5 - (intOf iv).toNat)
  case atStart => exact ⟨0, w.heap.size, 0, u, by omega, rfl, rfl, rfl, by omega, by omega, by show (u : Int) = ((u / 16 ^ 0 : Nat) : Int); simp, fun h => absurd h (by omega), O0, B0⟩
  case round =>
    clear O0 B0
    obtain ⟨j, g, cap, q, hj, rfl, rfl, rfl, q0, q1, hq, hge, O, B⟩ := hrel
    by_cases c : j < 4 ∧ (j = 0 ∨ 0 < q)
    · have c1 : (j : Int) < 4 := by omega
      have step : Hid (1 < j + 1 → 16 ^ (j + 1 - 1) ≤ u) := fun h => by
        rcases c.2 with e | e
        · omega
        · rw [hq.out] at e
          have h1 : 0 < u / 16 ^ j := by omega
          have p : 0 < 16 ^ j := Nat.pow_pos (by decide)
          have := (Nat.div_pos_iff.1 h1).2
          simpa using this
      have QD : Hid (((u / 16 ^ (j + 1) : Nat) : Int) = q / 16) := by
        show _ = _
        rw [hq.out, Nat.pow_succ, ← Nat.div_div_eq_div_mul]
        omega
      have HD : Hid (hexI ((u / 16 ^ j % 16 : Nat) : Int) = hexI (q % 16)) := by
        show _ = _
        congr 1
        rw [hq.out]
        omega
      have D1 : 0 ≤ q % 16 := by omega
      have D2 : q % 16 < 16 := by omega
      have gd : Hid (((j : Int) == 0) = true ∨ (((j : Int) == 0) = false ∧ 0 < q)) := by
        by_cases e0 : j = 0
        · exact Or.inl (by simp [e0])
        · exact Or.inr ⟨by simp [e0], by rcases c.2 with e | e <;> omega⟩
      clear hq hge c
      rcases gd.out with gA | ⟨gA, gB⟩
      all_goals
        go_upto_if 26 with fail
        go_cut [6] (fun t wc => t = .int .u8 (hexI (q % 16)) ∧ wc = wr)
        case first =>
          have e8 : ∀ x : Int, 0 ≤ x → x < 256 → IntKind.u8.wrap x = x := fun x h0 h1 => by simp [IntKind.wrap, IntKind.bits, IntKind.signed]; omega
          have w1 := e8 (48 + q % 16) (by omega) (by omega)
          have w2 := e8 (87 + q % 16) (by omega) (by omega)
          clear e8
          by_cases d : q % 16 > 9
          · have hx : Hid (hexI (q % 16) = 87 + q % 16) := by show _ = _; unfold hexI; rw [if_neg (by omega)]
            go_wp2
            go_meet
            case rel => exact ⟨by rw [hx.out], rfl⟩
          · have hx : Hid (hexI (q % 16) = 48 + q % 16) := by show _ = _; unfold hexI; rw [if_pos (by omega)]
            go_wp2
            go_meet
            case rel => exact ⟨by rw [hx.out], rfl⟩
        case rest =>
          obtain ⟨rfl, rfl⟩ := hcut
          obtain ⟨X, hX⟩ : ∃ X : Int, hexI (q % 16) = X := ⟨_, rfl⟩
          rw [hX] at HD ⊢
          clear hX
          have hs := B.out.size
          have OF := own_fresh wc X w.heap.size hs
          have hnews : ∀ (jj : Nat) (y : Value), (hexV u j)[jj]? = some y → (wc.alloc (.cells #[.int .u8 X] 5)).cell? ((⟨g, 0, none⟩ : Addr).add jj) = some y := fun jj y hy => (O.out.alloc _).cells (g := g) rfl jj y hy
          have hone : ∀ y ∈ hexV u j, y.oneCell' = true := by
            intro y hy
            obtain ⟨z, _, rfl⟩ := List.mem_map.1 hy
            rfl
          have hlen : (hexV u j).length = j * 1 := by unfold hexV; rw [List.length_map, lowH_length]; omega
          go_wp2_with (first | (at_builtin; refine wpList_append_own _ rfl _ _ 63 rfl w.heap.size 5 i0 (.int .u8 0) 1 1 Tryz.underlying63 hi hz0 hz1 hz2 rfl (by decide) _ _ _ rfl OF ⟨g, 0, none⟩ j cap (hexV u j) rfl hlen hnews hone ?c3 ?c4 ?c5 ?_))
          case c3 => unfold maxLen; omega
          case c4 => omega
          case c5 => simp; omega
          intro v' w5 hown hgrow _
          have B5 : Below w.heap.size w w5 := Below.grown (B.out.alloc hs _) hgrow (by simp; omega) (fun k hk => by simp [Value.ownBlock] at hk; omega)
          rw [Nat.add_comm 1 j] at hown
          obtain ⟨g', cap', hv'⟩ : ∃ g' cap', v' = .slice (some ⟨g', 0, none⟩) (j + 1) cap' := by
            rcases hown.2 with ⟨_, h2⟩ | ⟨g', cap', cur, h1, _⟩
            · omega
            · exact ⟨g', cap', h1⟩
          subst hv'
          rw [← HD.out, hexV_succ] at hown
          have O5 := hide hown
          have B6 := hide B5
          clear O B hown hgrow OF hnews hone hlen B5
          go_wp2
          go_roundw
          case rel => exact ⟨j + 1, g', cap', q / 16, by omega, by go_num, by go_num, rfl, by omega, by omega, QD.out.symm, step, O5, B6⟩
          case measure => simp [intOf]; omega
    · have hex : Hid (IsHex u j) := by
        have h1 : 1 ≤ j := by
          apply Classical.byContradiction
          intro d
          exact c ⟨by omega, Or.inl (by omega)⟩
        refine ⟨h1, ?_, hge.out⟩
        by_cases j4 : j = 4
        · subst j4; exact hu
        · have q00 : q = 0 := by
            apply Classical.byContradiction
            intro d
            exact c ⟨by omega, Or.inr (by omega)⟩
          rw [hq.out] at q00
          have h2 : u / 16 ^ j = 0 := by omega
          have p : 0 < 16 ^ j := Nat.pow_pos (by decide)
          exact (Nat.div_eq_zero_iff_lt p).1 h2
      have cv := own_hex O.out hex.out.pos
      have eT : hexT u = strOfNums (lowH u j) := by unfold hexT; rw [← hex.out.len hj]
      rw [← eT] at cv
      have cs : Hid (¬ (j : Int) < 4 ∨ ((j : Int) < 4 ∧ ((j : Int) == 0) = false ∧ ¬ 0 < q)) := by
        have := hex.out.pos
        by_cases j4 : j < 4
        · exact Or.inr ⟨by omega, by simp; omega, fun d => c ⟨j4, Or.inr d⟩⟩
        · exact Or.inl (by omega)
      have BH := B.out
      clear hex eT hq hge O B c
      rcases cs.out with g1 | ⟨g1, g2, g3⟩
      all_goals
        clear cs
        go_wp2
        go_ret
        exact ⟨rfl, BH⟩
end Go.Proofs.YtipjmmhlfmahbaaGreatDoor
