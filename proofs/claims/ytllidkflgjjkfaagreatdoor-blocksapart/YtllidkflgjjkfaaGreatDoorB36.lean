/-
  Texts CSpans, Ref4 of the proof.
-/
import Derived.Deep.DeepCutAuto
import Derived.Test.YtllidkflgjjkfaaGreatDoorB33
import Derived.Test.YtllidkflgjjkfaaGreatDoorB34
import Derived.Test.YtllidkflgjjkfaaGreatDoorB35
import Derived.Test.YtllidkflgjjkfaaGreatDoorB30

namespace Go.Proofs.YtllidkflgjjkfaaGreatDoor
open Go.ChangeShapes Go.WideShapes Go.ChangeAt Go.RowKit
set_option linter.unusedVariables false
set_option linter.unusedSimpArgs false

/-- The ends of what both share. -/
theorem span_ends {v : Bool} {n m : Nat} {b c k : Int} (hc : cutB v n b k = true) (hq : okP v m c = true) (ho : overB v n b v m c = true) (hn : n < 340282366920938463463374607431768211456) (hm : m < 340282366920938463463374607431768211456) :
    (withinB v n b v m c = true ∧ (∀ x, n ≤ x → x ≤ lastN v n b → ((n ≤ x ∧ x ≤ lastN v n b) ↔ (m ≤ x ∧ x ≤ lastN v m c)))) ∨ (withinB v n b v m c = false ∧ n ≤ m ∧ lastN v m c ≤ lastN v n b) := by
  have kp := (cutB_parts hc).1
  have kl {x y : Nat} {d e : Int} (hx : okP v x d = true) (hy : okP v y e = true) (xl : x < 340282366920938463463374607431768211456) (yl : y < 340282366920938463463374607431768211456) (hw : withinB v x d v y e = true) : y ≤ x ∧ lastN v x d ≤ lastN v y e := by
    have p := pow_pos2 (behindP v d)
    have h1 := (has_ends hy yl).1 (within_parts hw).2.2
    have h2 : hasB v x d v (lastN v x d) = true := (has_ends hx xl).2 ⟨by unfold lastN; omega, Nat.le_refl _⟩
    have h3 := (has_ends hy yl).1 (within_has hw h2)
    exact ⟨h1.1, h3.2⟩
  cases hw : withinB v n b v m c
  · have h2 : withinB v m c v n b = true := by
      unfold overB at ho
      rw [hw, Bool.false_or] at ho
      exact ho
    exact Or.inr ⟨rfl, kl hq kp hm hn h2⟩
  · obtain ⟨h1, h2⟩ := kl kp hq hn hm hw
    refine Or.inl ⟨rfl, fun x x1 x2 => ?_⟩
    constructor
    · intro _
      omega
    · intro _
      exact ⟨x1, x2⟩

theorem num_mono {v : Bool} {n s t : Nat} {k : Int} (h : s ≤ t) : numN v n k s ≤ numN v n k t := Nat.div_le_div_right (by omega)

end Go.Proofs.YtllidkflgjjkfaaGreatDoor

namespace Go.Proofs.YtllidkflgjjkfaaGreatDoor
open Go.ChangeShapes Go.WideShapes Go.ChangeAt Go.RowKit
set_option linter.unusedVariables false
set_option linter.unusedSimpArgs false

end Go.Proofs.YtllidkflgjjkfaaGreatDoor

namespace Go.Proofs.YtllidkflgjjkfaaGreatDoor
open Go.ChangeShapes Go.WideShapes Go.ChangeAt Go.RowKit
set_option linter.unusedVariables false
set_option linter.unusedSimpArgs false

end Go.Proofs.YtllidkflgjjkfaaGreatDoor

namespace Go.Proofs.YtllidkflgjjkfaaGreatDoor
open Go.ChangeShapes Go.WideShapes Go.ChangeAt Go.RowKit
set_option linter.unusedVariables false
set_option linter.unusedSimpArgs false

theorem pow_128 {j : Nat} (h : j < 128) : 2 ^ j + 2 ^ j ≤ 340282366920938463463374607431768211456 := by
  have := Nat.pow_le_pow_right (n := 2) (by decide) (show j + 1 ≤ 128 by omega)
  rw [show (2 : Nat) ^ 128 = 340282366920938463463374607431768211456 by decide, Nat.pow_succ] at this
  omega

/-- What Count keeps. -/
def CT (w : World) (h l : Int) (wr : World) : Prop :=
  Blk wr w.heap.size #[.int .u64 0, .int .u64 0] 24 ∧ Blk wr (w.heap.size + 1) #[.int .u64 h, .int .u64 l] 24 ∧ Below w.heap.size w wr

theorem CT.below {w W w1 : World} {h l : Int} (s : CT w h l W) (hb : Below W.heap.size W w1) : CT w h l w1 := ⟨s.1.below hb, s.2.1.below hb, s.2.2.trans (hb.mono s.2.2.size)⟩

theorem CT.put {w W : World} {h l : Int} (s : CT w h l W) (h' l' : Int) : CT w h' l' ((W.setCell ⟨w.heap.size + 1, 0, none⟩ (.int .u64 h')).setCell ⟨w.heap.size + 1, 1, none⟩ (.int .u64 l')) :=
  ⟨s.1.far2 (by omega) _ _, s.2.1.put2 _ _, (s.2.2.setCell (by show _ ≤ w.heap.size + 1; omega) _).setCell (by show _ ≤ w.heap.size + 1; omega) _⟩

/-- Two to so many bits, or none. -/
def CountIs (K : Nat) (rh rl : Int) (t : Bool) : Prop := (K < 128 ∧ t = true ∧ IsNum rh rl (2 ^ K)) ∨ (K = 128 ∧ t = false ∧ rh = 0 ∧ rl = 0)

theorem countIs_ex {K : Nat} (h : K ≤ 128) : ∃ rh rl t, CountIs K rh rl t := by
  by_cases c : K < 128
  · have p := pow_128 c
    have q := pow_pos2 K
    obtain ⟨rh, rl, hr⟩ := IsNum.ex (n := 2 ^ K) (by omega)
    exact ⟨rh, rl, true, Or.inl ⟨c, rfl, hr⟩⟩
  · exact ⟨0, 0, false, Or.inr ⟨by omega, rfl, rfl, rfl⟩⟩

theorem CountIs.mod {K : Nat} {rh rl : Int} {t : Bool} (h : CountIs K rh rl t) : IsNum rh rl (1 * 2 ^ K % 340282366920938463463374607431768211456) := by
  rcases h with ⟨h1, _, h2⟩ | ⟨rfl, _, rfl, rfl⟩
  · have p := pow_128 h1
    have q := pow_pos2 K
    exact h2.cast (by rw [Nat.one_mul, Nat.mod_eq_of_lt (by omega)])
  · exact ⟨by omega, by omega, by omega, by omega, by decide +kernel⟩

theorem CountIs.nought {K : Nat} {rh rl : Int} {t : Bool} (h : CountIs K rh rl t) : (t = true ∧ (¬ rh = 0 ∨ (rh = 0 ∧ ¬ rl = 0))) ∨ (t = false ∧ rh = 0 ∧ rl = 0) := by
  rcases h with ⟨h1, h2, h3⟩ | ⟨_, h2, h3, h4⟩
  · refine Or.inl ⟨h2, ?_⟩
    by_cases c : rh = 0
    · refine Or.inr ⟨c, fun d => ?_⟩
      have := h3.zero_iff.2 ⟨c, d⟩
      have q := pow_pos2 K
      omega
    · exact Or.inl c
  · exact Or.inr ⟨h2, h3, h4⟩

theorem blks_start (w : World) (v : Bool) (h l b : Int) : Kn w [(w.heap.size + 1, [.int .u64 0, .int .u64 0], 24), (w.heap.size, [.bool v, .int .u64 h, .int .u64 l, .int .i64 b], 28)] ((w.alloc (.cells #[.bool v, .int .u64 h, .int .u64 l, .int .i64 b] 28)).alloc (.cells #[.int .u64 0, .int .u64 0] 24)) :=
  ((Kn.nil w).push rfl).push (by simp)

set_option maxRecDepth 100000 in
set_option maxHeartbeats 800000 in
theorem blks_no {v : Bool} {h l b k : Int} {n : Nat} (hp : IsNum h l n) (hc : cutB v n b k = false) (w : World) :
    Calls Tryz.prog 79 #[pv v h l b, .int .i64 k] w fun e w' => e = .returned (.tuple #[nv 0 0, .bool false, .int .i64 1]) ∧ Below w.heap.size w w' := by
  have C1 : Hid (∀ w', Calls Tryz.prog 120 #[pv v h l b, .int .i64 k] w' fun e w1 => e = .returned (.bool false) ∧ Below w'.heap.size w' w1) := fun w' => hc ▸ cuts_c hp w'
  have K := blks_start w v h l b
  clear hp hc
  go_enter Tryz.func79, Tryz.ntmps79
  go_wp2_with fail
  refine (C1.out _).mono ?_
  rintro e w1 ⟨rfl, hb⟩
  replace K := K.below hb
  obtain ⟨r0, r1, r2, r3, r4⟩ := K.2.1.1.two
  have B := K.bel
  clear hb C1 K
  go_wp2
  refine bodyPost_ret (v := .tuple #[nv 0 0, .bool false, .int .i64 1]) (by simp [results, Tryz.results79, go_sem, World.cell?_setCell_same', World.cell?_setCell_other, *]) rfl ⟨rfl, by repeat (first | with_reducible exact Below.refl _ _ | with_reducible refine Below.drew ?_ | with_reducible refine Below.alloc ?_ (by first | omega | (simp <;> omega)) _ | with_reducible refine Below.setCell ?_ (by first | omega | (simp <;> omega)) _ | with_reducible refine Below.trans ?_ (Below.mono B (by first | omega | (simp <;> omega))))⟩

set_option maxRecDepth 100000 in
set_option maxHeartbeats 1600000 in
theorem blks_ok_t {v : Bool} {h l b k rh rl : Int} {n : Nat} (hp : IsNum h l n) (hc : cutB v n b k = true) (hr : IsNum rh rl (1 * 2 ^ (k - b).toNat % 340282366920938463463374607431768211456)) (nz : ¬ rh = 0 ∨ (rh = 0 ∧ ¬ rl = 0)) (w : World) :
    Calls Tryz.prog 79 #[pv v h l b, .int .i64 k] w fun e w' => e = .returned (.tuple #[nv rh rl, .bool true, .int .i64 0]) ∧ Below w.heap.size w w' := by
  have C1 : Hid (∀ w', Calls Tryz.prog 120 #[pv v h l b, .int .i64 k] w' fun e w1 => e = .returned (.bool true) ∧ Below w'.heap.size w' w1) := fun w' => hc ▸ cuts_c hp w'
  obtain ⟨_, b0, b1, b2, _⟩ := cutB_parts hc
  have hW2 := width_le v
  have one : IsNum 0 1 1 := ⟨by omega, by omega, by omega, by omega, rfl⟩
  have O1 : Hid (∀ w', Calls Tryz.prog 80 #[.int .u64 1] w' fun e w1 => e = .returned (nv 0 1) ∧ Below w'.heap.size w' w1) := fun w' => of_w 1 w'
  have S1 : Hid (∀ w', Calls Tryz.prog 121 #[nv 0 1, .int .i64 (k - b)] w' fun e w1 => e = .returned (nv rh rl) ∧ Below w'.heap.size w' w1) := fun w' => shl_is one (by omega) hr w'
  have hw1 : IntKind.i64.wrap (k - b) = k - b := by simp [IntKind.wrap, IntKind.bits, IntKind.signed]; omega
  have NZ : Hid (¬ rh = 0 ∨ (rh = 0 ∧ ¬ rl = 0)) := nz
  have K := blks_start w v h l b
  clear hp hc hr b0 b1 b2 hW2 one nz
  go_enter Tryz.func79, Tryz.ntmps79
  go_wp2_with fail
  refine (C1.out _).mono ?_
  rintro e w0 ⟨rfl, hb⟩
  have R0 := K.below hb
  have LT := R0.lts
  simp only [Lts] at LT
  have hs0 := R0.bel.size
  clear hb C1 K
  go_upto_region 3 with fail
  go_cut [7] (fun p wc => ∃ X : Nat, p = .pointer (some ⟨X, 0, none⟩) ∧ w.heap.size + 1 < X ∧ Blk wc X #[.int .u64 rh, .int .u64 rl] 24 ∧ Kn w [(w.heap.size + 1, [.int .u64 0, .int .u64 0], 24), (w.heap.size, [.bool v, .int .u64 h, .int .u64 l, .int .i64 b], 28)] wc)
  case first =>
    refine wp_region_held_drew (S := (Kn w [(w.heap.size + 1, [.int .u64 0, .int .u64 0], 24), (w.heap.size, [.bool v, .int .u64 h, .int .u64 l, .int .i64 b], 28)])) (by kernel_rfl) ?hS5038 (fun hHeld => ?rest5038)
    case hS5038 => (first | with_reducible exact R0.drew | with_reducible exact (R0.alloc _).drew | with_reducible exact hHeld.below hb4 | with_reducible exact hHeld.below hb5 | with_reducible exact hHeld.alloc _ | with_reducible exact K5.alloc _ | with_reducible exact hHeld.far2 (by simp only [Off]; repeat' (first | exact trivial | refine And.intro ?_ ?_ | omega)) (by omega) _ _ | with_reducible exact K5.far2 (by simp only [Off]; repeat' (first | exact trivial | refine And.intro ?_ ?_ | omega)) (by omega) _ _ | with_reducible exact (K5.alloc _).far2 (by simp only [Off]; repeat' (first | exact trivial | refine And.intro ?_ ?_ | omega)) (by omega) _ _)
    refine wpAnyH_take (i := 1) (oi := _) (v := ?v5039) (List.getElem?_toArray.trans rfl) (by kernel_rfl) (by kernel_rfl) (by kernel_rfl) (fun _ _ _ h => h) (Or.inl ⟨by rfl, ?hy5039⟩) (by assumption) ?rest5039
    case hy5039 => (intro wq hSw; (try simp only [Two, Kn, Facts, CellsAt] at hSw); go_simp; try with_reducible rfl)
    try simp only [Act.put, List.setIfInBounds_toArray, List.set_cons_zero, List.set_cons_succ]
    refine wpAnyH_take (i := 2) (oi := _) (v := ?v5040) (List.getElem?_toArray.trans rfl) (by kernel_rfl) (by kernel_rfl) (by kernel_rfl) (fun _ _ _ h => h) (Or.inl ⟨by rfl, ?hy5040⟩) (by assumption) ?rest5040
    case hy5040 => (intro wq hSw; (try simp only [Two, Kn, Facts, CellsAt] at hSw); go_simp; try with_reducible rfl)
    try simp only [Act.put, List.setIfInBounds_toArray, List.set_cons_zero, List.set_cons_succ]
    refine wpAnyH_take (i := 3) (oi := _) (v := ?v5041) (List.getElem?_toArray.trans rfl) (by kernel_rfl) (by kernel_rfl) (by kernel_rfl) (fun _ _ _ h => h) (Or.inl ⟨by rfl, ?hy5041⟩) (by assumption) ?rest5041
    case hy5041 => (intro wq hSw; (try simp only [Two, Kn, Facts, CellsAt] at hSw); go_simp; try with_reducible rfl)
    try simp only [Act.put, List.setIfInBounds_toArray, List.set_cons_zero, List.set_cons_succ]
    refine wpAnyH_take (i := 4) (oi := _) (v := ?v5042) (List.getElem?_toArray.trans rfl) (by kernel_rfl) (by kernel_rfl) (by kernel_rfl) (fun _ _ _ h => h) (Or.inl ⟨by rfl, ?hy5042⟩) (by assumption) ?rest5042
    case hy5042 => (intro wq hSw; (try simp only [Two, Kn, Facts, CellsAt] at hSw); go_simp; try with_reducible rfl)
    try simp only [Act.put, List.setIfInBounds_toArray, List.set_cons_zero, List.set_cons_succ]
    refine wpAnyH_ready (rs := [0, 6]) (by kernel_rfl) (by simp) ?rdy5043
    refine (AllReadyH.cons (List.getElem?_toArray.trans rfl) (fun K hK => ?stp5043_0) (AllReadyH.cons (List.getElem?_toArray.trans rfl) (fun K hK => ?stp5043_6) AllReadyH.nil))
    case stp5043_0 =>
      go_simp
      go_wp2_with fail
      (refine (O1.out _).mono ?_; rintro e w4 ⟨rfl, hb4⟩; have s4 : w0.heap.size ≤ w4.heap.size := (by have := hb4.size; first | exact this | (simp at this; omega)); first | (have U4 : Blk w4 w0.heap.size #[.int .u64 0, .int .u64 0] 24 := Blk.via hb4 (Blk.new w0 #[.int .u64 0, .int .u64 0] 24) rfl; obtain ⟨u0, u1, u2, u3, u4⟩ := U4.two) | skip)
      go_wp2_with fail
      refine hK.out _ _ ?hSn5044 (fun hHeld2 => ?rest5044)
      case hSn5044 => (first | with_reducible exact R0.drew | with_reducible exact (R0.alloc _).drew | with_reducible exact hHeld.below hb4 | with_reducible exact hHeld.below hb5 | with_reducible exact hHeld.alloc _ | with_reducible exact K5.alloc _ | with_reducible exact hHeld.far2 (by simp only [Off]; repeat' (first | exact trivial | refine And.intro ?_ ?_ | omega)) (by omega) _ _ | with_reducible exact K5.far2 (by simp only [Off]; repeat' (first | exact trivial | refine And.intro ?_ ?_ | omega)) (by omega) _ _ | with_reducible exact (K5.alloc _).far2 (by simp only [Off]; repeat' (first | exact trivial | refine And.intro ?_ ?_ | omega)) (by omega) _ _)
      clear hK K hHeld
      have hHeld := hHeld2
      clear hHeld2
      try simp only [Act.put, List.setIfInBounds_toArray, List.set_cons_zero, List.set_cons_succ]
      refine wpAnyH_ready (rs := [5, 6]) (by kernel_rfl) (by simp) ?rdy5045
      refine (AllReadyH.cons (List.getElem?_toArray.trans rfl) (fun K hK => ?stp5045_5) (AllReadyH.cons (List.getElem?_toArray.trans rfl) (fun K hK => ?stp5045_6) AllReadyH.nil))
      case stp5045_5 =>
        go_simp
        go_wp2_with fail
        (refine (S1.out _).mono ?_; rintro e w5 ⟨rfl, hb5⟩; have K5 := hHeld.below hb5; have s5 : w4.heap.size ≤ w5.heap.size := (by have := hb5.size; first | exact this | (simp at this; omega)); first | (have U5 := U4.below hb5; obtain ⟨a0, a1, a2, a3, a4⟩ := U5.two) | (have U5 : Blk w5 w4.heap.size #[.int .u64 0, .int .u64 0] 24 := Blk.via hb5 (Blk.new w4 #[.int .u64 0, .int .u64 0] 24) rfl; obtain ⟨p0, p1, p2, p3, p4⟩ := U5.two) | skip)
        go_wp2_with fail
        refine hK.out _ _ ?hSn5046 (fun hHeld2 => ?rest5046)
        case hSn5046 => (first | with_reducible exact R0.drew | with_reducible exact (R0.alloc _).drew | with_reducible exact hHeld.below hb4 | with_reducible exact hHeld.below hb5 | with_reducible exact hHeld.alloc _ | with_reducible exact K5.alloc _ | with_reducible exact hHeld.far2 (by simp only [Off]; repeat' (first | exact trivial | refine And.intro ?_ ?_ | omega)) (by omega) _ _ | with_reducible exact K5.far2 (by simp only [Off]; repeat' (first | exact trivial | refine And.intro ?_ ?_ | omega)) (by omega) _ _ | with_reducible exact (K5.alloc _).far2 (by simp only [Off]; repeat' (first | exact trivial | refine And.intro ?_ ?_ | omega)) (by omega) _ _)
        clear hK K hHeld
        have hHeld := hHeld2
        clear hHeld2
        try simp only [Act.put, List.setIfInBounds_toArray, List.set_cons_zero, List.set_cons_succ]
        refine wpAnyH_ready (rs := [6]) (by kernel_rfl) (by simp) ?rdy5047
        refine (AllReadyH.cons (List.getElem?_toArray.trans rfl) (fun K hK => ?stp5047_6) AllReadyH.nil)
        case stp5047_6 =>
          go_simp
          go_wp2_with fail
          refine hK.out _ _ ?hSn5048 (fun hHeld2 => ?rest5048)
          case hSn5048 => (first | with_reducible exact R0.drew | with_reducible exact (R0.alloc _).drew | with_reducible exact hHeld.below hb4 | with_reducible exact hHeld.below hb5 | with_reducible exact hHeld.alloc _ | with_reducible exact K5.alloc _ | with_reducible exact hHeld.far2 (by simp only [Off]; repeat' (first | exact trivial | refine And.intro ?_ ?_ | omega)) (by omega) _ _ | with_reducible exact K5.far2 (by simp only [Off]; repeat' (first | exact trivial | refine And.intro ?_ ?_ | omega)) (by omega) _ _ | with_reducible exact (K5.alloc _).far2 (by simp only [Off]; repeat' (first | exact trivial | refine And.intro ?_ ?_ | omega)) (by omega) _ _)
          clear hK K hHeld
          have hHeld := hHeld2
          clear hHeld2
          try simp only [Act.put, List.setIfInBounds_toArray, List.set_cons_zero, List.set_cons_succ]
          refine wpAnyH_ready (rs := [7]) (by kernel_rfl) (by simp) ?rdy5049
          refine (AllReadyH.cons (List.getElem?_toArray.trans rfl) (fun K hK => ?stp5049_7) AllReadyH.nil)
          case stp5049_7 =>
            go_simp
            go_wp2_with fail
            refine hK.out _ _ ?hSn5050 (fun hHeld2 => ?rest5050)
            case hSn5050 => (first | with_reducible exact R0.drew | with_reducible exact (R0.alloc _).drew | with_reducible exact hHeld.below hb4 | with_reducible exact hHeld.below hb5 | with_reducible exact hHeld.alloc _ | with_reducible exact K5.alloc _ | with_reducible exact hHeld.far2 (by simp only [Off]; repeat' (first | exact trivial | refine And.intro ?_ ?_ | omega)) (by omega) _ _ | with_reducible exact K5.far2 (by simp only [Off]; repeat' (first | exact trivial | refine And.intro ?_ ?_ | omega)) (by omega) _ _ | with_reducible exact (K5.alloc _).far2 (by simp only [Off]; repeat' (first | exact trivial | refine And.intro ?_ ?_ | omega)) (by omega) _ _)
            clear hK K hHeld
            have hHeld := hHeld2
            clear hHeld2
            try simp only [Act.put, List.setIfInBounds_toArray, List.set_cons_zero, List.set_cons_succ]
            refine wpAnyH_done (by kernel_rfl) ?_ _
            go_wp2_with fail
            go_meet
            case rel => exact ⟨_, rfl, (by omega), (by repeat (first | with_reducible exact Blk.new _ _ _ | with_reducible exact U5 | with_reducible refine Blk.put2 (x := .int .u64 0) (y := .int .u64 0) ?_ _ _)), hHeld⟩
      case stp5045_6 =>
        go_simp
        go_wp2_with fail
        refine hK.out _ _ ?hSn5051 (fun hHeld2 => ?rest5051)
        case hSn5051 => (first | with_reducible exact R0.drew | with_reducible exact (R0.alloc _).drew | with_reducible exact hHeld.below hb4 | with_reducible exact hHeld.below hb5 | with_reducible exact hHeld.alloc _ | with_reducible exact K5.alloc _ | with_reducible exact hHeld.far2 (by simp only [Off]; repeat' (first | exact trivial | refine And.intro ?_ ?_ | omega)) (by omega) _ _ | with_reducible exact K5.far2 (by simp only [Off]; repeat' (first | exact trivial | refine And.intro ?_ ?_ | omega)) (by omega) _ _ | with_reducible exact (K5.alloc _).far2 (by simp only [Off]; repeat' (first | exact trivial | refine And.intro ?_ ?_ | omega)) (by omega) _ _)
        clear hK K hHeld
        have hHeld := hHeld2
        clear hHeld2
        try simp only [Act.put, List.setIfInBounds_toArray, List.set_cons_zero, List.set_cons_succ]
        refine wpAnyH_ready (rs := [5]) (by kernel_rfl) (by simp) ?rdy5052
        refine (AllReadyH.cons (List.getElem?_toArray.trans rfl) (fun K hK => ?stp5052_5) AllReadyH.nil)
        case stp5052_5 =>
          go_simp
          go_wp2_with fail
          (refine (S1.out _).mono ?_; rintro e w5 ⟨rfl, hb5⟩; have K5 := hHeld.below hb5; have s5 : w4.heap.size ≤ w5.heap.size := (by have := hb5.size; first | exact this | (simp at this; omega)); first | (have U5 := U4.below hb5; obtain ⟨a0, a1, a2, a3, a4⟩ := U5.two) | (have U5 : Blk w5 w4.heap.size #[.int .u64 0, .int .u64 0] 24 := Blk.via hb5 (Blk.new w4 #[.int .u64 0, .int .u64 0] 24) rfl; obtain ⟨p0, p1, p2, p3, p4⟩ := U5.two) | skip)
          go_wp2_with fail
          refine hK.out _ _ ?hSn5053 (fun hHeld2 => ?rest5053)
          case hSn5053 => (first | with_reducible exact R0.drew | with_reducible exact (R0.alloc _).drew | with_reducible exact hHeld.below hb4 | with_reducible exact hHeld.below hb5 | with_reducible exact hHeld.alloc _ | with_reducible exact K5.alloc _ | with_reducible exact hHeld.far2 (by simp only [Off]; repeat' (first | exact trivial | refine And.intro ?_ ?_ | omega)) (by omega) _ _ | with_reducible exact K5.far2 (by simp only [Off]; repeat' (first | exact trivial | refine And.intro ?_ ?_ | omega)) (by omega) _ _ | with_reducible exact (K5.alloc _).far2 (by simp only [Off]; repeat' (first | exact trivial | refine And.intro ?_ ?_ | omega)) (by omega) _ _)
          clear hK K hHeld
          have hHeld := hHeld2
          clear hHeld2
          try simp only [Act.put, List.setIfInBounds_toArray, List.set_cons_zero, List.set_cons_succ]
          refine wpAnyH_ready (rs := [7]) (by kernel_rfl) (by simp) ?rdy5054
          refine (AllReadyH.cons (List.getElem?_toArray.trans rfl) (fun K hK => ?stp5054_7) AllReadyH.nil)
          case stp5054_7 =>
            go_simp
            go_wp2_with fail
            refine hK.out _ _ ?hSn5055 (fun hHeld2 => ?rest5055)
            case hSn5055 => (first | with_reducible exact R0.drew | with_reducible exact (R0.alloc _).drew | with_reducible exact hHeld.below hb4 | with_reducible exact hHeld.below hb5 | with_reducible exact hHeld.alloc _ | with_reducible exact K5.alloc _ | with_reducible exact hHeld.far2 (by simp only [Off]; repeat' (first | exact trivial | refine And.intro ?_ ?_ | omega)) (by omega) _ _ | with_reducible exact K5.far2 (by simp only [Off]; repeat' (first | exact trivial | refine And.intro ?_ ?_ | omega)) (by omega) _ _ | with_reducible exact (K5.alloc _).far2 (by simp only [Off]; repeat' (first | exact trivial | refine And.intro ?_ ?_ | omega)) (by omega) _ _)
            clear hK K hHeld
            have hHeld := hHeld2
            clear hHeld2
            try simp only [Act.put, List.setIfInBounds_toArray, List.set_cons_zero, List.set_cons_succ]
            refine wpAnyH_done (by kernel_rfl) ?_ _
            go_wp2_with fail
            go_meet
            case rel => exact ⟨_, rfl, (by omega), (by repeat (first | with_reducible exact Blk.new _ _ _ | with_reducible exact U5 | with_reducible refine Blk.put2 (x := .int .u64 0) (y := .int .u64 0) ?_ _ _)), hHeld⟩
    case stp5043_6 =>
      go_simp
      go_wp2_with fail
      refine hK.out _ _ ?hSn5056 (fun hHeld2 => ?rest5056)
      case hSn5056 => (first | with_reducible exact R0.drew | with_reducible exact (R0.alloc _).drew | with_reducible exact hHeld.below hb4 | with_reducible exact hHeld.below hb5 | with_reducible exact hHeld.alloc _ | with_reducible exact K5.alloc _ | with_reducible exact hHeld.far2 (by simp only [Off]; repeat' (first | exact trivial | refine And.intro ?_ ?_ | omega)) (by omega) _ _ | with_reducible exact K5.far2 (by simp only [Off]; repeat' (first | exact trivial | refine And.intro ?_ ?_ | omega)) (by omega) _ _ | with_reducible exact (K5.alloc _).far2 (by simp only [Off]; repeat' (first | exact trivial | refine And.intro ?_ ?_ | omega)) (by omega) _ _)
      clear hK K hHeld
      have hHeld := hHeld2
      clear hHeld2
      try simp only [Act.put, List.setIfInBounds_toArray, List.set_cons_zero, List.set_cons_succ]
      refine wpAnyH_ready (rs := [0]) (by kernel_rfl) (by simp) ?rdy5057
      refine (AllReadyH.cons (List.getElem?_toArray.trans rfl) (fun K hK => ?stp5057_0) AllReadyH.nil)
      case stp5057_0 =>
        go_simp
        go_wp2_with fail
        (refine (O1.out _).mono ?_; rintro e w4 ⟨rfl, hb4⟩; have s4 : w0.heap.size ≤ w4.heap.size := (by have := hb4.size; first | exact this | (simp at this; omega)); first | (have U4 : Blk w4 w0.heap.size #[.int .u64 0, .int .u64 0] 24 := Blk.via hb4 (Blk.new w0 #[.int .u64 0, .int .u64 0] 24) rfl; obtain ⟨u0, u1, u2, u3, u4⟩ := U4.two) | skip)
        go_wp2_with fail
        refine hK.out _ _ ?hSn5058 (fun hHeld2 => ?rest5058)
        case hSn5058 => (first | with_reducible exact R0.drew | with_reducible exact (R0.alloc _).drew | with_reducible exact hHeld.below hb4 | with_reducible exact hHeld.below hb5 | with_reducible exact hHeld.alloc _ | with_reducible exact K5.alloc _ | with_reducible exact hHeld.far2 (by simp only [Off]; repeat' (first | exact trivial | refine And.intro ?_ ?_ | omega)) (by omega) _ _ | with_reducible exact K5.far2 (by simp only [Off]; repeat' (first | exact trivial | refine And.intro ?_ ?_ | omega)) (by omega) _ _ | with_reducible exact (K5.alloc _).far2 (by simp only [Off]; repeat' (first | exact trivial | refine And.intro ?_ ?_ | omega)) (by omega) _ _)
        clear hK K hHeld
        have hHeld := hHeld2
        clear hHeld2
        try simp only [Act.put, List.setIfInBounds_toArray, List.set_cons_zero, List.set_cons_succ]
        refine wpAnyH_ready (rs := [5]) (by kernel_rfl) (by simp) ?rdy5059
        refine (AllReadyH.cons (List.getElem?_toArray.trans rfl) (fun K hK => ?stp5059_5) AllReadyH.nil)
        case stp5059_5 =>
          go_simp
          go_wp2_with fail
          (refine (S1.out _).mono ?_; rintro e w5 ⟨rfl, hb5⟩; have K5 := hHeld.below hb5; have s5 : w4.heap.size ≤ w5.heap.size := (by have := hb5.size; first | exact this | (simp at this; omega)); first | (have U5 := U4.below hb5; obtain ⟨a0, a1, a2, a3, a4⟩ := U5.two) | (have U5 : Blk w5 w4.heap.size #[.int .u64 0, .int .u64 0] 24 := Blk.via hb5 (Blk.new w4 #[.int .u64 0, .int .u64 0] 24) rfl; obtain ⟨p0, p1, p2, p3, p4⟩ := U5.two) | skip)
          go_wp2_with fail
          refine hK.out _ _ ?hSn5060 (fun hHeld2 => ?rest5060)
          case hSn5060 => (first | with_reducible exact R0.drew | with_reducible exact (R0.alloc _).drew | with_reducible exact hHeld.below hb4 | with_reducible exact hHeld.below hb5 | with_reducible exact hHeld.alloc _ | with_reducible exact K5.alloc _ | with_reducible exact hHeld.far2 (by simp only [Off]; repeat' (first | exact trivial | refine And.intro ?_ ?_ | omega)) (by omega) _ _ | with_reducible exact K5.far2 (by simp only [Off]; repeat' (first | exact trivial | refine And.intro ?_ ?_ | omega)) (by omega) _ _ | with_reducible exact (K5.alloc _).far2 (by simp only [Off]; repeat' (first | exact trivial | refine And.intro ?_ ?_ | omega)) (by omega) _ _)
          clear hK K hHeld
          have hHeld := hHeld2
          clear hHeld2
          try simp only [Act.put, List.setIfInBounds_toArray, List.set_cons_zero, List.set_cons_succ]
          refine wpAnyH_ready (rs := [7]) (by kernel_rfl) (by simp) ?rdy5061
          refine (AllReadyH.cons (List.getElem?_toArray.trans rfl) (fun K hK => ?stp5061_7) AllReadyH.nil)
          case stp5061_7 =>
            go_simp
            go_wp2_with fail
            refine hK.out _ _ ?hSn5062 (fun hHeld2 => ?rest5062)
            case hSn5062 => (first | with_reducible exact R0.drew | with_reducible exact (R0.alloc _).drew | with_reducible exact hHeld.below hb4 | with_reducible exact hHeld.below hb5 | with_reducible exact hHeld.alloc _ | with_reducible exact K5.alloc _ | with_reducible exact hHeld.far2 (by simp only [Off]; repeat' (first | exact trivial | refine And.intro ?_ ?_ | omega)) (by omega) _ _ | with_reducible exact K5.far2 (by simp only [Off]; repeat' (first | exact trivial | refine And.intro ?_ ?_ | omega)) (by omega) _ _ | with_reducible exact (K5.alloc _).far2 (by simp only [Off]; repeat' (first | exact trivial | refine And.intro ?_ ?_ | omega)) (by omega) _ _)
            clear hK K hHeld
            have hHeld := hHeld2
            clear hHeld2
            try simp only [Act.put, List.setIfInBounds_toArray, List.set_cons_zero, List.set_cons_succ]
            refine wpAnyH_done (by kernel_rfl) ?_ _
            go_wp2_with fail
            go_meet
            case rel => exact ⟨_, rfl, (by omega), (by repeat (first | with_reducible exact Blk.new _ _ _ | with_reducible exact U5 | with_reducible refine Blk.put2 (x := .int .u64 0) (y := .int .u64 0) ?_ _ _)), hHeld⟩
  case rest =>
    obtain ⟨X, rfl, hX, N, R⟩ := hcut
    clear R0 LT hs0 O1 S1
    have R0 : Kn w [(X, [.int .u64 rh, .int .u64 rl], 24)] wc := Kn.of ⟨N, trivial⟩ R.bel
    obtain ⟨r0, r1, r2, r3, r4⟩ := R.2.1.1.two
    have B := R.bel
    have of1 : Off (w.heap.size + 1) [(X, [.int .u64 rh, .int .u64 rl], 24)] := by simp only [Off]; exact ⟨by omega, trivial⟩
    have le1 : w.heap.size ≤ w.heap.size + 1 := by omega
    clear R N
    go_upto_region 4 with fail
    refine wp_region_held_drew (S := (Kn w [(X, [.int .u64 rh, .int .u64 rl], 24)])) (by kernel_rfl) ?hS200 (fun hHeld => ?rest200)
    case hS200 => (first | with_reducible exact R0.drew | with_reducible exact hHeld.far2 of1 le1 _ _ | with_reducible exact (R0.far2 of1 le1 _ _).drew)
    refine wpAnyH_take (i := 0) (oi := _) (v := ?v201) (List.getElem?_toArray.trans rfl) (by kernel_rfl) (by kernel_rfl) (by kernel_rfl) (fun _ _ _ h => h) (Or.inl ⟨by rfl, ?hy201⟩) (by assumption) ?rest201
    case hy201 => (intro wq hSw; (try simp only [Two, Kn, Facts, CellsAt] at hSw); go_simp; try with_reducible rfl)
    try simp only [Act.put, List.setIfInBounds_toArray, List.set_cons_zero, List.set_cons_succ]
    refine wpAnyH_take (i := 1) (oi := _) (v := ?v202) (List.getElem?_toArray.trans rfl) (by kernel_rfl) (by kernel_rfl) (by kernel_rfl) (fun _ _ _ h => h) (Or.inl ⟨by rfl, ?hy202⟩) (by assumption) ?rest202
    case hy202 => (intro wq hSw; (try simp only [Two, Kn, Facts, CellsAt] at hSw); go_simp; try with_reducible rfl)
    try simp only [Act.put, List.setIfInBounds_toArray, List.set_cons_zero, List.set_cons_succ]
    refine wpAnyH_take (i := 2) (oi := _) (v := ?v203) (List.getElem?_toArray.trans rfl) (by kernel_rfl) (by kernel_rfl) (by kernel_rfl) (fun _ _ _ h => h) (Or.inl ⟨by rfl, ?hy203⟩) (by assumption) ?rest203
    case hy203 => (intro wq hSw; (try simp only [Two, Kn, Facts, CellsAt] at hSw); go_simp; try with_reducible rfl)
    try simp only [Act.put, List.setIfInBounds_toArray, List.set_cons_zero, List.set_cons_succ]
    refine wpAnyH_take (i := 3) (oi := _) (v := (Value.bool true)) (List.getElem?_toArray.trans rfl) (by kernel_rfl) (by kernel_rfl) (by kernel_rfl) (fun _ _ _ h => h) (Or.inl ⟨by rfl, ?hy204⟩) (by assumption) ?rest204
    case hy204 => (intro wq hSw; (try simp only [Two, Kn, Facts, CellsAt] at hSw); go_simp; (all_goals (have nz := NZ.out; intro q r; omega)))
    try simp only [Act.put, List.setIfInBounds_toArray, List.set_cons_zero, List.set_cons_succ]
    refine wpAnyH_ready (rs := [4]) (by kernel_rfl) (by simp) ?rdy205
    refine AllReadyH.cons (List.getElem?_toArray.trans rfl) (fun K hK => ?stp205) AllReadyH.nil
    go_simp
    go_wp2_with fail
    skip
    go_wp2_with fail
    refine hK.out _ _ ?hSn205 (fun hHeld2 => ?rest205)
    case hSn205 => (first | with_reducible exact R0.drew | with_reducible exact hHeld.far2 of1 le1 _ _ | with_reducible exact (R0.far2 of1 le1 _ _).drew)
    clear hK K hHeld
    have hHeld := hHeld2
    clear hHeld2
    try simp only [Act.put, List.setIfInBounds_toArray, List.set_cons_zero, List.set_cons_succ]
    refine wpAnyH_take (i := 5) (oi := _) (v := ?v206) (List.getElem?_toArray.trans rfl) (by kernel_rfl) (by kernel_rfl) (by kernel_rfl) (fun _ _ _ h => h) (Or.inl ⟨by rfl, ?hy206⟩) (by assumption) ?rest206
    case hy206 => (intro wq hSw; (try simp only [Two, Kn, Facts, CellsAt] at hSw); go_simp; try with_reducible rfl)
    try simp only [Act.put, List.setIfInBounds_toArray, List.set_cons_zero, List.set_cons_succ]
    refine wpAnyH_take (i := 6) (oi := _) (v := ?v207) (List.getElem?_toArray.trans rfl) (by kernel_rfl) (by kernel_rfl) (by kernel_rfl) (fun _ _ _ h => h) (Or.inl ⟨by rfl, ?hy207⟩) (by assumption) ?rest207
    case hy207 => (intro wq hSw; (try simp only [Two, Kn, Facts, CellsAt] at hSw); go_simp; try with_reducible rfl)
    try simp only [Act.put, List.setIfInBounds_toArray, List.set_cons_zero, List.set_cons_succ]
    refine wpAnyH_done (by kernel_rfl) ?fin200 _
    clear hHeld R0 of1 NZ
    go_wp2
    refine bodyPost_ret (v := .tuple #[nv rh rl, .bool true, .int .i64 0]) (by simp [results, Tryz.results79, go_sem, World.cell?_setCell_same', World.cell?_setCell_other, *]) rfl ⟨rfl, by repeat (first | with_reducible exact Below.refl _ _ | with_reducible refine Below.drew ?_ | with_reducible refine Below.alloc ?_ (by first | omega | (simp <;> omega)) _ | with_reducible refine Below.setCell ?_ (by first | omega | (simp <;> omega)) _ | with_reducible refine Below.trans ?_ (Below.mono B (by first | omega | (simp <;> omega))))⟩

set_option maxRecDepth 100000 in
set_option maxHeartbeats 1600000 in
theorem blks_ok_f {v : Bool} {h l b k rh rl : Int} {n : Nat} (hp : IsNum h l n) (hc : cutB v n b k = true) (hr : IsNum rh rl (1 * 2 ^ (k - b).toNat % 340282366920938463463374607431768211456)) (nz : rh = 0 ∧ rl = 0) (w : World) :
    Calls Tryz.prog 79 #[pv v h l b, .int .i64 k] w fun e w' => e = .returned (.tuple #[nv rh rl, .bool false, .int .i64 0]) ∧ Below w.heap.size w w' := by
  have C1 : Hid (∀ w', Calls Tryz.prog 120 #[pv v h l b, .int .i64 k] w' fun e w1 => e = .returned (.bool true) ∧ Below w'.heap.size w' w1) := fun w' => hc ▸ cuts_c hp w'
  obtain ⟨_, b0, b1, b2, _⟩ := cutB_parts hc
  have hW2 := width_le v
  have one : IsNum 0 1 1 := ⟨by omega, by omega, by omega, by omega, rfl⟩
  have O1 : Hid (∀ w', Calls Tryz.prog 80 #[.int .u64 1] w' fun e w1 => e = .returned (nv 0 1) ∧ Below w'.heap.size w' w1) := fun w' => of_w 1 w'
  have S1 : Hid (∀ w', Calls Tryz.prog 121 #[nv 0 1, .int .i64 (k - b)] w' fun e w1 => e = .returned (nv rh rl) ∧ Below w'.heap.size w' w1) := fun w' => shl_is one (by omega) hr w'
  have hw1 : IntKind.i64.wrap (k - b) = k - b := by simp [IntKind.wrap, IntKind.bits, IntKind.signed]; omega
  have NZ : Hid (rh = 0 ∧ rl = 0) := nz
  have K := blks_start w v h l b
  clear hp hc hr b0 b1 b2 hW2 one nz
  go_enter Tryz.func79, Tryz.ntmps79
  go_wp2_with fail
  refine (C1.out _).mono ?_
  rintro e w0 ⟨rfl, hb⟩
  have R0 := K.below hb
  have LT := R0.lts
  simp only [Lts] at LT
  have hs0 := R0.bel.size
  clear hb C1 K
  go_upto_region 3 with fail
  go_cut [7] (fun p wc => ∃ X : Nat, p = .pointer (some ⟨X, 0, none⟩) ∧ w.heap.size + 1 < X ∧ Blk wc X #[.int .u64 rh, .int .u64 rl] 24 ∧ Kn w [(w.heap.size + 1, [.int .u64 0, .int .u64 0], 24), (w.heap.size, [.bool v, .int .u64 h, .int .u64 l, .int .i64 b], 28)] wc)
  case first =>
    refine wp_region_held_drew (S := (Kn w [(w.heap.size + 1, [.int .u64 0, .int .u64 0], 24), (w.heap.size, [.bool v, .int .u64 h, .int .u64 l, .int .i64 b], 28)])) (by kernel_rfl) ?hS5063 (fun hHeld => ?rest5063)
    case hS5063 => (first | with_reducible exact R0.drew | with_reducible exact (R0.alloc _).drew | with_reducible exact hHeld.below hb4 | with_reducible exact hHeld.below hb5 | with_reducible exact hHeld.alloc _ | with_reducible exact K5.alloc _ | with_reducible exact hHeld.far2 (by simp only [Off]; repeat' (first | exact trivial | refine And.intro ?_ ?_ | omega)) (by omega) _ _ | with_reducible exact K5.far2 (by simp only [Off]; repeat' (first | exact trivial | refine And.intro ?_ ?_ | omega)) (by omega) _ _ | with_reducible exact (K5.alloc _).far2 (by simp only [Off]; repeat' (first | exact trivial | refine And.intro ?_ ?_ | omega)) (by omega) _ _)
    refine wpAnyH_take (i := 1) (oi := _) (v := ?v5064) (List.getElem?_toArray.trans rfl) (by kernel_rfl) (by kernel_rfl) (by kernel_rfl) (fun _ _ _ h => h) (Or.inl ⟨by rfl, ?hy5064⟩) (by assumption) ?rest5064
    case hy5064 => (intro wq hSw; (try simp only [Two, Kn, Facts, CellsAt] at hSw); go_simp; try with_reducible rfl)
    try simp only [Act.put, List.setIfInBounds_toArray, List.set_cons_zero, List.set_cons_succ]
    refine wpAnyH_take (i := 2) (oi := _) (v := ?v5065) (List.getElem?_toArray.trans rfl) (by kernel_rfl) (by kernel_rfl) (by kernel_rfl) (fun _ _ _ h => h) (Or.inl ⟨by rfl, ?hy5065⟩) (by assumption) ?rest5065
    case hy5065 => (intro wq hSw; (try simp only [Two, Kn, Facts, CellsAt] at hSw); go_simp; try with_reducible rfl)
    try simp only [Act.put, List.setIfInBounds_toArray, List.set_cons_zero, List.set_cons_succ]
    refine wpAnyH_take (i := 3) (oi := _) (v := ?v5066) (List.getElem?_toArray.trans rfl) (by kernel_rfl) (by kernel_rfl) (by kernel_rfl) (fun _ _ _ h => h) (Or.inl ⟨by rfl, ?hy5066⟩) (by assumption) ?rest5066
    case hy5066 => (intro wq hSw; (try simp only [Two, Kn, Facts, CellsAt] at hSw); go_simp; try with_reducible rfl)
    try simp only [Act.put, List.setIfInBounds_toArray, List.set_cons_zero, List.set_cons_succ]
    refine wpAnyH_take (i := 4) (oi := _) (v := ?v5067) (List.getElem?_toArray.trans rfl) (by kernel_rfl) (by kernel_rfl) (by kernel_rfl) (fun _ _ _ h => h) (Or.inl ⟨by rfl, ?hy5067⟩) (by assumption) ?rest5067
    case hy5067 => (intro wq hSw; (try simp only [Two, Kn, Facts, CellsAt] at hSw); go_simp; try with_reducible rfl)
    try simp only [Act.put, List.setIfInBounds_toArray, List.set_cons_zero, List.set_cons_succ]
    refine wpAnyH_ready (rs := [0, 6]) (by kernel_rfl) (by simp) ?rdy5068
    refine (AllReadyH.cons (List.getElem?_toArray.trans rfl) (fun K hK => ?stp5068_0) (AllReadyH.cons (List.getElem?_toArray.trans rfl) (fun K hK => ?stp5068_6) AllReadyH.nil))
    case stp5068_0 =>
      go_simp
      go_wp2_with fail
      (refine (O1.out _).mono ?_; rintro e w4 ⟨rfl, hb4⟩; have s4 : w0.heap.size ≤ w4.heap.size := (by have := hb4.size; first | exact this | (simp at this; omega)); first | (have U4 : Blk w4 w0.heap.size #[.int .u64 0, .int .u64 0] 24 := Blk.via hb4 (Blk.new w0 #[.int .u64 0, .int .u64 0] 24) rfl; obtain ⟨u0, u1, u2, u3, u4⟩ := U4.two) | skip)
      go_wp2_with fail
      refine hK.out _ _ ?hSn5069 (fun hHeld2 => ?rest5069)
      case hSn5069 => (first | with_reducible exact R0.drew | with_reducible exact (R0.alloc _).drew | with_reducible exact hHeld.below hb4 | with_reducible exact hHeld.below hb5 | with_reducible exact hHeld.alloc _ | with_reducible exact K5.alloc _ | with_reducible exact hHeld.far2 (by simp only [Off]; repeat' (first | exact trivial | refine And.intro ?_ ?_ | omega)) (by omega) _ _ | with_reducible exact K5.far2 (by simp only [Off]; repeat' (first | exact trivial | refine And.intro ?_ ?_ | omega)) (by omega) _ _ | with_reducible exact (K5.alloc _).far2 (by simp only [Off]; repeat' (first | exact trivial | refine And.intro ?_ ?_ | omega)) (by omega) _ _)
      clear hK K hHeld
      have hHeld := hHeld2
      clear hHeld2
      try simp only [Act.put, List.setIfInBounds_toArray, List.set_cons_zero, List.set_cons_succ]
      refine wpAnyH_ready (rs := [5, 6]) (by kernel_rfl) (by simp) ?rdy5070
      refine (AllReadyH.cons (List.getElem?_toArray.trans rfl) (fun K hK => ?stp5070_5) (AllReadyH.cons (List.getElem?_toArray.trans rfl) (fun K hK => ?stp5070_6) AllReadyH.nil))
      case stp5070_5 =>
        go_simp
        go_wp2_with fail
        (refine (S1.out _).mono ?_; rintro e w5 ⟨rfl, hb5⟩; have K5 := hHeld.below hb5; have s5 : w4.heap.size ≤ w5.heap.size := (by have := hb5.size; first | exact this | (simp at this; omega)); first | (have U5 := U4.below hb5; obtain ⟨a0, a1, a2, a3, a4⟩ := U5.two) | (have U5 : Blk w5 w4.heap.size #[.int .u64 0, .int .u64 0] 24 := Blk.via hb5 (Blk.new w4 #[.int .u64 0, .int .u64 0] 24) rfl; obtain ⟨p0, p1, p2, p3, p4⟩ := U5.two) | skip)
        go_wp2_with fail
        refine hK.out _ _ ?hSn5071 (fun hHeld2 => ?rest5071)
        case hSn5071 => (first | with_reducible exact R0.drew | with_reducible exact (R0.alloc _).drew | with_reducible exact hHeld.below hb4 | with_reducible exact hHeld.below hb5 | with_reducible exact hHeld.alloc _ | with_reducible exact K5.alloc _ | with_reducible exact hHeld.far2 (by simp only [Off]; repeat' (first | exact trivial | refine And.intro ?_ ?_ | omega)) (by omega) _ _ | with_reducible exact K5.far2 (by simp only [Off]; repeat' (first | exact trivial | refine And.intro ?_ ?_ | omega)) (by omega) _ _ | with_reducible exact (K5.alloc _).far2 (by simp only [Off]; repeat' (first | exact trivial | refine And.intro ?_ ?_ | omega)) (by omega) _ _)
        clear hK K hHeld
        have hHeld := hHeld2
        clear hHeld2
        try simp only [Act.put, List.setIfInBounds_toArray, List.set_cons_zero, List.set_cons_succ]
        refine wpAnyH_ready (rs := [6]) (by kernel_rfl) (by simp) ?rdy5072
        refine (AllReadyH.cons (List.getElem?_toArray.trans rfl) (fun K hK => ?stp5072_6) AllReadyH.nil)
        case stp5072_6 =>
          go_simp
          go_wp2_with fail
          refine hK.out _ _ ?hSn5073 (fun hHeld2 => ?rest5073)
          case hSn5073 => (first | with_reducible exact R0.drew | with_reducible exact (R0.alloc _).drew | with_reducible exact hHeld.below hb4 | with_reducible exact hHeld.below hb5 | with_reducible exact hHeld.alloc _ | with_reducible exact K5.alloc _ | with_reducible exact hHeld.far2 (by simp only [Off]; repeat' (first | exact trivial | refine And.intro ?_ ?_ | omega)) (by omega) _ _ | with_reducible exact K5.far2 (by simp only [Off]; repeat' (first | exact trivial | refine And.intro ?_ ?_ | omega)) (by omega) _ _ | with_reducible exact (K5.alloc _).far2 (by simp only [Off]; repeat' (first | exact trivial | refine And.intro ?_ ?_ | omega)) (by omega) _ _)
          clear hK K hHeld
          have hHeld := hHeld2
          clear hHeld2
          try simp only [Act.put, List.setIfInBounds_toArray, List.set_cons_zero, List.set_cons_succ]
          refine wpAnyH_ready (rs := [7]) (by kernel_rfl) (by simp) ?rdy5074
          refine (AllReadyH.cons (List.getElem?_toArray.trans rfl) (fun K hK => ?stp5074_7) AllReadyH.nil)
          case stp5074_7 =>
            go_simp
            go_wp2_with fail
            refine hK.out _ _ ?hSn5075 (fun hHeld2 => ?rest5075)
            case hSn5075 => (first | with_reducible exact R0.drew | with_reducible exact (R0.alloc _).drew | with_reducible exact hHeld.below hb4 | with_reducible exact hHeld.below hb5 | with_reducible exact hHeld.alloc _ | with_reducible exact K5.alloc _ | with_reducible exact hHeld.far2 (by simp only [Off]; repeat' (first | exact trivial | refine And.intro ?_ ?_ | omega)) (by omega) _ _ | with_reducible exact K5.far2 (by simp only [Off]; repeat' (first | exact trivial | refine And.intro ?_ ?_ | omega)) (by omega) _ _ | with_reducible exact (K5.alloc _).far2 (by simp only [Off]; repeat' (first | exact trivial | refine And.intro ?_ ?_ | omega)) (by omega) _ _)
            clear hK K hHeld
            have hHeld := hHeld2
            clear hHeld2
            try simp only [Act.put, List.setIfInBounds_toArray, List.set_cons_zero, List.set_cons_succ]
            refine wpAnyH_done (by kernel_rfl) ?_ _
            go_wp2_with fail
            go_meet
            case rel => exact ⟨_, rfl, (by omega), (by repeat (first | with_reducible exact Blk.new _ _ _ | with_reducible exact U5 | with_reducible refine Blk.put2 (x := .int .u64 0) (y := .int .u64 0) ?_ _ _)), hHeld⟩
      case stp5070_6 =>
        go_simp
        go_wp2_with fail
        refine hK.out _ _ ?hSn5076 (fun hHeld2 => ?rest5076)
        case hSn5076 => (first | with_reducible exact R0.drew | with_reducible exact (R0.alloc _).drew | with_reducible exact hHeld.below hb4 | with_reducible exact hHeld.below hb5 | with_reducible exact hHeld.alloc _ | with_reducible exact K5.alloc _ | with_reducible exact hHeld.far2 (by simp only [Off]; repeat' (first | exact trivial | refine And.intro ?_ ?_ | omega)) (by omega) _ _ | with_reducible exact K5.far2 (by simp only [Off]; repeat' (first | exact trivial | refine And.intro ?_ ?_ | omega)) (by omega) _ _ | with_reducible exact (K5.alloc _).far2 (by simp only [Off]; repeat' (first | exact trivial | refine And.intro ?_ ?_ | omega)) (by omega) _ _)
        clear hK K hHeld
        have hHeld := hHeld2
        clear hHeld2
        try simp only [Act.put, List.setIfInBounds_toArray, List.set_cons_zero, List.set_cons_succ]
        refine wpAnyH_ready (rs := [5]) (by kernel_rfl) (by simp) ?rdy5077
        refine (AllReadyH.cons (List.getElem?_toArray.trans rfl) (fun K hK => ?stp5077_5) AllReadyH.nil)
        case stp5077_5 =>
          go_simp
          go_wp2_with fail
          (refine (S1.out _).mono ?_; rintro e w5 ⟨rfl, hb5⟩; have K5 := hHeld.below hb5; have s5 : w4.heap.size ≤ w5.heap.size := (by have := hb5.size; first | exact this | (simp at this; omega)); first | (have U5 := U4.below hb5; obtain ⟨a0, a1, a2, a3, a4⟩ := U5.two) | (have U5 : Blk w5 w4.heap.size #[.int .u64 0, .int .u64 0] 24 := Blk.via hb5 (Blk.new w4 #[.int .u64 0, .int .u64 0] 24) rfl; obtain ⟨p0, p1, p2, p3, p4⟩ := U5.two) | skip)
          go_wp2_with fail
          refine hK.out _ _ ?hSn5078 (fun hHeld2 => ?rest5078)
          case hSn5078 => (first | with_reducible exact R0.drew | with_reducible exact (R0.alloc _).drew | with_reducible exact hHeld.below hb4 | with_reducible exact hHeld.below hb5 | with_reducible exact hHeld.alloc _ | with_reducible exact K5.alloc _ | with_reducible exact hHeld.far2 (by simp only [Off]; repeat' (first | exact trivial | refine And.intro ?_ ?_ | omega)) (by omega) _ _ | with_reducible exact K5.far2 (by simp only [Off]; repeat' (first | exact trivial | refine And.intro ?_ ?_ | omega)) (by omega) _ _ | with_reducible exact (K5.alloc _).far2 (by simp only [Off]; repeat' (first | exact trivial | refine And.intro ?_ ?_ | omega)) (by omega) _ _)
          clear hK K hHeld
          have hHeld := hHeld2
          clear hHeld2
          try simp only [Act.put, List.setIfInBounds_toArray, List.set_cons_zero, List.set_cons_succ]
          refine wpAnyH_ready (rs := [7]) (by kernel_rfl) (by simp) ?rdy5079
          refine (AllReadyH.cons (List.getElem?_toArray.trans rfl) (fun K hK => ?stp5079_7) AllReadyH.nil)
          case stp5079_7 =>
            go_simp
            go_wp2_with fail
            refine hK.out _ _ ?hSn5080 (fun hHeld2 => ?rest5080)
            case hSn5080 => (first | with_reducible exact R0.drew | with_reducible exact (R0.alloc _).drew | with_reducible exact hHeld.below hb4 | with_reducible exact hHeld.below hb5 | with_reducible exact hHeld.alloc _ | with_reducible exact K5.alloc _ | with_reducible exact hHeld.far2 (by simp only [Off]; repeat' (first | exact trivial | refine And.intro ?_ ?_ | omega)) (by omega) _ _ | with_reducible exact K5.far2 (by simp only [Off]; repeat' (first | exact trivial | refine And.intro ?_ ?_ | omega)) (by omega) _ _ | with_reducible exact (K5.alloc _).far2 (by simp only [Off]; repeat' (first | exact trivial | refine And.intro ?_ ?_ | omega)) (by omega) _ _)
            clear hK K hHeld
            have hHeld := hHeld2
            clear hHeld2
            try simp only [Act.put, List.setIfInBounds_toArray, List.set_cons_zero, List.set_cons_succ]
            refine wpAnyH_done (by kernel_rfl) ?_ _
            go_wp2_with fail
            go_meet
            case rel => exact ⟨_, rfl, (by omega), (by repeat (first | with_reducible exact Blk.new _ _ _ | with_reducible exact U5 | with_reducible refine Blk.put2 (x := .int .u64 0) (y := .int .u64 0) ?_ _ _)), hHeld⟩
    case stp5068_6 =>
      go_simp
      go_wp2_with fail
      refine hK.out _ _ ?hSn5081 (fun hHeld2 => ?rest5081)
      case hSn5081 => (first | with_reducible exact R0.drew | with_reducible exact (R0.alloc _).drew | with_reducible exact hHeld.below hb4 | with_reducible exact hHeld.below hb5 | with_reducible exact hHeld.alloc _ | with_reducible exact K5.alloc _ | with_reducible exact hHeld.far2 (by simp only [Off]; repeat' (first | exact trivial | refine And.intro ?_ ?_ | omega)) (by omega) _ _ | with_reducible exact K5.far2 (by simp only [Off]; repeat' (first | exact trivial | refine And.intro ?_ ?_ | omega)) (by omega) _ _ | with_reducible exact (K5.alloc _).far2 (by simp only [Off]; repeat' (first | exact trivial | refine And.intro ?_ ?_ | omega)) (by omega) _ _)
      clear hK K hHeld
      have hHeld := hHeld2
      clear hHeld2
      try simp only [Act.put, List.setIfInBounds_toArray, List.set_cons_zero, List.set_cons_succ]
      refine wpAnyH_ready (rs := [0]) (by kernel_rfl) (by simp) ?rdy5082
      refine (AllReadyH.cons (List.getElem?_toArray.trans rfl) (fun K hK => ?stp5082_0) AllReadyH.nil)
      case stp5082_0 =>
        go_simp
        go_wp2_with fail
        (refine (O1.out _).mono ?_; rintro e w4 ⟨rfl, hb4⟩; have s4 : w0.heap.size ≤ w4.heap.size := (by have := hb4.size; first | exact this | (simp at this; omega)); first | (have U4 : Blk w4 w0.heap.size #[.int .u64 0, .int .u64 0] 24 := Blk.via hb4 (Blk.new w0 #[.int .u64 0, .int .u64 0] 24) rfl; obtain ⟨u0, u1, u2, u3, u4⟩ := U4.two) | skip)
        go_wp2_with fail
        refine hK.out _ _ ?hSn5083 (fun hHeld2 => ?rest5083)
        case hSn5083 => (first | with_reducible exact R0.drew | with_reducible exact (R0.alloc _).drew | with_reducible exact hHeld.below hb4 | with_reducible exact hHeld.below hb5 | with_reducible exact hHeld.alloc _ | with_reducible exact K5.alloc _ | with_reducible exact hHeld.far2 (by simp only [Off]; repeat' (first | exact trivial | refine And.intro ?_ ?_ | omega)) (by omega) _ _ | with_reducible exact K5.far2 (by simp only [Off]; repeat' (first | exact trivial | refine And.intro ?_ ?_ | omega)) (by omega) _ _ | with_reducible exact (K5.alloc _).far2 (by simp only [Off]; repeat' (first | exact trivial | refine And.intro ?_ ?_ | omega)) (by omega) _ _)
        clear hK K hHeld
        have hHeld := hHeld2
        clear hHeld2
        try simp only [Act.put, List.setIfInBounds_toArray, List.set_cons_zero, List.set_cons_succ]
        refine wpAnyH_ready (rs := [5]) (by kernel_rfl) (by simp) ?rdy5084
        refine (AllReadyH.cons (List.getElem?_toArray.trans rfl) (fun K hK => ?stp5084_5) AllReadyH.nil)
        case stp5084_5 =>
          go_simp
          go_wp2_with fail
          (refine (S1.out _).mono ?_; rintro e w5 ⟨rfl, hb5⟩; have K5 := hHeld.below hb5; have s5 : w4.heap.size ≤ w5.heap.size := (by have := hb5.size; first | exact this | (simp at this; omega)); first | (have U5 := U4.below hb5; obtain ⟨a0, a1, a2, a3, a4⟩ := U5.two) | (have U5 : Blk w5 w4.heap.size #[.int .u64 0, .int .u64 0] 24 := Blk.via hb5 (Blk.new w4 #[.int .u64 0, .int .u64 0] 24) rfl; obtain ⟨p0, p1, p2, p3, p4⟩ := U5.two) | skip)
          go_wp2_with fail
          refine hK.out _ _ ?hSn5085 (fun hHeld2 => ?rest5085)
          case hSn5085 => (first | with_reducible exact R0.drew | with_reducible exact (R0.alloc _).drew | with_reducible exact hHeld.below hb4 | with_reducible exact hHeld.below hb5 | with_reducible exact hHeld.alloc _ | with_reducible exact K5.alloc _ | with_reducible exact hHeld.far2 (by simp only [Off]; repeat' (first | exact trivial | refine And.intro ?_ ?_ | omega)) (by omega) _ _ | with_reducible exact K5.far2 (by simp only [Off]; repeat' (first | exact trivial | refine And.intro ?_ ?_ | omega)) (by omega) _ _ | with_reducible exact (K5.alloc _).far2 (by simp only [Off]; repeat' (first | exact trivial | refine And.intro ?_ ?_ | omega)) (by omega) _ _)
          clear hK K hHeld
          have hHeld := hHeld2
          clear hHeld2
          try simp only [Act.put, List.setIfInBounds_toArray, List.set_cons_zero, List.set_cons_succ]
          refine wpAnyH_ready (rs := [7]) (by kernel_rfl) (by simp) ?rdy5086
          refine (AllReadyH.cons (List.getElem?_toArray.trans rfl) (fun K hK => ?stp5086_7) AllReadyH.nil)
          case stp5086_7 =>
            go_simp
            go_wp2_with fail
            refine hK.out _ _ ?hSn5087 (fun hHeld2 => ?rest5087)
            case hSn5087 => (first | with_reducible exact R0.drew | with_reducible exact (R0.alloc _).drew | with_reducible exact hHeld.below hb4 | with_reducible exact hHeld.below hb5 | with_reducible exact hHeld.alloc _ | with_reducible exact K5.alloc _ | with_reducible exact hHeld.far2 (by simp only [Off]; repeat' (first | exact trivial | refine And.intro ?_ ?_ | omega)) (by omega) _ _ | with_reducible exact K5.far2 (by simp only [Off]; repeat' (first | exact trivial | refine And.intro ?_ ?_ | omega)) (by omega) _ _ | with_reducible exact (K5.alloc _).far2 (by simp only [Off]; repeat' (first | exact trivial | refine And.intro ?_ ?_ | omega)) (by omega) _ _)
            clear hK K hHeld
            have hHeld := hHeld2
            clear hHeld2
            try simp only [Act.put, List.setIfInBounds_toArray, List.set_cons_zero, List.set_cons_succ]
            refine wpAnyH_done (by kernel_rfl) ?_ _
            go_wp2_with fail
            go_meet
            case rel => exact ⟨_, rfl, (by omega), (by repeat (first | with_reducible exact Blk.new _ _ _ | with_reducible exact U5 | with_reducible refine Blk.put2 (x := .int .u64 0) (y := .int .u64 0) ?_ _ _)), hHeld⟩
  case rest =>
    obtain ⟨X, rfl, hX, N, R⟩ := hcut
    clear R0 LT hs0 O1 S1
    have R0 : Kn w [(X, [.int .u64 rh, .int .u64 rl], 24)] wc := Kn.of ⟨N, trivial⟩ R.bel
    obtain ⟨r0, r1, r2, r3, r4⟩ := R.2.1.1.two
    have B := R.bel
    have of1 : Off (w.heap.size + 1) [(X, [.int .u64 rh, .int .u64 rl], 24)] := by simp only [Off]; exact ⟨by omega, trivial⟩
    have le1 : w.heap.size ≤ w.heap.size + 1 := by omega
    clear R N
    go_upto_region 4 with fail
    refine wp_region_held_drew (S := (Kn w [(X, [.int .u64 rh, .int .u64 rl], 24)])) (by kernel_rfl) ?hS300 (fun hHeld => ?rest300)
    case hS300 => (first | with_reducible exact R0.drew | with_reducible exact hHeld.far2 of1 le1 _ _ | with_reducible exact (R0.far2 of1 le1 _ _).drew)
    refine wpAnyH_take (i := 0) (oi := _) (v := ?v301) (List.getElem?_toArray.trans rfl) (by kernel_rfl) (by kernel_rfl) (by kernel_rfl) (fun _ _ _ h => h) (Or.inl ⟨by rfl, ?hy301⟩) (by assumption) ?rest301
    case hy301 => (intro wq hSw; (try simp only [Two, Kn, Facts, CellsAt] at hSw); go_simp; try with_reducible rfl)
    try simp only [Act.put, List.setIfInBounds_toArray, List.set_cons_zero, List.set_cons_succ]
    refine wpAnyH_take (i := 1) (oi := _) (v := ?v302) (List.getElem?_toArray.trans rfl) (by kernel_rfl) (by kernel_rfl) (by kernel_rfl) (fun _ _ _ h => h) (Or.inl ⟨by rfl, ?hy302⟩) (by assumption) ?rest302
    case hy302 => (intro wq hSw; (try simp only [Two, Kn, Facts, CellsAt] at hSw); go_simp; try with_reducible rfl)
    try simp only [Act.put, List.setIfInBounds_toArray, List.set_cons_zero, List.set_cons_succ]
    refine wpAnyH_take (i := 2) (oi := _) (v := ?v303) (List.getElem?_toArray.trans rfl) (by kernel_rfl) (by kernel_rfl) (by kernel_rfl) (fun _ _ _ h => h) (Or.inl ⟨by rfl, ?hy303⟩) (by assumption) ?rest303
    case hy303 => (intro wq hSw; (try simp only [Two, Kn, Facts, CellsAt] at hSw); go_simp; try with_reducible rfl)
    try simp only [Act.put, List.setIfInBounds_toArray, List.set_cons_zero, List.set_cons_succ]
    refine wpAnyH_take (i := 3) (oi := _) (v := (Value.bool false)) (List.getElem?_toArray.trans rfl) (by kernel_rfl) (by kernel_rfl) (by kernel_rfl) (fun _ _ _ h => h) (Or.inl ⟨by rfl, ?hy304⟩) (by assumption) ?rest304
    case hy304 => (intro wq hSw; (try simp only [Two, Kn, Facts, CellsAt] at hSw); go_simp; (all_goals (have nz := NZ.out; simp [nz.1, nz.2])))
    try simp only [Act.put, List.setIfInBounds_toArray, List.set_cons_zero, List.set_cons_succ]
    refine wpAnyH_ready (rs := [4]) (by kernel_rfl) (by simp) ?rdy305
    refine AllReadyH.cons (List.getElem?_toArray.trans rfl) (fun K hK => ?stp305) AllReadyH.nil
    go_simp
    go_wp2_with fail
    skip
    go_wp2_with fail
    refine hK.out _ _ ?hSn305 (fun hHeld2 => ?rest305)
    case hSn305 => (first | with_reducible exact R0.drew | with_reducible exact hHeld.far2 of1 le1 _ _ | with_reducible exact (R0.far2 of1 le1 _ _).drew)
    clear hK K hHeld
    have hHeld := hHeld2
    clear hHeld2
    try simp only [Act.put, List.setIfInBounds_toArray, List.set_cons_zero, List.set_cons_succ]
    refine wpAnyH_take (i := 5) (oi := _) (v := ?v306) (List.getElem?_toArray.trans rfl) (by kernel_rfl) (by kernel_rfl) (by kernel_rfl) (fun _ _ _ h => h) (Or.inl ⟨by rfl, ?hy306⟩) (by assumption) ?rest306
    case hy306 => (intro wq hSw; (try simp only [Two, Kn, Facts, CellsAt] at hSw); go_simp; try with_reducible rfl)
    try simp only [Act.put, List.setIfInBounds_toArray, List.set_cons_zero, List.set_cons_succ]
    refine wpAnyH_take (i := 6) (oi := _) (v := ?v307) (List.getElem?_toArray.trans rfl) (by kernel_rfl) (by kernel_rfl) (by kernel_rfl) (fun _ _ _ h => h) (Or.inl ⟨by rfl, ?hy307⟩) (by assumption) ?rest307
    case hy307 => (intro wq hSw; (try simp only [Two, Kn, Facts, CellsAt] at hSw); go_simp; try with_reducible rfl)
    try simp only [Act.put, List.setIfInBounds_toArray, List.set_cons_zero, List.set_cons_succ]
    refine wpAnyH_done (by kernel_rfl) ?fin300 _
    clear hHeld R0 of1 NZ
    go_wp2
    refine bodyPost_ret (v := .tuple #[nv rh rl, .bool false, .int .i64 0]) (by simp [results, Tryz.results79, go_sem, World.cell?_setCell_same', World.cell?_setCell_other, *]) rfl ⟨rfl, by repeat (first | with_reducible exact Below.refl _ _ | with_reducible refine Below.drew ?_ | with_reducible refine Below.alloc ?_ (by first | omega | (simp <;> omega)) _ | with_reducible refine Below.setCell ?_ (by first | omega | (simp <;> omega)) _ | with_reducible refine Below.trans ?_ (Below.mono B (by first | omega | (simp <;> omega))))⟩

theorem blks_ok {v t : Bool} {h l b k rh rl : Int} {n : Nat} (hp : IsNum h l n) (hc : cutB v n b k = true) (hr : CountIs (k - b).toNat rh rl t) (w : World) :
    Calls Tryz.prog 79 #[pv v h l b, .int .i64 k] w fun e w' => e = .returned (.tuple #[nv rh rl, .bool t, .int .i64 0]) ∧ Below w.heap.size w w' := by
  rcases hr.nought with ⟨rfl, nz⟩ | ⟨rfl, nz⟩
  · exact blks_ok_t hp hc hr.mod nz w
  · exact blks_ok_f hp hc hr.mod nz w

end Go.Proofs.YtllidkflgjjkfaaGreatDoor

namespace Go.Proofs.YtllidkflgjjkfaaGreatDoor
open Go.ChangeShapes Go.WideShapes Go.ChangeAt Go.RowKit
set_option linter.unusedVariables false
set_option linter.unusedSimpArgs false

theorem BitRow.far {w : World} {g n a D : Nat} (x : BitRow w g n a) (hne : g ≠ D) (i : Nat) (u : Value) : BitRow (w.setCell ⟨D, i, none⟩ u) g n a :=
  ⟨by simpa [World.setCell] using x.1, fun j hj => by rw [World.cell?_of_block (w := w) (Below.heap_setCell _ _ _ _ hne)]; exact x.2 j hj⟩

end Go.Proofs.YtllidkflgjjkfaaGreatDoor
