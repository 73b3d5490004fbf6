/-
  num.Parse: the number of a text of digits.
-/
import Derived.Test.YtgbpnekinbdadaaDoorNumIs
import Derived.Test.YtgbpnekinbdadaaDoorTextMath
import Derived.Outline
import Derived.Deep.DeepCutAuto
import Derived.Deep.RegionHeld
import Derived.Lib.Strings
namespace Go.Proofs.YtgbpnekinbdadaaDoor
open Go.ChangeShapes Go.WideShapes Go.ChangeAt Go.RowKit
set_option linter.unusedVariables false
set_option linter.unusedSimpArgs false

theorem isEmpty_iff (s : ByteArray) : s.toList.isEmpty = decide (s.size = 0) := by
  rw [Lib.toList_data]
  have : s.size = s.data.toList.length := Lib.size_eq s
  rw [this]
  cases s.data.toList <;> simp

set_option maxRecDepth 100000 in
set_option maxHeartbeats 1000000 in
theorem printed_yes (s : ByteArray) (hs : s.size ≤ 1000000) (hp : Printed s) (w : World) :
    Calls Tryd.prog 60 #[.string s] w fun e w' => e = .returned (.bool true) ∧ w' = w := by
  obtain ⟨h0, h1, h2⟩ := hp
  have e1 : s.toList.isEmpty = false := by rw [isEmpty_iff]; exact decide_eq_false (by omega)
  by_cases hl : 1 < s.size
  · have hn : byteN s 0 ≠ 48 := fun c => h1 ⟨hl, c⟩
    rw [← byteN_get s 0 h0] at hn
    have e2 : ((s[0].toNat : Int) == 48) = false := by simp; omega
    have hl' : (1 : Int) < (s.size : Int) := by omega
    go_enter Tryd.func60, Tryd.ntmps60
    go_wp2_with fail
    go_loop [18] (fun t => ∃ k : Nat, k ≤ s.size ∧ t = .int .i64 k) (fun t => s.size - (intOf t).toNat)
    case atStart => exact ⟨0, Nat.zero_le _, rfl⟩
    case round =>
      obtain ⟨k, hk, rfl⟩ := hrel
      by_cases hlt : k < s.size
      · have b := h2 k hlt
        rw [← byteN_get s k hlt] at b
        have b1 : ¬ (s[k].toNat : Int) < 48 := by omega
        have b2 : ¬ 57 < (s[k].toNat : Int) := by omega
        have b3 : decide ((s[k].toNat : Int) < 48) = false := by simpa using b1
        have b4 : decide (57 < (s[k].toNat : Int)) = false := by simpa using b2
        have hki : (k : Int) < (s.size : Int) := by omega
        go_wp2
        go_round
        case rel => exact ⟨k + 1, by omega, by go_num⟩
        case measure => simp [intOf]; omega
      · have hki : ¬ (k : Int) < (s.size : Int) := by omega
        go_wp2
        go_ret
        exact ⟨rfl, rfl⟩
  · have hl' : decide ((1 : Int) < (s.size : Int)) = false := by simp; omega
    go_enter Tryd.func60, Tryd.ntmps60
    go_wp2_with fail
    go_loop [18] (fun t => ∃ k : Nat, k ≤ s.size ∧ t = .int .i64 k) (fun t => s.size - (intOf t).toNat)
    case atStart => exact ⟨0, Nat.zero_le _, rfl⟩
    case round =>
      obtain ⟨k, hk, rfl⟩ := hrel
      by_cases hlt : k < s.size
      · have b := h2 k hlt
        rw [← byteN_get s k hlt] at b
        have b1 : ¬ (s[k].toNat : Int) < 48 := by omega
        have b2 : ¬ 57 < (s[k].toNat : Int) := by omega
        have b3 : decide ((s[k].toNat : Int) < 48) = false := by simpa using b1
        have b4 : decide (57 < (s[k].toNat : Int)) = false := by simpa using b2
        have hki : (k : Int) < (s.size : Int) := by omega
        go_wp2
        go_round
        case rel => exact ⟨k + 1, by omega, by go_num⟩
        case measure => simp [intOf]; omega
      · have hki : ¬ (k : Int) < (s.size : Int) := by omega
        go_wp2
        go_ret
        exact ⟨rfl, rfl⟩

set_option maxRecDepth 100000 in
set_option maxHeartbeats 1000000 in
theorem printed_no (s : ByteArray) (hs : s.size ≤ 1000000) (hp : ¬ Printed s) (w : World) :
    Calls Tryd.prog 60 #[.string s] w fun e w' => e = .returned (.bool false) ∧ w' = w := by
  by_cases h0 : s.size = 0
  · have e1 : s.toList.isEmpty = true := by rw [isEmpty_iff]; exact decide_eq_true h0
    go_enter Tryd.func60, Tryd.ntmps60
    go_wp2
    go_ret
    exact ⟨rfl, rfl⟩
  · have e1 : s.toList.isEmpty = false := by rw [isEmpty_iff]; exact decide_eq_false h0
    have h0' : 0 < s.size := by omega
    by_cases hl : 1 < s.size ∧ byteN s 0 = 48
    · have hn := hl.2
      rw [← byteN_get s 0 h0'] at hn
      have e2 : ((s[0].toNat : Int) == 48) = true := by simp; omega
      have hl' : (1 : Int) < (s.size : Int) := by omega
      clear hn
      go_enter Tryd.func60, Tryd.ntmps60
      go_wp2
      go_ret
      exact ⟨rfl, rfl⟩
    · have bad : ∃ i, i < s.size ∧ ¬ (48 ≤ byteN s i ∧ byteN s i ≤ 57) := by
        apply Classical.byContradiction
        intro c
        exact hp ⟨h0', hl, fun i hi => Classical.byContradiction fun d => c ⟨i, hi, d⟩⟩
      obtain ⟨i, hi, hbad⟩ := bad
      by_cases hl1 : 1 < s.size
      · have hn : byteN s 0 ≠ 48 := fun c => hl ⟨hl1, c⟩
        rw [← byteN_get s 0 h0'] at hn
        have e2 : ((s[0].toNat : Int) == 48) = false := by simp; omega
        have hl' : (1 : Int) < (s.size : Int) := by omega
        clear hn
        go_enter Tryd.func60, Tryd.ntmps60
        go_wp2_with fail
        go_loop [18] (fun t => ∃ k : Nat, k ≤ i ∧ t = .int .i64 k) (fun t => s.size - (intOf t).toNat)
        case atStart => exact ⟨0, Nat.zero_le _, rfl⟩
        case round =>
          obtain ⟨k, hk, rfl⟩ := hrel
          have hlt : k < s.size := by omega
          have hki : (k : Int) < (s.size : Int) := by omega
          obtain ⟨b, hb⟩ : ∃ b : Nat, byteN s k = b := ⟨_, rfl⟩
          have bg := byteN_get s k hlt
          rw [hb] at bg
          have hkb : k = i → ¬ (48 ≤ b ∧ b ≤ 57) := fun e => by subst e; rw [← hb]; exact hbad
          clear hb
          by_cases c1 : (b : Int) < 48
          · have c1' : (s[k].toNat : Int) < 48 := by rw [bg]; exact c1
            clear bg c1
            go_wp2
            go_ret
            exact ⟨rfl, rfl⟩
          · have c1' : decide ((s[k].toNat : Int) < 48) = false := by rw [bg]; simpa using c1
            by_cases c2 : 57 < (b : Int)
            · have c2' : 57 < (s[k].toNat : Int) := by rw [bg]; exact c2
              clear bg c1 c2
              go_wp2
              go_ret
              exact ⟨rfl, rfl⟩
            · have c2' : decide (57 < (s[k].toNat : Int)) = false := by rw [bg]; simpa using c2
              have hne : k ≠ i := fun e => hkb e ⟨by omega, by omega⟩
              clear bg c1 c2
              go_wp2
              go_round
              case rel => exact ⟨k + 1, by omega, by go_num⟩
              case measure => simp [intOf]; omega
      · have hl' : decide ((1 : Int) < (s.size : Int)) = false := by simp; omega
        go_enter Tryd.func60, Tryd.ntmps60
        go_wp2_with fail
        go_loop [18] (fun t => ∃ k : Nat, k ≤ i ∧ t = .int .i64 k) (fun t => s.size - (intOf t).toNat)
        case atStart => exact ⟨0, Nat.zero_le _, rfl⟩
        case round =>
          obtain ⟨k, hk, rfl⟩ := hrel
          have hlt : k < s.size := by omega
          have hki : (k : Int) < (s.size : Int) := by omega
          obtain ⟨b, hb⟩ : ∃ b : Nat, byteN s k = b := ⟨_, rfl⟩
          have bg := byteN_get s k hlt
          rw [hb] at bg
          have hkb : k = i → ¬ (48 ≤ b ∧ b ≤ 57) := fun e => by subst e; rw [← hb]; exact hbad
          clear hb
          by_cases c1 : (b : Int) < 48
          · have c1' : (s[k].toNat : Int) < 48 := by rw [bg]; exact c1
            clear bg c1
            go_wp2
            go_ret
            exact ⟨rfl, rfl⟩
          · have c1' : decide ((s[k].toNat : Int) < 48) = false := by rw [bg]; simpa using c1
            by_cases c2 : 57 < (b : Int)
            · have c2' : 57 < (s[k].toNat : Int) := by rw [bg]; exact c2
              clear bg c1 c2
              go_wp2
              go_ret
              exact ⟨rfl, rfl⟩
            · have c2' : decide (57 < (s[k].toNat : Int)) = false := by rw [bg]; simpa using c2
              have hne : k ≠ i := fun e => hkb e ⟨by omega, by omega⟩
              clear bg c1 c2
              go_wp2
              go_round
              case rel => exact ⟨k + 1, by omega, by go_num⟩
              case measure => simp [intOf]; omega

/-- Block b holds the two words h, l and may be written. -/
def Own (w : World) (b : Nat) (h l : Int) : Prop := Two w b h l ∧ w.frozen? ⟨b, 0, none⟩ = false ∧ w.frozen? ⟨b, 1, none⟩ = false
theorem Own.below {W w1 : World} {b : Nat} {h l : Int} (x : Own W b h l) (hb : Below W.heap.size W w1) : Own w1 b h l :=
  ⟨x.1.below hb, (hb.frozen x.1.2.2).trans x.2.1, (hb.frozen x.1.2.2).trans x.2.2⟩
theorem Own.alloc {W : World} {b : Nat} {h l : Int} (x : Own W b h l) (o : Obj) : Own (W.alloc o) b h l :=
  ⟨x.1.alloc o, (World.frozen?_alloc_old _ _ _ (Nat.ne_of_lt x.1.2.2)).trans x.2.1, (World.frozen?_alloc_old _ _ _ (Nat.ne_of_lt x.1.2.2)).trans x.2.2⟩
theorem Own.drew {W : World} {b : Nat} {h l : Int} (x : Own W b h l) : Own W.drew b h l := x
theorem Own.new (W : World) (h l : Int) (t : TypeId) : Own (W.alloc (.cells #[.int .u64 h, .int .u64 l] t)) W.heap.size h l :=
  ⟨Two.new W h l t, by rw [World.frozen?_alloc_at _ _ _ _ rfl], by rw [World.frozen?_alloc_at _ _ _ _ rfl]⟩
theorem Own.put {w : World} {b : Nat} {h l h' l' : Int} (x : Own w b h l) : Own ((w.setCell ⟨b, 0, none⟩ (.int .u64 h')).setCell ⟨b, 1, none⟩ (.int .u64 l')) b h' l' :=
  ⟨Two.put (by rw [x.1.1]; rfl) (by rw [x.1.2.1]; rfl) x.1.2.2, by simpa using x.2.1, by simpa using x.2.2⟩
theorem Own.far {w : World} {b c : Nat} {h l : Int} {u v : Value} (x : Own w b h l) (hbc : b ≠ c) : Own ((w.setCell ⟨c, 0, none⟩ u).setCell ⟨c, 1, none⟩ v) b h l :=
  ⟨x.1.far hbc, by simpa using x.2.1, by simpa using x.2.2⟩
end Go.Proofs.YtgbpnekinbdadaaDoor
