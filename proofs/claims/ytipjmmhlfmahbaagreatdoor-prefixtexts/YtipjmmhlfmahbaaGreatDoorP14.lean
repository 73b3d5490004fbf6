/-
  Texts Parse, Parse2 of the proof.
-/
import Derived.Deep.DeepCutAuto
import Derived.Deep.RegionHeld
import Derived.Lib.Strings
import Derived.Outline
import Derived.Test.YtipjmmhlfmahbaaGreatDoorP5
import Derived.Test.YtipjmmhlfmahbaaGreatDoorP7

namespace Go.Proofs.YtipjmmhlfmahbaaGreatDoor
open Go.ChangeShapes Go.WideShapes Go.ChangeAt Go.RowKit
set_option linter.unusedVariables false
set_option linter.unusedSimpArgs false

theorem isEmpty_iff (s : ByteArray) : s.toList.isEmpty = decide (s.size = 0) := by
  rw [Lib.toList_data]
  have : s.size = s.data.toList.length := Lib.size_eq s
  rw [this]
  cases s.data.toList <;> simp

set_option maxRecDepth 100000 in
set_option maxHeartbeats 1000000 in
theorem printed_yes (s : ByteArray) (hs : s.size ≤ 1000000) (hp : Printed s) (w : World) :
    Calls Tryz.prog 33 #[.string s] w fun e w' => e = .returned (.bool true) ∧ w' = w := by
  obtain ⟨h0, h1, h2⟩ := hp
  have e1 : s.toList.isEmpty = false := by rw [isEmpty_iff]; exact decide_eq_false (by omega)
  by_cases hl : 1 < s.size
  · have hn : byteN s 0 ≠ 48 := fun c => h1 ⟨hl, c⟩
    rw [← byteN_get s 0 h0] at hn
    have e2 : ((s[0].toNat : Int) == 48) = false := by simp; omega
    have hl' : (1 : Int) < (s.size : Int) := by omega
    go_enter Tryz.func33, Tryz.ntmps33
    go_wp2_with fail
    go_loop [18] (fun t => ∃ k : Nat, k ≤ s.size ∧ t = .int .i64 k) (fun t => s.size - (intOf t).toNat)
    case atStart => exact ⟨0, Nat.zero_le _, rfl⟩
    case round =>
      obtain ⟨k, hk, rfl⟩ := hrel
      by_cases hlt : k < s.size
      · have b := h2 k hlt
        rw [← byteN_get s k hlt] at b
        have b1 : ¬ (s[k].toNat : Int) < 48 := by omega
        have b2 : ¬ 57 < (s[k].toNat : Int) := by omega
        have b3 : decide ((s[k].toNat : Int) < 48) = false := by simpa using b1
        have b4 : decide (57 < (s[k].toNat : Int)) = false := by simpa using b2
        have hki : (k : Int) < (s.size : Int) := by omega
        go_wp2
        go_round
        case rel => exact ⟨k + 1, by omega, by go_num⟩
        case measure => simp [intOf]; omega
      · have hki : ¬ (k : Int) < (s.size : Int) := by omega
        go_wp2
        go_ret
        exact ⟨rfl, rfl⟩
  · have hl' : decide ((1 : Int) < (s.size : Int)) = false := by simp; omega
    go_enter Tryz.func33, Tryz.ntmps33
    go_wp2_with fail
    go_loop [18] (fun t => ∃ k : Nat, k ≤ s.size ∧ t = .int .i64 k) (fun t => s.size - (intOf t).toNat)
    case atStart => exact ⟨0, Nat.zero_le _, rfl⟩
    case round =>
      obtain ⟨k, hk, rfl⟩ := hrel
      by_cases hlt : k < s.size
      · have b := h2 k hlt
        rw [← byteN_get s k hlt] at b
        have b1 : ¬ (s[k].toNat : Int) < 48 := by omega
        have b2 : ¬ 57 < (s[k].toNat : Int) := by omega
        have b3 : decide ((s[k].toNat : Int) < 48) = false := by simpa using b1
        have b4 : decide (57 < (s[k].toNat : Int)) = false := by simpa using b2
        have hki : (k : Int) < (s.size : Int) := by omega
        go_wp2
        go_round
        case rel => exact ⟨k + 1, by omega, by go_num⟩
        case measure => simp [intOf]; omega
      · have hki : ¬ (k : Int) < (s.size : Int) := by omega
        go_wp2
        go_ret
        exact ⟨rfl, rfl⟩

set_option maxRecDepth 100000 in
set_option maxHeartbeats 1000000 in
theorem printed_no (s : ByteArray) (hs : s.size ≤ 1000000) (hp : ¬ Printed s) (w : World) :
    Calls Tryz.prog 33 #[.string s] w fun e w' => e = .returned (.bool false) ∧ w' = w := by
  by_cases h0 : s.size = 0
  · have e1 : s.toList.isEmpty = true := by rw [isEmpty_iff]; exact decide_eq_true h0
    go_enter Tryz.func33, Tryz.ntmps33
    go_wp2
    go_ret
    exact ⟨rfl, rfl⟩
  · have e1 : s.toList.isEmpty = false := by rw [isEmpty_iff]; exact decide_eq_false h0
    have h0' : 0 < s.size := by omega
    by_cases hl : 1 < s.size ∧ byteN s 0 = 48
    · have hn := hl.2
      rw [← byteN_get s 0 h0'] at hn
      have e2 : ((s[0].toNat : Int) == 48) = true := by simp; omega
      have hl' : (1 : Int) < (s.size : Int) := by omega
      clear hn
      go_enter Tryz.func33, Tryz.ntmps33
      go_wp2
      go_ret
      exact ⟨rfl, rfl⟩
    · have bad : ∃ i, i < s.size ∧ ¬ (48 ≤ byteN s i ∧ byteN s i ≤ 57) := by
        apply Classical.byContradiction
        intro c
        exact hp ⟨h0', hl, fun i hi => Classical.byContradiction fun d => c ⟨i, hi, d⟩⟩
      obtain ⟨i, hi, hbad⟩ := bad
      by_cases hl1 : 1 < s.size
      · have hn : byteN s 0 ≠ 48 := fun c => hl ⟨hl1, c⟩
        rw [← byteN_get s 0 h0'] at hn
        have e2 : ((s[0].toNat : Int) == 48) = false := by simp; omega
        have hl' : (1 : Int) < (s.size : Int) := by omega
        clear hn
        go_enter Tryz.func33, Tryz.ntmps33
        go_wp2_with fail
        go_loop [18] (fun t => ∃ k : Nat, k ≤ i ∧ t = .int .i64 k) (fun t => s.size - (intOf t).toNat)
        case atStart => exact ⟨0, Nat.zero_le _, rfl⟩
        case round =>
          obtain ⟨k, hk, rfl⟩ := hrel
          have hlt : k < s.size := by omega
          have hki : (k : Int) < (s.size : Int) := by omega
          obtain ⟨b, hb⟩ : ∃ b : Nat, byteN s k = b := ⟨_, rfl⟩
          have bg := byteN_get s k hlt
          rw [hb] at bg
          have hkb : k = i → ¬ (48 ≤ b ∧ b ≤ 57) := fun e => by subst e; rw [← hb]; exact hbad
          clear hb
          by_cases c1 : (b : Int) < 48
          · have c1' : (s[k].toNat : Int) < 48 := by rw [bg]; exact c1
            clear bg c1
            go_wp2
            go_ret
            exact ⟨rfl, rfl⟩
          · have c1' : decide ((s[k].toNat : Int) < 48) = false := by rw [bg]; simpa using c1
            by_cases c2 : 57 < (b : Int)
            · have c2' : 57 < (s[k].toNat : Int) := by rw [bg]; exact c2
              clear bg c1 c2
              go_wp2
              go_ret
              exact ⟨rfl, rfl⟩
            · have c2' : decide (57 < (s[k].toNat : Int)) = false := by rw [bg]; simpa using c2
              have hne : k ≠ i := fun e => hkb e ⟨by omega, by omega⟩
              clear bg c1 c2
              go_wp2
              go_round
              case rel => exact ⟨k + 1, by omega, by go_num⟩
              case measure => simp [intOf]; omega
      · have hl' : decide ((1 : Int) < (s.size : Int)) = false := by simp; omega
        go_enter Tryz.func33, Tryz.ntmps33
        go_wp2_with fail
        go_loop [18] (fun t => ∃ k : Nat, k ≤ i ∧ t = .int .i64 k) (fun t => s.size - (intOf t).toNat)
        case atStart => exact ⟨0, Nat.zero_le _, rfl⟩
        case round =>
          obtain ⟨k, hk, rfl⟩ := hrel
          have hlt : k < s.size := by omega
          have hki : (k : Int) < (s.size : Int) := by omega
          obtain ⟨b, hb⟩ : ∃ b : Nat, byteN s k = b := ⟨_, rfl⟩
          have bg := byteN_get s k hlt
          rw [hb] at bg
          have hkb : k = i → ¬ (48 ≤ b ∧ b ≤ 57) := fun e => by subst e; rw [← hb]; exact hbad
          clear hb
          by_cases c1 : (b : Int) < 48
          · have c1' : (s[k].toNat : Int) < 48 := by rw [bg]; exact c1
            clear bg c1
            go_wp2
            go_ret
            exact ⟨rfl, rfl⟩
          · have c1' : decide ((s[k].toNat : Int) < 48) = false := by rw [bg]; simpa using c1
            by_cases c2 : 57 < (b : Int)
            · have c2' : 57 < (s[k].toNat : Int) := by rw [bg]; exact c2
              clear bg c1 c2
              go_wp2
              go_ret
              exact ⟨rfl, rfl⟩
            · have c2' : decide (57 < (s[k].toNat : Int)) = false := by rw [bg]; simpa using c2
              have hne : k ≠ i := fun e => hkb e ⟨by omega, by omega⟩
              clear bg c1 c2
              go_wp2
              go_round
              case rel => exact ⟨k + 1, by omega, by go_num⟩
              case measure => simp [intOf]; omega

/-- Block b holds the two words h, l and may be written. -/
def Own (w : World) (b : Nat) (h l : Int) : Prop := Two w b h l ∧ w.frozen? ⟨b, 0, none⟩ = false ∧ w.frozen? ⟨b, 1, none⟩ = false

theorem Own.below {W w1 : World} {b : Nat} {h l : Int} (x : Own W b h l) (hb : Below W.heap.size W w1) : Own w1 b h l :=
  ⟨x.1.below hb, (hb.frozen x.1.2.2).trans x.2.1, (hb.frozen x.1.2.2).trans x.2.2⟩

theorem Own.alloc {W : World} {b : Nat} {h l : Int} (x : Own W b h l) (o : Obj) : Own (W.alloc o) b h l :=
  ⟨x.1.alloc o, (World.frozen?_alloc_old _ _ _ (Nat.ne_of_lt x.1.2.2)).trans x.2.1, (World.frozen?_alloc_old _ _ _ (Nat.ne_of_lt x.1.2.2)).trans x.2.2⟩

theorem Own.drew {W : World} {b : Nat} {h l : Int} (x : Own W b h l) : Own W.drew b h l := x

theorem Own.new (W : World) (h l : Int) (t : TypeId) : Own (W.alloc (.cells #[.int .u64 h, .int .u64 l] t)) W.heap.size h l :=
  ⟨Two.new W h l t, by rw [World.frozen?_alloc_at _ _ _ _ rfl], by rw [World.frozen?_alloc_at _ _ _ _ rfl]⟩

theorem Own.put {w : World} {b : Nat} {h l h' l' : Int} (x : Own w b h l) : Own ((w.setCell ⟨b, 0, none⟩ (.int .u64 h')).setCell ⟨b, 1, none⟩ (.int .u64 l')) b h' l' :=
  ⟨Two.put (by rw [x.1.1]; rfl) (by rw [x.1.2.1]; rfl) x.1.2.2, by simpa using x.2.1, by simpa using x.2.2⟩

theorem Own.far {w : World} {b c : Nat} {h l : Int} {u v : Value} (x : Own w b h l) (hbc : b ≠ c) : Own ((w.setCell ⟨c, 0, none⟩ u).setCell ⟨c, 1, none⟩ v) b h l :=
  ⟨x.1.far hbc, by simpa using x.2.1, by simpa using x.2.2⟩
end Go.Proofs.YtipjmmhlfmahbaaGreatDoor

namespace Go.Proofs.YtipjmmhlfmahbaaGreatDoor
open Go.ChangeShapes Go.WideShapes Go.ChangeAt Go.RowKit
set_option linter.unusedVariables false
set_option linter.unusedSimpArgs false

/-- What the loops of both Parse functions keep. -/
def PS (w : World) (ba : Nat) (h l : Int) (wr : World) : Prop := Own wr w.heap.size 0 0 ∧ Own wr ba h l ∧ Below w.heap.size w wr

theorem PS.below {w W w1 : World} {ba : Nat} {h l : Int} (s : PS w ba h l W) (hb : Below W.heap.size W w1) : PS w ba h l w1 :=
  ⟨s.1.below hb, s.2.1.below hb, s.2.2.trans (hb.mono s.2.2.size)⟩

theorem PS.alloc {w W : World} {ba : Nat} {h l : Int} (s : PS w ba h l W) (o : Obj) : PS w ba h l (W.alloc o) := ⟨s.1.alloc o, s.2.1.alloc o, s.2.2.alloc (Nat.le_of_lt s.1.1.2.2) o⟩

theorem PS.drew {w W : World} {ba : Nat} {h l : Int} (s : PS w ba h l W) : PS w ba h l W.drew := ⟨s.1.drew, s.2.1.drew, s.2.2.drew⟩

theorem PS.far {w W : World} {ba c : Nat} {h l : Int} {u v : Value} (s : PS w ba h l W) (c1 : w.heap.size < c) (c2 : ba < c) : PS w ba h l ((W.setCell ⟨c, 0, none⟩ u).setCell ⟨c, 1, none⟩ v) :=
  ⟨s.1.far (by omega), s.2.1.far (by omega), (s.2.2.setCell (by show _ ≤ c; omega) _).setCell (by show _ ≤ c; omega) _⟩

theorem PS.put {w W : World} {ba : Nat} {h l h' l' : Int} (s : PS w ba h l W) (c1 : w.heap.size < ba) : PS w ba h' l' ((W.setCell ⟨ba, 0, none⟩ (.int .u64 h')).setCell ⟨ba, 1, none⟩ (.int .u64 l')) :=
  ⟨s.1.far (by omega), s.2.1.put, (s.2.2.setCell (by show _ ≤ ba; omega) _).setCell (by show _ ≤ ba; omega) _⟩

theorem PS.open {w W : World} {ba bt : Nat} {h l th tl : Int} (s : PS w ba h l W) (t : Two W bt th tl) :
    W.cell? ⟨bt, 0, none⟩ = some (.int .u64 th) ∧ W.cell? ⟨bt, 1, none⟩ = some (.int .u64 tl) ∧ Two W bt th tl ∧ PS w ba h l W := ⟨t.1, t.2.1, t, s⟩

def ParsePost (s : ByteArray) (w : World) (e : Ending) (w' : World) : Prop :=
  (∃ h l, e = .returned (.tuple #[nv h l, .int .i64 0]) ∧ IsNum h l (valN s s.size) ∧ Below w.heap.size w w') ∨
  (340282366920938463463374607431768211456 ≤ valN s s.size ∧ e = .returned (.tuple #[nv 0 0, .int .i64 11]) ∧ Below w.heap.size w w')

set_option maxRecDepth 100000 in
set_option maxHeartbeats 2000000 in
theorem parse_form (s : ByteArray) (hs : s.size ≤ 1000000) (hp : ¬ Printed s) (w : World) :
    Calls Tryz.prog 13 #[.string s] w fun e w' => e = .returned (.tuple #[nv 0 0, .int .i64 4]) ∧ Below w.heap.size w w' := by
  go_enter Tryz.func13, Tryz.ntmps13
  go_wp2_with fail
  refine (printed_no s hs hp _).mono ?_
  rintro e w1 ⟨rfl, rfl⟩
  go_wp2
  refine bodyPost_ret (v := .tuple #[nv 0 0, .int .i64 4]) (by simp [results, Tryz.results13, go_sem]) rfl ⟨rfl, by repeat (first | with_reducible exact Below.refl _ _ | with_reducible refine Below.drew ?_ | with_reducible refine Below.alloc ?_ (by first | omega | (simp <;> omega)) _ | with_reducible refine Below.setCell ?_ (by first | omega | (simp <;> omega)) _)⟩

set_option maxRecDepth 100000 in
set_option maxHeartbeats 2000000 in
theorem parse_long (s : ByteArray) (hs : s.size ≤ 1000000) (hp : Printed s) (hl : 39 < s.size) (w : World) :
    Calls Tryz.prog 13 #[.string s] w fun e w' => e = .returned (.tuple #[nv 0 0, .int .i64 11]) ∧ Below w.heap.size w w' := by
  have hli : (39 : Int) < (s.size : Int) := by omega
  go_enter Tryz.func13, Tryz.ntmps13
  go_wp2_with fail
  refine (printed_yes s hs hp _).mono ?_
  rintro e w1 ⟨rfl, rfl⟩
  go_wp2
  refine bodyPost_ret (v := .tuple #[nv 0 0, .int .i64 11]) (by simp [results, Tryz.results13, go_sem]) rfl ⟨rfl, by repeat (first | with_reducible exact Below.refl _ _ | with_reducible refine Below.drew ?_ | with_reducible refine Below.alloc ?_ (by first | omega | (simp <;> omega)) _ | with_reducible refine Below.setCell ?_ (by first | omega | (simp <;> omega)) _)⟩

set_option maxRecDepth 100000 in
set_option maxHeartbeats 4000000 in
theorem parse_dig (s : ByteArray) (hp : Printed s) (hl : s.size ≤ 39) (w : World) :
    Calls Tryz.prog 13 #[.string s] w fun e w' => ParsePost s w e w' := by
  have hli : decide ((39 : Int) < (s.size : Int)) = false := by simp; omega
  go_enter Tryz.func13, Tryz.ntmps13
  go_wp2_with fail
  refine (printed_yes s (by omega) hp _).mono ?_
  rintro e w1 ⟨rfl, rfl⟩
  go_wp2_with fail
  have T0 : PS w (w.heap.size + 1) 0 0 ((w.alloc (.cells #[.int .u64 0, .int .u64 0] 24)).alloc (.cells #[.int .u64 0, .int .u64 0] 24)) :=
    ⟨(Own.new _ _ _ _).alloc _, by simpa using Own.new (w.alloc (.cells #[.int .u64 0, .int .u64 0] 24)) 0 0 24, by repeat (first | with_reducible exact Below.refl _ _ | with_reducible refine Below.drew ?_ | with_reducible refine Below.alloc ?_ (by first | omega | (simp <;> omega)) _ | with_reducible refine Below.setCell ?_ (by first | omega | (simp <;> omega)) _)⟩
  go_loopw [20] (fun t wr => ∃ (k : Nat) (h l : Int), k ≤ s.size ∧ t = .int .i64 k ∧ IsNum h l (valN s k) ∧ PS w (w.heap.size + 1) h l wr) (fun t _ => s.size - (intOf t).toNat)
  case atStart => exact ⟨0, 0, 0, Nat.zero_le _, rfl, ⟨by omega, by omega, by omega, by omega, rfl⟩, T0⟩
  case round =>
    clear T0
    obtain ⟨k, h, l, hk, rfl, hv, S⟩ := hrel
    by_cases hlt : k < s.size
    · have hki : (k : Int) < (s.size : Int) := by omega
      have lv := hv.lt
      obtain ⟨b0, b1⟩ := hp.2.2 k hlt
      have bg := byteN_get s k hlt
      obtain ⟨c, hc⟩ : ∃ c : Nat, byteN s k = c := ⟨_, rfl⟩
      rw [hc] at b0 b1 bg
      have up : valN s (k + 1) = 10 * valN s k + (c - 48) := by rw [← hc]; rfl
      have mono := valN_mono s (show k + 1 ≤ s.size by omega)
      obtain ⟨v, hvv⟩ : ∃ v, valN s k = v := ⟨_, rfl⟩
      rw [hvv] at hv lv up
      obtain ⟨th, tl, ht⟩ := IsNum.ex (n := v * 10 % 340282366920938463463374607431768211456) (Nat.mod_lt _ (by decide))
      obtain ⟨f1, hf1⟩ : ∃ f1 : Bool, decide (v * 10 < 340282366920938463463374607431768211456) = f1 := ⟨_, rfl⟩
      have C1 : Hid (∀ w, Calls Tryz.prog 34 #[nv h l, .int .u64 10] w fun e w' => e = .returned (.tuple #[nv th tl, .bool f1]) ∧ Below w.heap.size w w') := fun w => by
        refine (times_c hv (by omega) (by omega) w).mono ?_
        rintro e w' ⟨h', l', b, rfl, rfl, hn, hb⟩
        obtain ⟨rfl, rfl⟩ := hn.uniq ht
        exact ⟨by rw [← hf1]; rfl, hb⟩
      obtain ⟨d, hd⟩ : ∃ d : Int, d = (c : Int) - 48 := ⟨_, rfl⟩
      have hdn : IsNum 0 d (c - 48) := ⟨by omega, by omega, by omega, by omega, by omega⟩
      obtain ⟨rh, rl, hr⟩ := IsNum.ex (n := (v * 10 % 340282366920938463463374607431768211456 + (c - 48)) % 340282366920938463463374607431768211456) (Nat.mod_lt _ (by decide))
      obtain ⟨f2, hf2⟩ : ∃ f2 : Bool, decide (v * 10 % 340282366920938463463374607431768211456 + (c - 48) < 340282366920938463463374607431768211456) = f2 := ⟨_, rfl⟩
      have C2 : Hid (∀ w, Calls Tryz.prog 35 #[nv th tl, nv 0 d] w fun e w' => e = .returned (.tuple #[nv rh rl, .bool f2]) ∧ Below w.heap.size w w') := fun w => by
        refine (add_c ht hdn w).mono ?_
        rintro e w' ⟨h', l', rfl, hn, hb⟩
        obtain ⟨rfl, rfl⟩ := hn.uniq hr
        exact ⟨by rw [← hf2], hb⟩
      have hw8 : IntKind.u8.wrap ((s[k].toNat : Int) - 48) = d := by
        rw [bg, hd]; simp [IntKind.wrap, IntKind.bits, IntKind.signed]; omega
      have hw64 : IntKind.u64.wrap d = d := by rw [IntKind.wrap_u64]; omega
      have db : 0 ≤ d ∧ d ≤ 9 := by omega
      have GOOD : Hid (f1 = true ∧ f2 = true → IsNum rh rl (valN s (k + 1))) := by
        rintro ⟨g1, g2⟩
        rw [← hf1] at g1
        rw [← hf2] at g2
        have g1 := of_decide_eq_true g1
        have g2 := of_decide_eq_true g2
        exact hr.cast (by rw [up]; omega)
      have BAD : Hid (f1 = false ∨ f2 = false → 340282366920938463463374607431768211456 ≤ valN s s.size) := by
        intro g
        rw [← hf1, ← hf2] at g
        have g : ¬ v * 10 < 340282366920938463463374607431768211456 ∨ ¬ v * 10 % 340282366920938463463374607431768211456 + (c - 48) < 340282366920938463463374607431768211456 := g.imp of_decide_eq_false of_decide_eq_false
        rw [up] at mono
        omega
      obtain ⟨⟨O0, O1, O2⟩, P0, P1⟩ := id S.2.1
      clear hc up mono hvv hf1 hf2 hr hdn ht hv lv bg b0 b1 hd
      go_wp2_with fail
      refine (C1.out _).mono ?_
      rintro e w3 ⟨rfl, hb3⟩
      have S3 := S.below hb3
      clear S hb3 O0 O1 O2 P0 P1 C1
      go_upto_region 10 with fail
      have S4 := S3.alloc (.cells #[.int .u64 th, .int .u64 tl] 24)
      have T4 : Two (w3.alloc (.cells #[.int .u64 th, .int .u64 tl] 24)) w3.heap.size th tl := Two.new _ _ _ _
      have lw3 : w.heap.size + 1 < w3.heap.size := S3.2.1.1.2.2
      go_cut [8, 9] (fun p t wc => ∃ bn : Nat, p = .pointer (some ⟨bn, 0, none⟩) ∧ t = .bool f2 ∧ Two wc bn rh rl ∧ PS w (w.heap.size + 1) h l wc)
      case first =>
        go_region_held (fun wx => wx.cell? ⟨w3.heap.size, 0, none⟩ = some (.int .u64 th) ∧ wx.cell? ⟨w3.heap.size, 1, none⟩ = some (.int .u64 tl) ∧ Two wx w3.heap.size th tl ∧ PS w (w.heap.size + 1) h l wx) (first | with_reducible exact S4.drew.open T4.drew | with_reducible exact hk7.open ht7 | with_reducible exact hk8.open ht8 | with_reducible exact (hk7.alloc _).open (ht7.alloc _) | with_reducible exact (hk8.alloc _).open (ht8.alloc _) | with_reducible exact (S4.alloc _).drew.open (T4.alloc _).drew | (with_reducible refine (hk8.far ?_ ?_).open (ht8.far ?_) <;> omega)) (first | (go_at_call 15; refine (of_w _ _).mono ?_; rintro e w7 ⟨rfl, hb7⟩; have hk7 := PS.below (And.right (And.right (And.right ‹_ ∧ _ ∧ Two _ _ _ _ ∧ PS _ _ _ _ _›))) hb7; have ht7 := Two.below (And.left (And.right (And.right ‹_ ∧ _ ∧ Two _ _ _ _ ∧ PS _ _ _ _ _›))) hb7; obtain ⟨hc7, hf7⟩ := bcell hb7; have lz := ht7.2.2; have ls := hb7.size; (try simp at ls); (try (have ly6 : w3.heap.size + 1 < w7.heap.size := (by omega)))) | (go_at_call 35; refine (C2.out _).mono ?_; rintro e w8 ⟨rfl, hb8⟩; have hk8 := PS.below (And.right (And.right (And.right ‹_ ∧ _ ∧ Two _ _ _ _ ∧ PS _ _ _ _ _›))) hb8; have ht8 := Two.below (And.left (And.right (And.right ‹_ ∧ _ ∧ Two _ _ _ _ ∧ PS _ _ _ _ _›))) hb8; obtain ⟨hc8, hf8⟩ := bcell hb8; have lz8 := ht8.2.2; have ls8 := hb8.size; (try simp at ls8); (try (have ly7 : w7.heap.size < w8.heap.size := (by omega)))))
        all_goals
          go_wp2_with fail
          go_meet
          case rel =>
            refine ⟨_, rfl, rfl, ?_, ?_⟩
            · first
                | with_reducible exact Two.new _ _ _ _
                | (with_reducible refine Two.put ?_ ?_ ?_; all_goals first | omega | (simp [hc8]; done) | (simp [hc8, hc7, ly6]; done))
            · first
                | with_reducible exact hk8.alloc _
                | (with_reducible refine hk8.far ?_ ?_ <;> omega)
      case rest =>
        obtain ⟨bn, rfl, rfl, N, S5⟩ := hcut
        clear S3 S4 T4 C2
        obtain ⟨N0, N1, N2⟩ := id N
        obtain ⟨⟨O0, O1, O2⟩, P0, P1⟩ := id S5.2.1
        obtain ⟨⟨R0, R1, R2⟩, Q0, Q1⟩ := id S5.1
        have hBc := S5.2.2
        cases f1 with
        | false =>
          have big := BAD.out (.inl rfl)
          clear GOOD BAD
          go_wp2
          refine bodyPost_ret (v := .tuple #[nv 0 0, .int .i64 11]) (by simp [results, Tryz.results13, go_sem, World.cell?_setCell_same', World.cell?_setCell_other, R0, R1]) rfl ?_
          exact .inr ⟨big, rfl, by repeat (first | with_reducible exact Below.refl _ _ | with_reducible refine Below.drew ?_ | with_reducible refine Below.alloc ?_ (by first | omega | (simp <;> omega)) _ | with_reducible refine Below.setCell ?_ (by first | omega | (simp <;> omega)) _ | with_reducible refine Below.trans ?_ (Below.mono hBc (by first | omega | (simp <;> omega))))⟩
        | true =>
          cases f2 with
          | false =>
            have big := BAD.out (.inr rfl)
            clear GOOD BAD
            go_wp2
            refine bodyPost_ret (v := .tuple #[nv 0 0, .int .i64 11]) (by simp [results, Tryz.results13, go_sem, World.cell?_setCell_same', World.cell?_setCell_other, R0, R1]) rfl ?_
            exact .inr ⟨big, rfl, by repeat (first | with_reducible exact Below.refl _ _ | with_reducible refine Below.drew ?_ | with_reducible refine Below.alloc ?_ (by first | omega | (simp <;> omega)) _ | with_reducible refine Below.setCell ?_ (by first | omega | (simp <;> omega)) _ | with_reducible refine Below.trans ?_ (Below.mono hBc (by first | omega | (simp <;> omega))))⟩
          | true =>
            have good := GOOD.out ⟨rfl, rfl⟩
            clear GOOD BAD
            go_wp2
            go_roundw
            case measure => simp [intOf]; omega
            case rel => exact ⟨k + 1, rh, rl, by omega, by go_num, good, S5.put (by omega)⟩
    · have hki : ¬ (k : Int) < (s.size : Int) := by omega
      have hv' : IsNum h l (valN s s.size) := hv.cast (by rw [show k = s.size by omega])
      obtain ⟨⟨O0, O1, O2⟩, P0, P1⟩ := id S.2.1
      obtain ⟨⟨R0, R1, R2⟩, Q0, Q1⟩ := id S.1
      have hBc := S.2.2
      go_wp2
      refine bodyPost_ret (v := .tuple #[nv h l, .int .i64 0]) (by simp [results, Tryz.results13, go_sem, World.cell?_setCell_same', World.cell?_setCell_other, R0, R1]) rfl ?_
      exact .inl ⟨h, l, rfl, hv', by repeat (first | with_reducible exact Below.refl _ _ | with_reducible refine Below.drew ?_ | with_reducible refine Below.alloc ?_ (by first | omega | (simp <;> omega)) _ | with_reducible refine Below.setCell ?_ (by first | omega | (simp <;> omega)) _ | with_reducible refine Below.trans ?_ (Below.mono hBc (by first | omega | (simp <;> omega))))⟩
end Go.Proofs.YtipjmmhlfmahbaaGreatDoor
