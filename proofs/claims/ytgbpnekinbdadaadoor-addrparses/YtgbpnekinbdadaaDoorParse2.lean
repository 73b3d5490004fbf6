/-
  num.Parse: what it returns for every text of up to 1000000 bytes.
-/
import Derived.Test.YtgbpnekinbdadaaDoorParse
import Derived.Outline
namespace Go.Proofs.YtgbpnekinbdadaaDoor
open Go.ChangeShapes Go.WideShapes Go.ChangeAt Go.RowKit
set_option linter.unusedVariables false
set_option linter.unusedSimpArgs false

/-- What the loops of both Parse functions keep. -/
def PS (w : World) (ba : Nat) (h l : Int) (wr : World) : Prop := Own wr w.heap.size 0 0 ∧ Own wr ba h l ∧ Below w.heap.size w wr
theorem PS.below {w W w1 : World} {ba : Nat} {h l : Int} (s : PS w ba h l W) (hb : Below W.heap.size W w1) : PS w ba h l w1 :=
  ⟨s.1.below hb, s.2.1.below hb, s.2.2.trans (hb.mono s.2.2.size)⟩
theorem PS.alloc {w W : World} {ba : Nat} {h l : Int} (s : PS w ba h l W) (o : Obj) : PS w ba h l (W.alloc o) := ⟨s.1.alloc o, s.2.1.alloc o, s.2.2.alloc (Nat.le_of_lt s.1.1.2.2) o⟩
theorem PS.drew {w W : World} {ba : Nat} {h l : Int} (s : PS w ba h l W) : PS w ba h l W.drew := ⟨s.1.drew, s.2.1.drew, s.2.2.drew⟩
theorem PS.far {w W : World} {ba c : Nat} {h l : Int} {u v : Value} (s : PS w ba h l W) (c1 : w.heap.size < c) (c2 : ba < c) : PS w ba h l ((W.setCell ⟨c, 0, none⟩ u).setCell ⟨c, 1, none⟩ v) :=
  ⟨s.1.far (by omega), s.2.1.far (by omega), (s.2.2.setCell (by show _ ≤ c; omega) _).setCell (by show _ ≤ c; omega) _⟩
theorem PS.put {w W : World} {ba : Nat} {h l h' l' : Int} (s : PS w ba h l W) (c1 : w.heap.size < ba) : PS w ba h' l' ((W.setCell ⟨ba, 0, none⟩ (.int .u64 h')).setCell ⟨ba, 1, none⟩ (.int .u64 l')) :=
  ⟨s.1.far (by omega), s.2.1.put, (s.2.2.setCell (by show _ ≤ ba; omega) _).setCell (by show _ ≤ ba; omega) _⟩
theorem PS.open {w W : World} {ba bt : Nat} {h l th tl : Int} (s : PS w ba h l W) (t : Two W bt th tl) :
    W.cell? ⟨bt, 0, none⟩ = some (.int .u64 th) ∧ W.cell? ⟨bt, 1, none⟩ = some (.int .u64 tl) ∧ Two W bt th tl ∧ PS w ba h l W := ⟨t.1, t.2.1, t, s⟩

def ParsePost (s : ByteArray) (w : World) (e : Ending) (w' : World) : Prop :=
  (∃ h l, e = .returned (.tuple #[nv h l, .int .i64 0]) ∧ IsNum h l (valN s s.size) ∧ Below w.heap.size w w') ∨
  (340282366920938463463374607431768211456 ≤ valN s s.size ∧ e = .returned (.tuple #[nv 0 0, .int .i64 11]) ∧ Below w.heap.size w w')

set_option maxRecDepth 100000 in
set_option maxHeartbeats 2000000 in
theorem parse_form (s : ByteArray) (hs : s.size ≤ 1000000) (hp : ¬ Printed s) (w : World) :
    Calls Tryd.prog 47 #[.string s] w fun e w' => e = .returned (.tuple #[nv 0 0, .int .i64 4]) ∧ Below w.heap.size w w' := by
  go_enter Tryd.func47, Tryd.ntmps47
  go_wp2_with fail
  refine (printed_no s hs hp _).mono ?_
  rintro e w1 ⟨rfl, rfl⟩
  go_wp2
  refine bodyPost_ret (v := .tuple #[nv 0 0, .int .i64 4]) (by simp [results, Tryd.results47, go_sem]) rfl ⟨rfl, by repeat (first | with_reducible exact Below.refl _ _ | with_reducible refine Below.drew ?_ | with_reducible refine Below.alloc ?_ (by first | omega | (simp <;> omega)) _ | with_reducible refine Below.setCell ?_ (by first | omega | (simp <;> omega)) _)⟩

set_option maxRecDepth 100000 in
set_option maxHeartbeats 2000000 in
theorem parse_long (s : ByteArray) (hs : s.size ≤ 1000000) (hp : Printed s) (hl : 39 < s.size) (w : World) :
    Calls Tryd.prog 47 #[.string s] w fun e w' => e = .returned (.tuple #[nv 0 0, .int .i64 11]) ∧ Below w.heap.size w w' := by
  have hli : (39 : Int) < (s.size : Int) := by omega
  go_enter Tryd.func47, Tryd.ntmps47
  go_wp2_with fail
  refine (printed_yes s hs hp _).mono ?_
  rintro e w1 ⟨rfl, rfl⟩
  go_wp2
  refine bodyPost_ret (v := .tuple #[nv 0 0, .int .i64 11]) (by simp [results, Tryd.results47, go_sem]) rfl ⟨rfl, by repeat (first | with_reducible exact Below.refl _ _ | with_reducible refine Below.drew ?_ | with_reducible refine Below.alloc ?_ (by first | omega | (simp <;> omega)) _ | with_reducible refine Below.setCell ?_ (by first | omega | (simp <;> omega)) _)⟩

set_option maxRecDepth 100000 in
set_option maxHeartbeats 4000000 in
theorem parse_dig (s : ByteArray) (hp : Printed s) (hl : s.size ≤ 39) (w : World) :
    Calls Tryd.prog 47 #[.string s] w fun e w' => ParsePost s w e w' := by
  have hli : decide ((39 : Int) < (s.size : Int)) = false := by simp; omega
  go_enter Tryd.func47, Tryd.ntmps47
  go_wp2_with fail
  refine (printed_yes s (by omega) hp _).mono ?_
  rintro e w1 ⟨rfl, rfl⟩
  go_wp2_with fail
  have T0 : PS w (w.heap.size + 1) 0 0 ((w.alloc (.cells #[.int .u64 0, .int .u64 0] 24)).alloc (.cells #[.int .u64 0, .int .u64 0] 24)) :=
    ⟨(Own.new _ _ _ _).alloc _, by simpa using Own.new (w.alloc (.cells #[.int .u64 0, .int .u64 0] 24)) 0 0 24, by repeat (first | with_reducible exact Below.refl _ _ | with_reducible refine Below.drew ?_ | with_reducible refine Below.alloc ?_ (by first | omega | (simp <;> omega)) _ | with_reducible refine Below.setCell ?_ (by first | omega | (simp <;> omega)) _)⟩
  go_loopw [20] (fun t wr => ∃ (k : Nat) (h l : Int), k ≤ s.size ∧ t = .int .i64 k ∧ IsNum h l (valN s k) ∧ PS w (w.heap.size + 1) h l wr) (fun t _ => s.size - (intOf t).toNat)
  case atStart => exact ⟨0, 0, 0, Nat.zero_le _, rfl, ⟨by omega, by omega, by omega, by omega, rfl⟩, T0⟩
  case round =>
    clear T0
    obtain ⟨k, h, l, hk, rfl, hv, S⟩ := hrel
    by_cases hlt : k < s.size
    · have hki : (k : Int) < (s.size : Int) := by omega
      have lv := hv.lt
      obtain ⟨b0, b1⟩ := hp.2.2 k hlt
      have bg := byteN_get s k hlt
      obtain ⟨c, hc⟩ : ∃ c : Nat, byteN s k = c := ⟨_, rfl⟩
      rw [hc] at b0 b1 bg
      have up : valN s (k + 1) = 10 * valN s k + (c - 48) := by rw [← hc]; rfl
      have mono := valN_mono s (show k + 1 ≤ s.size by omega)
      obtain ⟨v, hvv⟩ : ∃ v, valN s k = v := ⟨_, rfl⟩
      rw [hvv] at hv lv up
      obtain ⟨th, tl, ht⟩ := IsNum.ex (n := v * 10 % 340282366920938463463374607431768211456) (Nat.mod_lt _ (by decide))
      obtain ⟨f1, hf1⟩ : ∃ f1 : Bool, decide (v * 10 < 340282366920938463463374607431768211456) = f1 := ⟨_, rfl⟩
      have C1 : Hid (∀ w, Calls Tryd.prog 61 #[nv h l, .int .u64 10] w fun e w' => e = .returned (.tuple #[nv th tl, .bool f1]) ∧ Below w.heap.size w w') := fun w => by
        refine (times_c hv (by omega) (by omega) w).mono ?_
        rintro e w' ⟨h', l', b, rfl, rfl, hn, hb⟩
        obtain ⟨rfl, rfl⟩ := hn.uniq ht
        exact ⟨by rw [← hf1]; rfl, hb⟩
      obtain ⟨d, hd⟩ : ∃ d : Int, d = (c : Int) - 48 := ⟨_, rfl⟩
      have hdn : IsNum 0 d (c - 48) := ⟨by omega, by omega, by omega, by omega, by omega⟩
      obtain ⟨rh, rl, hr⟩ := IsNum.ex (n := (v * 10 % 340282366920938463463374607431768211456 + (c - 48)) % 340282366920938463463374607431768211456) (Nat.mod_lt _ (by decide))
      obtain ⟨f2, hf2⟩ : ∃ f2 : Bool, decide (v * 10 % 340282366920938463463374607431768211456 + (c - 48) < 340282366920938463463374607431768211456) = f2 := ⟨_, rfl⟩
      have C2 : Hid (∀ w, Calls Tryd.prog 62 #[nv th tl, nv 0 d] w fun e w' => e = .returned (.tuple #[nv rh rl, .bool f2]) ∧ Below w.heap.size w w') := fun w => by
        refine (add_c ht hdn w).mono ?_
        rintro e w' ⟨h', l', rfl, hn, hb⟩
        obtain ⟨rfl, rfl⟩ := hn.uniq hr
        exact ⟨by rw [← hf2], hb⟩
      have hw8 : IntKind.u8.wrap ((s[k].toNat : Int) - 48) = d := by
        rw [bg, hd]; simp [IntKind.wrap, IntKind.bits, IntKind.signed]; omega
      have hw64 : IntKind.u64.wrap d = d := by rw [IntKind.wrap_u64]; omega
      have db : 0 ≤ d ∧ d ≤ 9 := by omega
      have GOOD : Hid (f1 = true ∧ f2 = true → IsNum rh rl (valN s (k + 1))) := by
        rintro ⟨g1, g2⟩
        rw [← hf1] at g1
        rw [← hf2] at g2
        have g1 := of_decide_eq_true g1
        have g2 := of_decide_eq_true g2
        exact hr.cast (by rw [up]; omega)
      have BAD : Hid (f1 = false ∨ f2 = false → 340282366920938463463374607431768211456 ≤ valN s s.size) := by
        intro g
        rw [← hf1, ← hf2] at g
        have g : ¬ v * 10 < 340282366920938463463374607431768211456 ∨ ¬ v * 10 % 340282366920938463463374607431768211456 + (c - 48) < 340282366920938463463374607431768211456 := g.imp of_decide_eq_false of_decide_eq_false
        rw [up] at mono
        omega
      obtain ⟨⟨O0, O1, O2⟩, P0, P1⟩ := id S.2.1
      clear hc up mono hvv hf1 hf2 hr hdn ht hv lv bg b0 b1 hd
      go_wp2_with fail
      refine (C1.out _).mono ?_
      rintro e w3 ⟨rfl, hb3⟩
      have S3 := S.below hb3
      clear S hb3 O0 O1 O2 P0 P1 C1
      go_upto_region 10 with fail
      have S4 := S3.alloc (.cells #[.int .u64 th, .int .u64 tl] 24)
      have T4 : Two (w3.alloc (.cells #[.int .u64 th, .int .u64 tl] 24)) w3.heap.size th tl := Two.new _ _ _ _
      have lw3 : w.heap.size + 1 < w3.heap.size := S3.2.1.1.2.2
      go_cut [8, 9] (fun p t wc => ∃ bn : Nat, p = .pointer (some ⟨bn, 0, none⟩) ∧ t = .bool f2 ∧ Two wc bn rh rl ∧ PS w (w.heap.size + 1) h l wc)
      case first =>
        go_region_held (fun wx => wx.cell? ⟨w3.heap.size, 0, none⟩ = some (.int .u64 th) ∧ wx.cell? ⟨w3.heap.size, 1, none⟩ = some (.int .u64 tl) ∧ Two wx w3.heap.size th tl ∧ PS w (w.heap.size + 1) h l wx) (first | with_reducible exact S4.drew.open T4.drew | with_reducible exact hk7.open ht7 | with_reducible exact hk8.open ht8 | with_reducible exact (hk7.alloc _).open (ht7.alloc _) | with_reducible exact (hk8.alloc _).open (ht8.alloc _) | with_reducible exact (S4.alloc _).drew.open (T4.alloc _).drew | (with_reducible refine (hk8.far ?_ ?_).open (ht8.far ?_) <;> omega)) (first | (go_at_call 63; refine (of_w _ _).mono ?_; rintro e w7 ⟨rfl, hb7⟩; have hk7 := PS.below (And.right (And.right (And.right ‹_ ∧ _ ∧ Two _ _ _ _ ∧ PS _ _ _ _ _›))) hb7; have ht7 := Two.below (And.left (And.right (And.right ‹_ ∧ _ ∧ Two _ _ _ _ ∧ PS _ _ _ _ _›))) hb7; obtain ⟨hc7, hf7⟩ := bcell hb7; have lz := ht7.2.2; have ls := hb7.size; (try simp at ls); (try (have ly6 : w3.heap.size + 1 < w7.heap.size := (by omega)))) | (go_at_call 62; refine (C2.out _).mono ?_; rintro e w8 ⟨rfl, hb8⟩; have hk8 := PS.below (And.right (And.right (And.right ‹_ ∧ _ ∧ Two _ _ _ _ ∧ PS _ _ _ _ _›))) hb8; have ht8 := Two.below (And.left (And.right (And.right ‹_ ∧ _ ∧ Two _ _ _ _ ∧ PS _ _ _ _ _›))) hb8; obtain ⟨hc8, hf8⟩ := bcell hb8; have lz8 := ht8.2.2; have ls8 := hb8.size; (try simp at ls8); (try (have ly7 : w7.heap.size < w8.heap.size := (by omega)))))
        all_goals
          go_wp2_with fail
          go_meet
          case rel =>
            refine ⟨_, rfl, rfl, ?_, ?_⟩
            · first
                | with_reducible exact Two.new _ _ _ _
                | (with_reducible refine Two.put ?_ ?_ ?_; all_goals first | omega | (simp [hc8]; done) | (simp [hc8, hc7, ly6]; done))
            · first
                | with_reducible exact hk8.alloc _
                | (with_reducible refine hk8.far ?_ ?_ <;> omega)
      case rest =>
        obtain ⟨bn, rfl, rfl, N, S5⟩ := hcut
        clear S3 S4 T4 C2
        obtain ⟨N0, N1, N2⟩ := id N
        obtain ⟨⟨O0, O1, O2⟩, P0, P1⟩ := id S5.2.1
        obtain ⟨⟨R0, R1, R2⟩, Q0, Q1⟩ := id S5.1
        have hBc := S5.2.2
        cases f1 with
        | false =>
          have big := BAD.out (.inl rfl)
          clear GOOD BAD
          go_wp2
          refine bodyPost_ret (v := .tuple #[nv 0 0, .int .i64 11]) (by simp [results, Tryd.results47, go_sem, World.cell?_setCell_same', World.cell?_setCell_other, R0, R1]) rfl ?_
          exact .inr ⟨big, rfl, by repeat (first | with_reducible exact Below.refl _ _ | with_reducible refine Below.drew ?_ | with_reducible refine Below.alloc ?_ (by first | omega | (simp <;> omega)) _ | with_reducible refine Below.setCell ?_ (by first | omega | (simp <;> omega)) _ | with_reducible refine Below.trans ?_ (Below.mono hBc (by first | omega | (simp <;> omega))))⟩
        | true =>
          cases f2 with
          | false =>
            have big := BAD.out (.inr rfl)
            clear GOOD BAD
            go_wp2
            refine bodyPost_ret (v := .tuple #[nv 0 0, .int .i64 11]) (by simp [results, Tryd.results47, go_sem, World.cell?_setCell_same', World.cell?_setCell_other, R0, R1]) rfl ?_
            exact .inr ⟨big, rfl, by repeat (first | with_reducible exact Below.refl _ _ | with_reducible refine Below.drew ?_ | with_reducible refine Below.alloc ?_ (by first | omega | (simp <;> omega)) _ | with_reducible refine Below.setCell ?_ (by first | omega | (simp <;> omega)) _ | with_reducible refine Below.trans ?_ (Below.mono hBc (by first | omega | (simp <;> omega))))⟩
          | true =>
            have good := GOOD.out ⟨rfl, rfl⟩
            clear GOOD BAD
            go_wp2
            go_roundw
            case measure => simp [intOf]; omega
            case rel => exact ⟨k + 1, rh, rl, by omega, by go_num, good, S5.put (by omega)⟩
    · have hki : ¬ (k : Int) < (s.size : Int) := by omega
      have hv' : IsNum h l (valN s s.size) := hv.cast (by rw [show k = s.size by omega])
      obtain ⟨⟨O0, O1, O2⟩, P0, P1⟩ := id S.2.1
      obtain ⟨⟨R0, R1, R2⟩, Q0, Q1⟩ := id S.1
      have hBc := S.2.2
      go_wp2
      refine bodyPost_ret (v := .tuple #[nv h l, .int .i64 0]) (by simp [results, Tryd.results47, go_sem, World.cell?_setCell_same', World.cell?_setCell_other, R0, R1]) rfl ?_
      exact .inl ⟨h, l, rfl, hv', by repeat (first | with_reducible exact Below.refl _ _ | with_reducible refine Below.drew ?_ | with_reducible refine Below.alloc ?_ (by first | omega | (simp <;> omega)) _ | with_reducible refine Below.setCell ?_ (by first | omega | (simp <;> omega)) _ | with_reducible refine Below.trans ?_ (Below.mono hBc (by first | omega | (simp <;> omega))))⟩
end Go.Proofs.YtgbpnekinbdadaaDoor
