/-
  The reference's product.
-/
import Derived.Test.YtegbbankbcojkaaRefLen
import Derived.Test.YtegbbankbcojkaaRefAdd
import Derived.Deep.DeepCutAuto
import Derived.Deep.RegionHeld
namespace Go.Proofs.Ytegbbankbcojkaa
open Go.ChangeShapes Go.WideShapes Go.ChangeAt Go.RowKit
set_option linter.unusedVariables false
set_option linter.unusedSimpArgs false

/-- Block b holds the two words h, l and may be written. -/
def Own (w : World) (b : Nat) (h l : Int) : Prop := Two w b h l ∧ w.frozen? ⟨b, 0, none⟩ = false ∧ w.frozen? ⟨b, 1, none⟩ = false
theorem Own.below {W w1 : World} {b : Nat} {h l : Int} (x : Own W b h l) (hb : Below W.heap.size W w1) : Own w1 b h l :=
  ⟨x.1.below hb, (hb.frozen x.1.2.2).trans x.2.1, (hb.frozen x.1.2.2).trans x.2.2⟩
theorem Own.alloc {W : World} {b : Nat} {h l : Int} (x : Own W b h l) (o : Obj) : Own (W.alloc o) b h l :=
  ⟨x.1.alloc o, (World.frozen?_alloc_old _ _ _ (Nat.ne_of_lt x.1.2.2)).trans x.2.1, (World.frozen?_alloc_old _ _ _ (Nat.ne_of_lt x.1.2.2)).trans x.2.2⟩
theorem Own.drew {W : World} {b : Nat} {h l : Int} (x : Own W b h l) : Own W.drew b h l := x
theorem Own.new (W : World) (h l : Int) (t : TypeId) : Own (W.alloc (.cells #[.int .u64 h, .int .u64 l] t)) W.heap.size h l :=
  ⟨Two.new W h l t, by rw [World.frozen?_alloc_at _ _ _ _ rfl], by rw [World.frozen?_alloc_at _ _ _ _ rfl]⟩
theorem Own.put {w : World} {b : Nat} {h l h' l' : Int} (x : Own w b h l) : Own ((w.setCell ⟨b, 0, none⟩ (.int .u64 h')).setCell ⟨b, 1, none⟩ (.int .u64 l')) b h' l' :=
  ⟨Two.put (by rw [x.1.1]; rfl) (by rw [x.1.2.1]; rfl) x.1.2.2, by simpa using x.2.1, by simpa using x.2.2⟩
theorem Own.far {w : World} {b c : Nat} {h l : Int} {u v : Value} (x : Own w b h l) (hbc : b ≠ c) : Own ((w.setCell ⟨c, 0, none⟩ u).setCell ⟨c, 1, none⟩ v) b h l :=
  ⟨x.1.far hbc, by simpa using x.2.1, by simpa using x.2.2⟩
theorem BitRow.far {w : World} {g n a c : Nat} {u v : Value} (x : BitRow w g n a) (hc : g ≠ c) : BitRow ((w.setCell ⟨c, 0, none⟩ u).setCell ⟨c, 1, none⟩ v) g n a :=
  ⟨by have := x.1; simpa [World.setCell] using this, fun i hi => by
    rw [World.cell?_setCell_other _ _ _ _ (by simp [Ne.symm hc]), World.cell?_setCell_other _ _ _ _ (by simp [Ne.symm hc]), x.2 i hi]⟩

/-- What the loop of the product keeps. -/
def TS (w : World) (gx m bo : Nat) (ah al oh ol : Int) (wr : World) : Prop :=
  Own wr w.heap.size ah al ∧ Own wr bo oh ol ∧ Own wr (w.heap.size + 1) 0 0 ∧ BitRow wr gx 128 m ∧ Below w.heap.size w wr
theorem TS.below {w W w1 : World} {gx m bo : Nat} {ah al oh ol : Int} (s : TS w gx m bo ah al oh ol W) (hb : Below W.heap.size W w1) : TS w gx m bo ah al oh ol w1 :=
  ⟨s.1.below hb, s.2.1.below hb, s.2.2.1.below hb, s.2.2.2.1.below hb, s.2.2.2.2.trans (hb.mono s.2.2.2.2.size)⟩
theorem TS.alloc {w W : World} {gx m bo : Nat} {ah al oh ol : Int} (s : TS w gx m bo ah al oh ol W) (o : Obj) : TS w gx m bo ah al oh ol (W.alloc o) :=
  ⟨s.1.alloc o, s.2.1.alloc o, s.2.2.1.alloc o, s.2.2.2.1.alloc o, s.2.2.2.2.alloc (Nat.le_of_lt s.1.1.2.2) o⟩
theorem TS.drew {w W : World} {gx m bo : Nat} {ah al oh ol : Int} (s : TS w gx m bo ah al oh ol W) : TS w gx m bo ah al oh ol W.drew :=
  ⟨s.1.drew, s.2.1.drew, s.2.2.1.drew, s.2.2.2.1.drew, s.2.2.2.2.drew⟩

theorem TS.far {w W : World} {gx m bo c : Nat} {ah al oh ol : Int} {u v : Value} (s : TS w gx m bo ah al oh ol W) (c1 : w.heap.size + 1 < c) (c2 : bo < c) (c3 : gx < c) : TS w gx m bo ah al oh ol ((W.setCell ⟨c, 0, none⟩ u).setCell ⟨c, 1, none⟩ v) :=
  ⟨s.1.far (by omega), s.2.1.far (by omega), s.2.2.1.far (by omega), s.2.2.2.1.far (by omega), (s.2.2.2.2.setCell (by show _ ≤ c; omega) _).setCell (by show _ ≤ c; omega) _⟩
theorem TS.put {w W : World} {gx m bo : Nat} {ah al oh ol rh rl : Int} (s : TS w gx m bo ah al oh ol W) (c1 : w.heap.size + 1 < bo) (c3 : gx < bo) : TS w gx m bo ah al rh rl ((W.setCell ⟨bo, 0, none⟩ (.int .u64 rh)).setCell ⟨bo, 1, none⟩ (.int .u64 rl)) :=
  ⟨s.1.far (by omega), s.2.1.put, s.2.2.1.far (by omega), s.2.2.2.1.far (by omega), (s.2.2.2.2.setCell (by show _ ≤ bo; omega) _).setCell (by show _ ≤ bo; omega) _⟩
/-- The same, with the cells that are read laid open. -/
theorem TS.open {w W : World} {gx m bo : Nat} {ah al oh ol : Int} (s : TS w gx m bo ah al oh ol W) :
    W.cell? ⟨w.heap.size, 0, none⟩ = some (.int .u64 ah) ∧ W.cell? ⟨w.heap.size, 1, none⟩ = some (.int .u64 al) ∧ W.cell? ⟨bo, 0, none⟩ = some (.int .u64 oh) ∧ W.cell? ⟨bo, 1, none⟩ = some (.int .u64 ol) ∧ TS w gx m bo ah al oh ol W :=
  ⟨s.1.1.1, s.1.1.2.1, s.2.1.1.1, s.2.1.1.2.1, s⟩

theorem times_up (a m k : Nat) : a * (m % 2 ^ (k + 1)) = a * (m % 2 ^ k) + a * 2 ^ k * bitN m k := by
  rw [mod_up, Nat.mul_add, Nat.mul_assoc]

theorem fits_shift (a k : Nat) : a * 2 ^ k < 340282366920938463463374607431768211456 ↔ (Go.bitLen a + k ≤ 128 ∨ a = 0) := by
  obtain ⟨x, y⟩ := Go.bitLen_spec a
  have e : 2 ^ 128 = 340282366920938463463374607431768211456 := by decide
  rw [← e]
  constructor
  · intro h
    by_cases h0 : a = 0
    · exact .inr h0
    · left
      have z := y h0
      have : 2 ^ (Go.bitLen a - 1) * 2 ^ k ≤ a * 2 ^ k := Nat.mul_le_mul_right _ z
      rw [← Nat.pow_add] at this
      have := (Nat.pow_lt_pow_iff_right (a := 2) (by decide)).1 (Nat.lt_of_le_of_lt this h)
      omega
  · rintro (h | h)
    · have h1 : a * 2 ^ k < 2 ^ Go.bitLen a * 2 ^ k := Nat.mul_lt_mul_of_pos_right x (pow_pos2 _)
      rw [← Nat.pow_add] at h1
      have h2 : 2 ^ (Go.bitLen a + k) ≤ 2 ^ 128 := Nat.pow_le_pow_right (by decide) h
      omega
    · rw [h, Nat.zero_mul]; decide

def TimesPost (a m : Nat) (w : World) (e : Ending) (w' : World) : Prop :=
  ∃ h l t, e = .returned (.tuple #[nv h l, .bool t]) ∧ IsNum h l (a * m % 340282366920938463463374607431768211456) ∧ Hid (t = decide (a * m < 340282366920938463463374607431768211456)) ∧ Below w.heap.size w w'

set_option maxRecDepth 100000 in
set_option maxHeartbeats 4000000 in
theorem rtimes_w {ah al kk : Int} {a : Nat} (ha : IsNum ah al a) (k0 : 0 ≤ kk) (k1 : kk < 18446744073709551616) (w : World) :
    Calls Try.prog 15 #[nv ah al, .int .u64 kk] w fun e w' => TimesPost a kk.toNat w e w' := by
  have hm : IsNum 0 kk kk.toNat := ⟨by omega, by omega, k0, k1, by omega⟩
  obtain ⟨m, hmv⟩ : ∃ m : Nat, kk.toNat = m := ⟨_, rfl⟩
  rw [hmv] at hm
  rw [hmv]
  have m64 : m < 18446744073709551616 := by omega
  clear hmv
  have la := ha.lt
  obtain ⟨n, hn⟩ : ∃ n : Int, n = (Go.bitLen a : Nat) := ⟨_, rfl⟩
  have n1 : Go.bitLen a ≤ 128 := bitLen_le_of_lt (by rw [show 2 ^ 128 = 340282366920938463463374607431768211456 by decide]; exact la)
  have nb : 0 ≤ n ∧ n ≤ 128 := by omega
  have Hn : Hid (n = (Go.bitLen a : Nat)) := hn
  have CL : Hid (∀ w, Calls Try.prog 35 #[nv ah al] w fun e w' => e = .returned (.int .i64 n) ∧ Below w.heap.size w w') := fun w => by
    refine (rlen_c ha w).mono ?_
    rintro e w' ⟨m, rfl, hm, hb'⟩
    exact ⟨by rw [hm.out, hn], hb'⟩
  clear hn n1
  go_enter Try.func15, Try.ntmps15
  go_wp2_with fail
  have A : Own ((w.alloc (.cells #[.int .u64 ah, .int .u64 al] 24)).alloc (.cells #[.int .u64 0, .int .u64 0] 24)) w.heap.size ah al := (Own.new _ _ _ _).alloc _
  have R : Own ((w.alloc (.cells #[.int .u64 ah, .int .u64 al] 24)).alloc (.cells #[.int .u64 0, .int .u64 0] 24)) (w.heap.size + 1) 0 0 := by simpa using Own.new (w.alloc (.cells #[.int .u64 ah, .int .u64 al] 24)) 0 0 24
  refine (bits_c hm _).mono ?_
  rintro e w1 ⟨gx, cx, rfl, gx0, X, hb1⟩
  have hB1 : Below w.heap.size w w1 := by repeat (first | with_reducible exact Below.refl _ _ | with_reducible refine Below.drew ?_ | with_reducible refine Below.alloc ?_ (by first | omega | (simp <;> omega)) _ | with_reducible refine Below.setCell ?_ (by first | omega | (simp <;> omega)) _ | with_reducible refine Below.trans ?_ (Below.mono hb1 (by first | omega | (simp <;> omega))))
  replace A := A.below hb1
  replace R := R.below hb1
  clear hb1 gx0
  go_wp2_with fail
  have T0 : TS w gx m w1.heap.size ah al 0 0 (w1.alloc (.cells #[.int .u64 0, .int .u64 0] 24)) := ⟨A.alloc _, Own.new _ _ _ _, R.alloc _, X.alloc _, hB1.alloc (Nat.le_of_lt A.1.2.2) _⟩
  have d1 : w.heap.size + 1 < w1.heap.size := R.1.2.2
  have d2 : gx < w1.heap.size := X.1
  clear A R X hB1
  go_loopw [8, 9] (fun f i wr => ∃ (k : Nat) (t : Bool) (oh ol : Int), k ≤ 64 ∧ i = .int .i64 k ∧ f = .bool t ∧ Hid (t = decide (a * (m % 2 ^ k) < 340282366920938463463374607431768211456)) ∧ IsNum oh ol (a * (m % 2 ^ k) % 340282366920938463463374607431768211456) ∧ TS w gx m w1.heap.size ah al oh ol wr) (fun _ i _ => 64 - (intOf i).toNat)
  case atStart => exact ⟨0, true, 0, 0, by omega, rfl, rfl, by show _ = _; simp [Nat.mod_one], by simp only [Nat.pow_zero, Nat.mod_one, Nat.mul_zero]; exact ⟨by omega, by omega, by omega, by omega, by omega⟩, T0⟩
  case round =>
    clear T0
    obtain ⟨k, t, oh, ol, hk, rfl, rfl, HT, ho, S⟩ := hrel
    by_cases hlt : k < 64
    · have hki : (k : Int) < 64 := by omega
      have up := times_up a m k
      have bl := bitN_le m k
      obtain ⟨x, hx⟩ : ∃ x : Int, ((bitN m k : Nat) : Int) = x := ⟨_, rfl⟩
      have cx1 : wr.cell? ⟨gx, k, none⟩ = some (.int .i64 x) := by rw [S.2.2.2.1.2 k (by omega), hx]
      by_cases hb0 : bitN m k = 0
      · have hx0 : (x == 0) = true := by simp; omega
        have up' : a * (m % 2 ^ (k + 1)) = a * (m % 2 ^ k) := by rw [up, hb0]; simp
        rw [← up'] at ho
        have HT' : Hid (t = decide (a * (m % 2 ^ (k + 1)) < 340282366920938463463374607431768211456)) := by rw [up']; exact HT
        clear hx up up' HT hb0 bl
        go_wp2
        go_roundw
        case measure => simp [intOf]; omega
        case rel => exact ⟨k + 1, t, oh, ol, by omega, by go_num, rfl, HT', ho, S⟩
      · have hb1 : bitN m k = 1 := by omega
        have hx0 : (x == 0) = false := by simp; omega
        rw [hb1, Nat.mul_one] at up
        obtain ⟨f1, hf1⟩ : ∃ f1 : Bool, (t && decide (n + (k : Int) ≤ 128)) = f1 := ⟨_, rfl⟩
        obtain ⟨A0, A1, A2⟩ := id S.1.1
        clear hx hb0 hb1 bl
        go_upto_region 8 with fail
        go_cut [8] (fun f wc => f = .bool f1 ∧ TS w gx m w1.heap.size ah al oh ol wc)
        case first =>
          cases ht : t with
          | false =>
            subst ht
            have e1 : f1 = false := by rw [← hf1]; rfl
            subst e1
            clear hf1
            go_wp2
            go_meet
            case rel => exact ⟨rfl, S⟩
          | true =>
            subst ht
            have e1 : f1 = decide (n + (k : Int) ≤ 128) := by rw [← hf1]; rfl
            have HF : Hid (f1 = decide (n + (k : Int) ≤ 128)) := e1
            clear hf1 e1
            go_wp2_with fail
            refine (CL.out _).mono ?_
            rintro e w4 ⟨rfl, hb4⟩
            have S4 := S.below hb4
            go_wp2
            go_meet
            case rel => exact ⟨by rw [HF.out], S4⟩
        case rest =>
          obtain ⟨rfl, S2⟩ := hcut
          clear S A0 A1 A2 cx1
          obtain ⟨A0, A1, A2⟩ := id S2.1.1
          obtain ⟨O0, O1, O2⟩ := id S2.2.1.1
          obtain ⟨qh, ql, hq⟩ := IsNum.ex (n := a * 2 ^ k % 340282366920938463463374607431768211456) (Nat.mod_lt _ (by decide))
          obtain ⟨rh, rl, hr⟩ := IsNum.ex (n := (a * (m % 2 ^ k) % 340282366920938463463374607431768211456 + a * 2 ^ k % 340282366920938463463374607431768211456) % 340282366920938463463374607431768211456) (Nat.mod_lt _ (by decide))
          obtain ⟨ok, hok⟩ : ∃ ok : Bool, decide (a * (m % 2 ^ k) % 340282366920938463463374607431768211456 + a * 2 ^ k % 340282366920938463463374607431768211456 < 340282366920938463463374607431768211456) = ok := ⟨_, rfl⟩
          have C1 : Hid (∀ w, Calls Try.prog 36 #[nv ah al, .int .i64 (k : Int)] w fun e w' => e = .returned (nv qh ql) ∧ Below w.heap.size w w') := fun w => by
            refine (rshift_c ha (by omega : 0 ≤ (k : Int)) (by omega) w).mono ?_
            rintro e w' ⟨h, l, rfl, hn', hb'⟩
            rw [Int.toNat_natCast] at hn'
            obtain ⟨rfl, rfl⟩ := hn'.uniq hq
            exact ⟨rfl, hb'⟩
          have C2 : Hid (∀ w, Calls Try.prog 9 #[nv oh ol, nv qh ql] w fun e w' => e = .returned (.tuple #[nv rh rl, .bool ok]) ∧ Below w.heap.size w w') := fun w => by
            refine (radd_c ho hq w).mono ?_
            rintro e w' ⟨h, l, t', rfl, hn', ht', hb'⟩
            obtain ⟨rfl, rfl⟩ := hn'.uniq hr
            exact ⟨by rw [ht'.out, hok], hb'⟩
          have hr' : IsNum rh rl (a * (m % 2 ^ (k + 1)) % 340282366920938463463374607431768211456) := hr.cast (by rw [up]; exact (Nat.add_mod _ _ _).symm)
          have HT' : Hid ((f1 && ok) = decide (a * (m % 2 ^ (k + 1)) < 340282366920938463463374607431768211456)) := by
            have e1 := HT.out
            have e2 := Hn.out
            have fs := fits_shift a k
            show _ = _
            rw [← hf1, ← hok, e1, up, Bool.eq_iff_iff]
            simp only [Bool.and_eq_true, decide_eq_true_eq]
            generalize a * (m % 2 ^ k) = y at *
            generalize hz : a * 2 ^ k = z at *
            constructor
            · rintro ⟨⟨c1, c2⟩, c3⟩
              have : z < 340282366920938463463374607431768211456 := fs.2 (.inl (by omega))
              rw [Nat.mod_eq_of_lt c1, Nat.mod_eq_of_lt this] at c3
              exact c3
            · intro c
              have c4 := fs.1 (by omega)
              rw [Nat.mod_eq_of_lt (by omega), Nat.mod_eq_of_lt (by omega)]
              refine ⟨⟨by omega, ?_⟩, c⟩
              rcases c4 with c4 | c4
              · omega
              · have : Go.bitLen a = 0 := by rw [c4]; rfl
                omega
          clear hok hf1 HT ho hq hr up
          go_wp2_with fail
          go_upto_region 9 with fail
          go_cut [10, 11] (fun p t wc => ∃ bn : Nat, p = .pointer (some ⟨bn, 0, none⟩) ∧ t = .bool ok ∧ Two wc bn rh rl ∧ TS w gx m w1.heap.size ah al oh ol wc)
          case first =>
            go_region_held (fun wx => wx.cell? ⟨w.heap.size, 0, none⟩ = some (.int .u64 ah) ∧ wx.cell? ⟨w.heap.size, 1, none⟩ = some (.int .u64 al) ∧ wx.cell? ⟨w1.heap.size, 0, none⟩ = some (.int .u64 oh) ∧ wx.cell? ⟨w1.heap.size, 1, none⟩ = some (.int .u64 ol) ∧ TS w gx m w1.heap.size ah al oh ol wx) (first | with_reducible exact S2.drew.open | with_reducible exact hk6.open | with_reducible exact hk7.open | with_reducible exact (hk6.alloc _).open | with_reducible exact (hk7.alloc _).open | with_reducible exact (S2.alloc _).drew.open | (with_reducible refine (hk7.far ?_ ?_ ?_).open <;> omega)) (first | (go_at_call 36; refine (C1.out _).mono ?_; rintro e w6 ⟨rfl, hb6⟩; have hk6 := TS.below (And.right (And.right (And.right (And.right ‹_ ∧ _ ∧ _ ∧ _ ∧ TS _ _ _ _ _ _ _ _ _›)))) hb6; obtain ⟨hc6, hf6⟩ := bcell hb6; have lz := hk6.2.1.1.2.2; have ls := hb6.size; (try simp at ls); (try (have ly6 : wc.heap.size < w6.heap.size := (by omega)))) | (go_at_call 9; refine (C2.out _).mono ?_; rintro e w7 ⟨rfl, hb7⟩; have hk7 := TS.below (And.right (And.right (And.right (And.right ‹_ ∧ _ ∧ _ ∧ _ ∧ TS _ _ _ _ _ _ _ _ _›)))) hb7; obtain ⟨hc7, hf7⟩ := bcell hb7; have lz7 := hk7.2.1.1.2.2; have ls7 := hb7.size; (try simp at ls7); (try (have ly7 : w6.heap.size < w7.heap.size := (by omega)))))
            all_goals
              go_wp2_with fail
              go_meet
              case rel =>
                refine ⟨_, rfl, rfl, ?_, ?_⟩
                · first
                    | with_reducible exact Two.new _ _ _ _
                    | (with_reducible refine Two.put ?_ ?_ ?_; all_goals first | omega | (simp [hc7]; done) | (simp [hc7, hc6, ly6]; done))
                · first
                    | with_reducible exact hk7.alloc _
                    | (with_reducible refine hk7.far ?_ ?_ ?_ <;> omega)
          case rest =>
            obtain ⟨bn, rfl, rfl, N, S3⟩ := hcut
            clear A0 A1 A2 O0 O1 O2 S2 C1 C2
            obtain ⟨N0, N1, N2⟩ := id N
            obtain ⟨⟨O0, O1, O2⟩, P0, P1⟩ := id S3.2.1
            cases f1 with
            | false =>
              go_wp2
              go_roundw
              case measure => simp [intOf]; omega
              case rel => exact ⟨k + 1, false, rh, rl, by omega, by go_num, rfl, HT', hr', S3.put d1 d2⟩
            | true =>
              go_wp2
              go_roundw
              case measure => simp [intOf]; omega
              case rel => exact ⟨k + 1, ok, rh, rl, by omega, by go_num, rfl, HT', hr', S3.put d1 d2⟩
    · have hki : ¬ (k : Int) < 64 := by omega
      have k64 : k = 64 := by omega
      have mm : m % 2 ^ k = m := by rw [k64]; exact Nat.mod_eq_of_lt m64
      rw [mm] at ho
      have HT' : Hid (t = decide (a * m < 340282366920938463463374607431768211456)) := by have := HT.out; rw [mm] at this; exact this
      obtain ⟨O0, O1, O2⟩ := id S.2.1.1
      obtain ⟨⟨R0, R1, R2⟩, Q0, Q1⟩ := id S.2.2.1
      have hBr := S.2.2.2.2
      clear HT mm k64
      go_wp2
      refine bodyPost_ret (v := .tuple #[nv oh ol, .bool t]) (by simp [results, Try.results15, go_sem, World.cell?_setCell_same', World.cell?_setCell_other, R0, R1]) rfl ?_
      unfold TimesPost
      exact ⟨oh, ol, t, rfl, ho, HT', by repeat (first | with_reducible exact Below.refl _ _ | with_reducible refine Below.drew ?_ | with_reducible refine Below.alloc ?_ (by first | omega | (simp <;> omega)) _ | with_reducible refine Below.setCell ?_ (by first | omega | (simp <;> omega)) _ | with_reducible refine Below.trans ?_ (Below.mono hBr (by first | omega | (simp <;> omega))))⟩

theorem rtimes_c {ah al kk : Int} {a : Nat} (ha : IsNum ah al a) (k0 : 0 ≤ kk) (k1 : kk < 18446744073709551616) (w : World) :
    Calls Try.prog 15 #[nv ah al, .int .u64 kk] w fun e w' => ∃ h l t, e = .returned (.tuple #[nv h l, .bool t]) ∧ IsNum h l (a * kk.toNat % 340282366920938463463374607431768211456) ∧ Hid (t = decide (a * kk.toNat < 340282366920938463463374607431768211456)) ∧ Below w.heap.size w w' :=
  (rtimes_w ha k0 k1 w).mono fun e w' h => h
end Go.Proofs.Ytegbbankbcojkaa
