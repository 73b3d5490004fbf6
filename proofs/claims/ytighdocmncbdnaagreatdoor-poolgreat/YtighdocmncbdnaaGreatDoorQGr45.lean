/-
  Texts Po4, Po5, Po6 of the proof.
-/
import Derived.Test.YtighdocmncbdnaaGreatDoorQGr44

namespace Go.Proofs.YtighdocmncbdnaaGreatDoor
open Go.ChangeShapes Go.WideShapes Go.ChangeAt Go.RowKit
set_option linter.unusedVariables false
set_option linter.unusedSimpArgs false

theorem number_c {v s : Bool} {h l b ah al : Int} {x a g n m : Nat} {f : Nat → Bool} (hp : IsNum h l n) (ha : IsNum ah al m) (h0 : 0 < szP v n b) (w : World) (P : PoAt w v h l b x a g (szP v n b) f) :
    Calls Tryz.prog 69 #[.pointer (some ⟨x, 0, none⟩), av s ah al] w fun e w' => e = .returned (.tuple #[.int .i64 (nmI (nmP v n b s m)), .int .i64 (nmE (nmP v n b s m))]) ∧ Below w.heap.size w w' := by
  have ok := szP_ok h0
  have le := szP_le (v := v) (n := n) (b := b)
  have nN : IsNum 0 (szP v n b : Int) (szP v n b) := ⟨by omega, by omega, by omega, by omega, by omega⟩
  cases hh : hasB v n b s m
  · have e : nmP v n b s m = none := by unfold nmP; rw [if_neg (by rw [hh]; simp)]
    rw [e]
    exact numb_any h0 w P (fun w' => number_range hp ha ok hh w') (fun w' P' => kept_c hp h0 w' P') (Or.inl ⟨rfl, rfl⟩)
  · obtain rfl := (has_parts hh).1
    obtain ⟨rh, rl, hr⟩ := IsNum.ex (n := m - n) (Nat.lt_of_le_of_lt (Nat.sub_le _ _) ha.lt)
    refine numb_any h0 w P (fun w' => number_ok hp ha hh hr w') (fun w' P' => kept_c hp h0 w' P') (Or.inr ⟨rfl, _, fun w' => num_cmp hr nN rfl w', ?_⟩)
    by_cases c1 : m - n < szP v n b
    · refine Or.inr (Or.inr ⟨cmpI_lt (by omega), m - n, c1, ?_, ?_⟩)
      · obtain ⟨x1, x2, x3, x4, x5⟩ := hr
        omega
      · cases hk : kpF (lkP v b) (szP v n b) (m - n)
        · exact Or.inr ⟨rfl, by unfold nmP; rw [if_pos ⟨hh, c1, hk⟩]⟩
        · exact Or.inl ⟨rfl, by unfold nmP; rw [if_neg (by rw [hk]; simp)]⟩
    · have e : nmP v n b v m = none := by unfold nmP; rw [if_neg (fun c => c1 c.2.1)]
      rw [e]
      by_cases c2 : m - n = szP v n b
      · exact Or.inl ⟨cmpI_eq (by omega), rfl⟩
      · exact Or.inr (Or.inl ⟨cmpI_gt (by omega), rfl⟩)

set_option maxHeartbeats 800000 in
theorem poTake_no {s : Bool} {ah al i c : Int} {p : Value} (hc : ¬ c = 0) (w : World) (NB : Hid (∀ w', Below w.heap.size w w' → Calls Tryz.prog 69 #[p, av s ah al] w' fun e w1 => e = .returned (.tuple #[.int .i64 i, .int .i64 c]) ∧ Below w'.heap.size w' w1)) :
    Calls Tryz.prog 33 #[p, av s ah al] w fun e w' => e = .returned (.int .i64 c) ∧ Below w.heap.size w w' := by
  go_enter Tryz.func33, Tryz.ntmps33
  go_wp2_with fail
  refine (NB.out _ (by repeat (first | with_reducible exact Below.refl _ _ | with_reducible refine Below.drew ?_ | with_reducible refine Below.alloc ?_ (by first | omega | (simp <;> omega)) _ | with_reducible refine Below.setCell ?_ (by first | omega | (simp <;> omega)) _))).mono ?_
  rintro e w1 ⟨rfl, hb⟩
  have B : Below w.heap.size w w1 := by repeat (first | with_reducible exact Below.refl _ _ | with_reducible refine Below.drew ?_ | with_reducible refine Below.alloc ?_ (by first | omega | (simp <;> omega)) _ | with_reducible refine Below.setCell ?_ (by first | omega | (simp <;> omega)) _ | with_reducible refine Below.trans ?_ (Below.mono hb (by first | omega | (simp <;> omega))))
  have hs := B.size
  clear NB hb
  go_wp2
  go_ret
  exact ⟨rfl, by repeat (first | with_reducible exact Below.refl _ _ | with_reducible refine Below.drew ?_ | with_reducible refine Below.alloc ?_ (by first | omega | (simp <;> omega)) _ | with_reducible refine Below.setCell ?_ (by first | omega | (simp <;> omega)) _ | with_reducible refine Below.trans ?_ (Below.mono B (by first | omega | (simp <;> omega))))⟩

set_option maxHeartbeats 800000 in
theorem poFree_no {s : Bool} {ah al i c : Int} {p : Value} (hc : ¬ c = 0) (w : World) (NB : Hid (∀ w', Below w.heap.size w w' → Calls Tryz.prog 69 #[p, av s ah al] w' fun e w1 => e = .returned (.tuple #[.int .i64 i, .int .i64 c]) ∧ Below w'.heap.size w' w1)) :
    Calls Tryz.prog 38 #[p, av s ah al] w fun e w' => e = .returned (.int .i64 c) ∧ Below w.heap.size w w' := by
  go_enter Tryz.func38, Tryz.ntmps38
  go_wp2_with fail
  refine (NB.out _ (by repeat (first | with_reducible exact Below.refl _ _ | with_reducible refine Below.drew ?_ | with_reducible refine Below.alloc ?_ (by first | omega | (simp <;> omega)) _ | with_reducible refine Below.setCell ?_ (by first | omega | (simp <;> omega)) _))).mono ?_
  rintro e w1 ⟨rfl, hb⟩
  have B : Below w.heap.size w w1 := by repeat (first | with_reducible exact Below.refl _ _ | with_reducible refine Below.drew ?_ | with_reducible refine Below.alloc ?_ (by first | omega | (simp <;> omega)) _ | with_reducible refine Below.setCell ?_ (by first | omega | (simp <;> omega)) _ | with_reducible refine Below.trans ?_ (Below.mono hb (by first | omega | (simp <;> omega))))
  have hs := B.size
  clear NB hb
  go_wp2
  go_ret
  exact ⟨rfl, by repeat (first | with_reducible exact Below.refl _ _ | with_reducible refine Below.drew ?_ | with_reducible refine Below.alloc ?_ (by first | omega | (simp <;> omega)) _ | with_reducible refine Below.setCell ?_ (by first | omega | (simp <;> omega)) _ | with_reducible refine Below.trans ?_ (Below.mono B (by first | omega | (simp <;> omega))))⟩

set_option maxHeartbeats 800000 in
theorem poHas_no {s : Bool} {ah al i c : Int} {p : Value} (hc : ¬ c = 0) (w : World) (NB : Hid (∀ w', Below w.heap.size w w' → Calls Tryz.prog 69 #[p, av s ah al] w' fun e w1 => e = .returned (.tuple #[.int .i64 i, .int .i64 c]) ∧ Below w'.heap.size w' w1)) :
    Calls Tryz.prog 26 #[p, av s ah al] w fun e w' => e = .returned (.bool false) ∧ Below w.heap.size w w' := by
  go_enter Tryz.func26, Tryz.ntmps26
  go_wp2_with fail
  refine (NB.out _ (by repeat (first | with_reducible exact Below.refl _ _ | with_reducible refine Below.drew ?_ | with_reducible refine Below.alloc ?_ (by first | omega | (simp <;> omega)) _ | with_reducible refine Below.setCell ?_ (by first | omega | (simp <;> omega)) _))).mono ?_
  rintro e w1 ⟨rfl, hb⟩
  have B : Below w.heap.size w w1 := by repeat (first | with_reducible exact Below.refl _ _ | with_reducible refine Below.drew ?_ | with_reducible refine Below.alloc ?_ (by first | omega | (simp <;> omega)) _ | with_reducible refine Below.setCell ?_ (by first | omega | (simp <;> omega)) _ | with_reducible refine Below.trans ?_ (Below.mono hb (by first | omega | (simp <;> omega))))
  have hs := B.size
  clear NB hb
  go_wp2
  go_ret
  exact ⟨rfl, by repeat (first | with_reducible exact Below.refl _ _ | with_reducible refine Below.drew ?_ | with_reducible refine Below.alloc ?_ (by first | omega | (simp <;> omega)) _ | with_reducible refine Below.setCell ?_ (by first | omega | (simp <;> omega)) _ | with_reducible refine Below.trans ?_ (Below.mono B (by first | omega | (simp <;> omega))))⟩

set_option maxHeartbeats 1600000 in
theorem poTake_ok {v s : Bool} {h l b ah al : Int} {x a g N i : Nat} {f : Nat → Bool} (w : World) (P0 : PoAt w v h l b x a g N f) (NB : Hid (∀ w', Below w.heap.size w w' → Calls Tryz.prog 69 #[.pointer (some ⟨x, 0, none⟩), av s ah al] w' fun e w1 => e = .returned (.tuple #[.int .i64 i, .int .i64 0]) ∧ Below w'.heap.size w' w1)) :
    Calls Tryz.prog 33 #[.pointer (some ⟨x, 0, none⟩), av s ah al] w fun e w' => e = .returned (.int .i64 (putV N f i)) ∧ PoAt w' v h l b x a g N (putF N f i) ∧ But [g] w.heap.size w w' := by
  have PH := hide P0
  clear P0
  go_enter Tryz.func33, Tryz.ntmps33
  go_wp2_with fail
  refine (NB.out _ (by repeat (first | with_reducible exact Below.refl _ _ | with_reducible refine Below.drew ?_ | with_reducible refine Below.alloc ?_ (by first | omega | (simp <;> omega)) _ | with_reducible refine Below.setCell ?_ (by first | omega | (simp <;> omega)) _))).mono ?_
  rintro e w1 ⟨rfl, hb⟩
  have B : Below w.heap.size w w1 := by repeat (first | with_reducible exact Below.refl _ _ | with_reducible refine Below.drew ?_ | with_reducible refine Below.alloc ?_ (by first | omega | (simp <;> omega)) _ | with_reducible refine Below.setCell ?_ (by first | omega | (simp <;> omega)) _ | with_reducible refine Below.trans ?_ (Below.mono hb (by first | omega | (simp <;> omega))))
  have P1 := PH.out.below B
  obtain ⟨x0, x1, x2, x3, x4, xl⟩ := P1.hd.five
  have BH := hide B
  have PT := hide (put_any a g N f i w1 P1.m)
  have PH1 := hide P1
  clear NB hb B P1 PH
  go_wp2_with fail
  refine PT.out.mono ?_
  rintro e w2 ⟨rfl, hM, hK⟩
  have P2 := hide (PH1.out.turn hM hK)
  have K2 : Hid (But [g] w.heap.size w w2) := (But.of BH.out (Nat.le_refl _)).trans (hK.mono BH.out.size (fun x hx _ => hx))
  clear hM hK PT PH1 BH
  go_wp2
  go_ret
  exact ⟨rfl, P2.out, K2.out⟩

set_option maxHeartbeats 1600000 in
theorem poFree_ok {v s : Bool} {h l b ah al : Int} {x a g N i : Nat} {f : Nat → Bool} (w : World) (P0 : PoAt w v h l b x a g N f) (NB : Hid (∀ w', Below w.heap.size w w' → Calls Tryz.prog 69 #[.pointer (some ⟨x, 0, none⟩), av s ah al] w' fun e w1 => e = .returned (.tuple #[.int .i64 i, .int .i64 0]) ∧ Below w'.heap.size w' w1)) :
    Calls Tryz.prog 38 #[.pointer (some ⟨x, 0, none⟩), av s ah al] w fun e w' => e = .returned (.int .i64 (dropV N f i)) ∧ PoAt w' v h l b x a g N (dropF N f i) ∧ But [g] w.heap.size w w' := by
  have PH := hide P0
  clear P0
  go_enter Tryz.func38, Tryz.ntmps38
  go_wp2_with fail
  refine (NB.out _ (by repeat (first | with_reducible exact Below.refl _ _ | with_reducible refine Below.drew ?_ | with_reducible refine Below.alloc ?_ (by first | omega | (simp <;> omega)) _ | with_reducible refine Below.setCell ?_ (by first | omega | (simp <;> omega)) _))).mono ?_
  rintro e w1 ⟨rfl, hb⟩
  have B : Below w.heap.size w w1 := by repeat (first | with_reducible exact Below.refl _ _ | with_reducible refine Below.drew ?_ | with_reducible refine Below.alloc ?_ (by first | omega | (simp <;> omega)) _ | with_reducible refine Below.setCell ?_ (by first | omega | (simp <;> omega)) _ | with_reducible refine Below.trans ?_ (Below.mono hb (by first | omega | (simp <;> omega))))
  have P1 := PH.out.below B
  obtain ⟨x0, x1, x2, x3, x4, xl⟩ := P1.hd.five
  have BH := hide B
  have PT := hide (drop_any a g N f i w1 P1.m)
  have PH1 := hide P1
  clear NB hb B P1 PH
  go_wp2_with fail
  refine PT.out.mono ?_
  rintro e w2 ⟨rfl, hM, hK⟩
  have P2 := hide (PH1.out.turn hM hK)
  have K2 : Hid (But [g] w.heap.size w w2) := (But.of BH.out (Nat.le_refl _)).trans (hK.mono BH.out.size (fun x hx _ => hx))
  clear hM hK PT PH1 BH
  go_wp2
  go_ret
  exact ⟨rfl, P2.out, K2.out⟩

set_option maxHeartbeats 1600000 in
theorem poHas_ok {v s : Bool} {h l b ah al : Int} {x a g N i : Nat} {f : Nat → Bool} (hi : i < N) (w : World) (P0 : PoAt w v h l b x a g N f) (NB : Hid (∀ w', Below w.heap.size w w' → Calls Tryz.prog 69 #[.pointer (some ⟨x, 0, none⟩), av s ah al] w' fun e w1 => e = .returned (.tuple #[.int .i64 i, .int .i64 0]) ∧ Below w'.heap.size w' w1)) :
    Calls Tryz.prog 26 #[.pointer (some ⟨x, 0, none⟩), av s ah al] w fun e w' => e = .returned (.bool (f i)) ∧ Below w.heap.size w w' := by
  have PH := hide P0
  clear P0
  go_enter Tryz.func26, Tryz.ntmps26
  go_wp2_with fail
  refine (NB.out _ (by repeat (first | with_reducible exact Below.refl _ _ | with_reducible refine Below.drew ?_ | with_reducible refine Below.alloc ?_ (by first | omega | (simp <;> omega)) _ | with_reducible refine Below.setCell ?_ (by first | omega | (simp <;> omega)) _))).mono ?_
  rintro e w1 ⟨rfl, hb⟩
  have B : Below w.heap.size w w1 := by repeat (first | with_reducible exact Below.refl _ _ | with_reducible refine Below.drew ?_ | with_reducible refine Below.alloc ?_ (by first | omega | (simp <;> omega)) _ | with_reducible refine Below.setCell ?_ (by first | omega | (simp <;> omega)) _ | with_reducible refine Below.trans ?_ (Below.mono hb (by first | omega | (simp <;> omega))))
  have P1 := PH.out.below B
  obtain ⟨x0, x1, x2, x3, x4, xl⟩ := P1.hd.five
  have BH := hide B
  have PT := hide (bhas_ok a g N i f hi w1 P1.m)
  clear NB hb B P1 PH hi
  go_wp2_with fail
  refine PT.out.mono ?_
  rintro e w2 ⟨rfl, hb⟩
  have B2 := hide (BH.out.trans (hb.mono BH.out.size))
  clear hb PT BH
  go_wp2
  go_ret
  exact ⟨rfl, B2.out⟩

/-- What Take and Free answer, and leave; what Has tells. -/
def tkV (f : Nat → Bool) : Option Nat → Int
  | some i => if f i then 14 else 0
  | none => 12

def tkF (f : Nat → Bool) : Option Nat → Nat → Bool
  | some i => upd f i true
  | none => f

def frV (f : Nat → Bool) : Option Nat → Int
  | some i => if f i then 0 else 7
  | none => 12

def frF (f : Nat → Bool) : Option Nat → Nat → Bool
  | some i => upd f i false
  | none => f

def hsV (f : Nat → Bool) : Option Nat → Bool
  | some i => f i
  | none => false

theorem poTake_c {v s : Bool} {h l b ah al : Int} {x a g n m : Nat} {f : Nat → Bool} (hp : IsNum h l n) (ha : IsNum ah al m) (h0 : 0 < szP v n b) (w : World) (P : PoAt w v h l b x a g (szP v n b) f) :
    Calls Tryz.prog 33 #[.pointer (some ⟨x, 0, none⟩), av s ah al] w fun e w' => e = .returned (.int .i64 (tkV f (nmP v n b s m))) ∧ PoAt w' v h l b x a g (szP v n b) (tkF f (nmP v n b s m)) ∧ But [g] w.heap.size w w' := by
  have NB : ∀ o, nmP v n b s m = o → Hid (∀ w', Below w.heap.size w w' → Calls Tryz.prog 69 #[.pointer (some ⟨x, 0, none⟩), av s ah al] w' fun e w1 => e = .returned (.tuple #[.int .i64 (nmI o), .int .i64 (nmE o)]) ∧ Below w'.heap.size w' w1) := fun o e w' hb => e ▸ number_c hp ha h0 w' (P.below hb)
  cases e : nmP v n b s m with
  | none =>
    refine (poTake_no (by decide) w (NB _ e)).mono ?_
    rintro _ w' ⟨rfl, hb⟩
    exact ⟨rfl, P.below hb, But.of hb (Nat.le_refl _)⟩
  | some i =>
    have hi := (nmP_some e).2.2.1
    refine (poTake_ok (i := i) w P (NB _ e)).mono ?_
    rintro _ w' ⟨rfl, h1, h2⟩
    refine ⟨?_, ?_, h2⟩
    · unfold putV tkV
      rw [if_pos (by omega), Int.toNat_natCast]
    · unfold putF at h1
      rw [if_pos (by omega), Int.toNat_natCast] at h1
      exact h1

theorem poFree_c {v s : Bool} {h l b ah al : Int} {x a g n m : Nat} {f : Nat → Bool} (hp : IsNum h l n) (ha : IsNum ah al m) (h0 : 0 < szP v n b) (w : World) (P : PoAt w v h l b x a g (szP v n b) f) :
    Calls Tryz.prog 38 #[.pointer (some ⟨x, 0, none⟩), av s ah al] w fun e w' => e = .returned (.int .i64 (frV f (nmP v n b s m))) ∧ PoAt w' v h l b x a g (szP v n b) (frF f (nmP v n b s m)) ∧ But [g] w.heap.size w w' := by
  have NB : ∀ o, nmP v n b s m = o → Hid (∀ w', Below w.heap.size w w' → Calls Tryz.prog 69 #[.pointer (some ⟨x, 0, none⟩), av s ah al] w' fun e w1 => e = .returned (.tuple #[.int .i64 (nmI o), .int .i64 (nmE o)]) ∧ Below w'.heap.size w' w1) := fun o e w' hb => e ▸ number_c hp ha h0 w' (P.below hb)
  cases e : nmP v n b s m with
  | none =>
    refine (poFree_no (by decide) w (NB _ e)).mono ?_
    rintro _ w' ⟨rfl, hb⟩
    exact ⟨rfl, P.below hb, But.of hb (Nat.le_refl _)⟩
  | some i =>
    have hi := (nmP_some e).2.2.1
    refine (poFree_ok (i := i) w P (NB _ e)).mono ?_
    rintro _ w' ⟨rfl, h1, h2⟩
    refine ⟨?_, ?_, h2⟩
    · unfold dropV frV
      rw [if_pos (by omega), Int.toNat_natCast]
    · unfold dropF at h1
      rw [if_pos (by omega), Int.toNat_natCast] at h1
      exact h1

theorem poHas_c {v s : Bool} {h l b ah al : Int} {x a g n m : Nat} {f : Nat → Bool} (hp : IsNum h l n) (ha : IsNum ah al m) (h0 : 0 < szP v n b) (w : World) (P : PoAt w v h l b x a g (szP v n b) f) :
    Calls Tryz.prog 26 #[.pointer (some ⟨x, 0, none⟩), av s ah al] w fun e w' => e = .returned (.bool (hsV f (nmP v n b s m))) ∧ Below w.heap.size w w' := by
  have NB : ∀ o, nmP v n b s m = o → Hid (∀ w', Below w.heap.size w w' → Calls Tryz.prog 69 #[.pointer (some ⟨x, 0, none⟩), av s ah al] w' fun e w1 => e = .returned (.tuple #[.int .i64 (nmI o), .int .i64 (nmE o)]) ∧ Below w'.heap.size w' w1) := fun o e w' hb => e ▸ number_c hp ha h0 w' (P.below hb)
  cases e : nmP v n b s m with
  | none => exact poHas_no (by decide) w (NB _ e)
  | some i => exact poHas_ok (nmP_some e).2.2.1 w P (NB _ e)

end Go.Proofs.YtighdocmncbdnaaGreatDoor

namespace Go.Proofs.YtighdocmncbdnaaGreatDoor
open Go.ChangeShapes Go.WideShapes Go.ChangeAt Go.RowKit
set_option linter.unusedVariables false
set_option linter.unusedSimpArgs false

/-- What is used, with the first k of those that are kept. -/
def uK (u : Nat → Bool) (lk : Bool) (N k : Nat) : Nat → Bool := fun p => u p || decide (p ∈ (kpL lk N).take k)

theorem uK_zero {u : Nat → Bool} {lk : Bool} {N : Nat} : uK u lk N 0 = u := by
  funext p
  simp [uK]

theorem uK_full {u : Nat → Bool} {lk : Bool} {N k : Nat} (h0 : 0 < N) (hk : (kpL lk N).length ≤ k) : uK u lk N k = fun p => u p || kpF lk N p := by
  funext p
  rw [← kp_mem h0]
  unfold uK
  rw [List.take_of_length_le hk]

theorem uK_get {u : Nat → Bool} {lk : Bool} {N k i : Nat} (h4 : 4 ≤ N) (hi : (kpL lk N)[k]? = some i) : uK u lk N k i = u i ∧ uK u lk N (k + 1) = upd (uK u lk N k) i true ∧ i < N := by
  cases lk
  · match k, hi with
    | 0, hi =>
      simp [kpL] at hi
      subst hi
      refine ⟨by simp [uK, kpL], ?_, by omega⟩
      funext p
      unfold upd uK kpL
      by_cases c : p = 0 <;> simp [c]
    | k + 1, hi => simp [kpL] at hi
  · match k, hi with
    | 0, hi =>
      simp [kpL] at hi
      subst hi
      refine ⟨by simp [uK, kpL], ?_, by omega⟩
      funext p
      unfold upd uK kpL
      by_cases c : p = 0 <;> simp [c]
    | 1, hi =>
      simp [kpL] at hi
      subst hi
      refine ⟨?_, ?_, by omega⟩
      · unfold uK kpL
        simp
        omega
      · funext p
        unfold upd uK kpL
        by_cases c : p = N - 1 <;> simp [c]
    | k + 2, hi => simp [kpL] at hi

/-- Is one that is kept used? -/
def badU (u : Nat → Bool) (lk : Bool) (N : Nat) : Prop := ∃ i, kpF lk N i = true ∧ u i = true

set_option maxRecDepth 100000 in
set_option maxHeartbeats 3200000 in
theorem withUsed_c {v : Bool} {h l b : Int} {a g n : Nat} {u : Nat → Bool} (hp : IsNum h l n) (h4 : 4 ≤ szP v n b) (w : World) (hM : MapB w a g (szP v n b) u) :
    Calls Tryz.prog 61 #[pv v h l b, .pointer (some ⟨a, 0, none⟩)] w fun e w' =>
      (¬ badU u (lkP v b) (szP v n b) ∧ e = .returned (.tuple #[.pointer (some ⟨w.heap.size + 1, 0, none⟩), .int .i64 0]) ∧ PoAt w' v h l b (w.heap.size + 1) a g (szP v n b) (fun p => u p || kpF (lkP v b) (szP v n b) p) ∧ But [g] w.heap.size w w') ∨
      (badU u (lkP v b) (szP v n b) ∧ e = .returned (.tuple #[.pointer none, .int .i64 1]) ∧ But [g] w.heap.size w w') := by
  have KE := fun w' f P' => kept_c (v := v) (b := b) (x := w.heap.size + 1) (a := a) (g := g) (f := f) hp (by omega) w' P'
  obtain ⟨N, hN⟩ : ∃ N, szP v n b = N := ⟨_, rfl⟩
  obtain ⟨lk, hlk⟩ : ∃ lk, lkP v b = lk := ⟨_, rfl⟩
  rw [hN] at KE hM h4 ⊢
  rw [hlk] at KE ⊢
  have KH := hide KE
  have l4 := hM.lt
  have MH := hide hM
  clear KE hM hp hN hlk
  go_enter Tryz.func61, Tryz.ntmps61
  go_wp2_with fail
  have P0 : PoAt ((w.alloc (.cells #[.bool v, .int .u64 h, .int .u64 l, .int .i64 b] 28)).alloc (.cells #[.bool v, .int .u64 h, .int .u64 l, .int .i64 b, .pointer (some ⟨a, 0, none⟩)] 90)) v h l b (w.heap.size + 1) a g N u :=
    ⟨by have := Blk.new (w.alloc (.cells #[.bool v, .int .u64 h, .int .u64 l, .int .i64 b] 28)) #[.bool v, .int .u64 h, .int .u64 l, .int .i64 b, .pointer (some ⟨a, 0, none⟩)] 90; simpa using this, MH.out.below (by repeat (first | with_reducible exact Below.refl _ _ | with_reducible refine Below.drew ?_ | with_reducible refine Below.alloc ?_ (by first | omega | (simp <;> omega)) _ | with_reducible refine Below.setCell ?_ (by first | omega | (simp <;> omega)) _))⟩
  have BL : Below w.heap.size w ((w.alloc (.cells #[.bool v, .int .u64 h, .int .u64 l, .int .i64 b] 28)).alloc (.cells #[.bool v, .int .u64 h, .int .u64 l, .int .i64 b, .pointer (some ⟨a, 0, none⟩)] 90)) := by repeat (first | with_reducible exact Below.refl _ _ | with_reducible refine Below.drew ?_ | with_reducible refine Below.alloc ?_ (by first | omega | (simp <;> omega)) _ | with_reducible refine Below.setCell ?_ (by first | omega | (simp <;> omega)) _)
  have KP := hide (KH.out _ _ P0)
  have PH := hide P0
  have BH := hide BL
  clear KH P0 BL MH
  refine KP.out.mono ?_
  rintro e w1 ⟨k, rfl, hk, hkl, hb⟩
  have P1 : Hid (PoAt w1 v h l b (w.heap.size + 1) a g N (uK u lk N 0)) := by rw [uK_zero]; exact PH.out.below hb
  have B1 : Hid (But [g] w.heap.size w w1) := But.of (BH.out.trans (hb.mono BH.out.size)) (Nat.le_refl _)
  have K1 := hide hk
  have kg : k ∉ [g] := by simp at hkl ⊢; omega
  obtain ⟨L, hL⟩ : ∃ L, (kpL lk N).length = L := ⟨_, rfl⟩
  have L2 : L ≤ 2 := hL ▸ kpL_len lk N
  have HL := hide hL
  rw [hL]
  clear hk hkl hb KP PH BH hL
  go_wp2_with fail
  go_loopw [16] (fun t wr => ∃ j : Nat, j ≤ L ∧ t = .int .i64 j ∧ Hid (PoAt wr v h l b (w.heap.size + 1) a g N (uK u lk N j)) ∧ Hid (But [g] w.heap.size w wr) ∧ Hid (Blk wr k (((kpL lk N).map fun i : Nat => Value.int .i64 (i : Int))).toArray 3) ∧ Hid (∀ q i, q < j → (kpL lk N)[q]? = some i → u i = false)) (fun t _ => L - (intOf t).toNat)
  case atStart => exact ⟨0, by omega, rfl, P1, B1, K1, fun q i hq => absurd hq (by omega)⟩
  case round =>
    clear P1 B1 K1
    obtain ⟨j, hj, rfl, P, B, K, G⟩ := hrel
    by_cases hlt : j < L
    · have hlt' : (j : Int) < L := by omega
      obtain ⟨i, hi⟩ : ∃ i, (kpL lk N)[j]? = some i := ⟨_, List.getElem?_eq_getElem (by rw [HL.out]; exact hlt)⟩
      have c := K.out.cell j
      simp only [List.getElem?_toArray, List.getElem?_map, hi, Option.map_some] at c
      obtain ⟨u1, u2, u3⟩ := uK_get (u := u) h4 hi
      obtain ⟨x0, x1, x2, x3, x4, xl⟩ := P.out.hd.five
      cases hu : u i
      · have PT := hide (put_new a g N i (uK u lk N j) u3 (u1.trans hu) wr P.out.m)
        have G2 : Hid (∀ q i, q < j + 1 → (kpL lk N)[q]? = some i → u i = false) := fun q i2 hq h2 => by
          by_cases e : q = j
          · subst e
            rw [hi] at h2
            obtain rfl := Option.some.inj h2
            exact hu
          · exact G.out q i2 (by omega) h2
        rw [← u2] at PT
        have i6 : (i : Int) < 65536 := by omega
        clear u1 u2 u3 hu hi G
        go_wp2_with fail
        refine PT.out.mono ?_
        rintro e w2 ⟨rfl, hM, hK⟩
        have P2 := hide (P.out.turn hM hK)
        have B2 : Hid (But [g] w.heap.size w w2) := B.out.trans (hK.mono B.out.size (fun x hx _ => hx))
        have K2 : Hid (Blk w2 k _ _) := hK.blk K.out K.out.lt kg
        clear hM hK PT P B K x0 x1 x2 x3 x4 c
        go_wp2
        go_roundw
        case rel => exact ⟨j + 1, by omega, by go_num, P2, B2, K2, G2⟩
        case measure => simp [intOf]; omega
      · have PT := hide (put_same a g N i (uK u lk N j) u3 (u1.trans hu) wr P.out.m)
        have bad : Hid (badU u lk N) := ⟨i, by rw [← kp_mem (by omega)]; exact decide_eq_true (List.mem_of_getElem? hi), hu⟩
        have i6 : (i : Int) < 65536 := by omega
        clear u1 u2 u3 hu hi G
        go_wp2_with fail
        refine PT.out.mono ?_
        rintro e w2 ⟨rfl, hM, hK⟩
        have B2 : Hid (But [g] w.heap.size w w2) := B.out.trans (hK.mono B.out.size (fun x hx _ => hx))
        clear hM hK PT P B K x0 x1 x2 x3 x4 c
        go_wp2
        go_ret2
        exact Or.inr ⟨bad.out, rfl, B2.out⟩
    · have hlt' : ¬ (j : Int) < L := by omega
      have good : Hid (¬ badU u lk N) := fun ⟨i, h1, h2⟩ => by
        rw [← kp_mem (by omega)] at h1
        obtain ⟨q, hq⟩ := List.mem_iff_getElem?.1 (of_decide_eq_true h1)
        have : q < (kpL lk N).length := by
          apply Classical.byContradiction
          intro c
          rw [List.getElem?_eq_none (by omega)] at hq
          cases hq
        rw [HL.out] at this
        rw [G.out q i (by omega) hq] at h2
        cases h2
      have PF := P.out
      rw [uK_full (by omega) (by rw [HL.out]; omega)] at PF
      have P2 := hide PF
      clear G PF P
      go_wp2
      go_ret2
      exact Or.inl ⟨good.out, rfl, P2.out, B.out⟩

set_option maxHeartbeats 800000 in
theorem poNew_no {v : Bool} {h l b : Int} {n : Nat} (hp : IsNum h l n) (h4 : ¬ 4 ≤ szP v n b) (w : World) :
    Calls Tryz.prog 17 #[pv v h l b] w fun e w' => e = .returned (.tuple #[.pointer none, .int .i64 1]) ∧ Below w.heap.size w w' := by
  have SZ : Hid (∀ w', _) := fun w' => sizeOf_c (v := v) (b := b) hp w'
  have h4' : (szP v n b : Int) < 4 := by omega
  obtain ⟨N, hN⟩ : ∃ N, szP v n b = N := ⟨_, rfl⟩
  rw [hN] at SZ h4'
  have K := pfx_start w v h l b
  clear h4 hN hp
  go_enter Tryz.func17, Tryz.ntmps17
  go_wp2_with fail
  refine (SZ.out _).mono ?_
  rintro e w1 ⟨rfl, hb⟩
  have B := (K.below hb).bel
  clear SZ hb K
  go_wp2
  go_ret2
  exact ⟨rfl, B⟩

set_option maxHeartbeats 1600000 in
theorem poNew_ok {v : Bool} {h l b : Int} {n : Nat} (hp : IsNum h l n) (h4 : 4 ≤ szP v n b) (w : World) :
    Calls Tryz.prog 17 #[pv v h l b] w fun e w' => ∃ x a g, e = .returned (.tuple #[.pointer (some ⟨x, 0, none⟩), .int .i64 0]) ∧ PoAt w' v h l b x a g (szP v n b) (kpF (lkP v b) (szP v n b)) ∧ Below w.heap.size w w' ∧ w.heap.size ≤ x ∧ w.heap.size ≤ g := by
  have SZ : Hid (∀ w', _) := fun w' => sizeOf_c (v := v) (b := b) hp w'
  have WU : Hid (∀ a g w', MapB w' a g (szP v n b) (fun _ => false) → _) := fun a g w' hM => withUsed_c (v := v) (b := b) hp h4 w' hM
  have h4' : ¬ (szP v n b : Int) < 4 := by omega
  have le := szP_le (v := v) (n := n) (b := b)
  have ng : Hid (¬ badU (fun _ => false) (lkP v b) (szP v n b)) := fun ⟨i, _, h2⟩ => by cases h2
  obtain ⟨N, hN⟩ : ∃ N, szP v n b = N := ⟨_, rfl⟩
  rw [hN] at SZ WU h4' le ng ⊢
  generalize lkP v b = lk at *
  have K := pfx_start w v h l b
  clear h4 hN hp
  go_enter Tryz.func17, Tryz.ntmps17
  go_wp2_with fail
  refine (SZ.out _).mono ?_
  rintro e w1 ⟨rfl, hb⟩
  have K1 := K.below hb
  have NB := hide (new_b N le w1)
  have F := K1.1
  simp only [Facts, CellsAt] at F
  clear SZ hb K
  go_wp2_with fail
  refine NB.out.mono ?_
  rintro e w2 ⟨rfl, hM, hb, hs⟩
  have K2 := K1.below hb
  have F2 := K2.1
  simp only [Facts, CellsAt] at F2
  have WW := hide (WU.out _ _ w2 hM)
  have KH := hide K2
  have LH := hide K1.bel.size
  have SH := hide hs
  clear hM hb hs NB K1 K2 WU F
  go_wp2_with fail
  refine WW.out.mono ?_
  rintro e w3 (⟨hg, rfl, hP, hK⟩ | ⟨hg, rfl, hK⟩)
  · have PH := hide hP
    have B3 : Hid (Below w.heap.size w w3) := hK.to KH.out.bel LH.out KH.out.bel.size
    clear hg hP hK WW
    go_wp2
    go_ret2
    refine ⟨_, w1.heap.size + 1, _, rfl, ?_, B3.out, ?_, LH.out⟩
    · have := PH.out
      simpa using this
    · have := LH.out
      have := SH.out
      omega
  · exact absurd hg ng.out
end Go.Proofs.YtighdocmncbdnaaGreatDoor

namespace Go.Proofs.YtighdocmncbdnaaGreatDoor
open Go.ChangeShapes Go.WideShapes Go.ChangeAt Go.RowKit
set_option linter.unusedVariables false
set_option linter.unusedSimpArgs false

theorem PoAt.keep {B : Nat} {W W' : World} {v : Bool} {h l b : Int} {x a g N : Nat} {f : Nat → Bool} (P : PoAt W v h l b x a g N f) (k : Below B W W') (hx : x < B) (ha : a < B) (hg : g < B) : PoAt W' v h l b x a g N f :=
  have q : But [] B W W' := But.of k (Nat.le_refl _)
  ⟨q.blk P.hd hx (by simp), P.m.but q ha hg (by simp) (by simp)⟩

set_option maxHeartbeats 1600000 in
theorem poNext_full {v : Bool} {h l b i : Int} {x a g N : Nat} {f : Nat → Bool} (h0 : 0 < N) (i0 : -9223372036854775808 ≤ i) (i1 : i ≤ 9223372036854775807) (hf : nextF f N (i.toNat % N) = none) (w : World) (hT : TB w) (P0 : PoAt w v h l b x a g N f) :
    Calls Tryz.prog 36 #[.pointer (some ⟨x, 0, none⟩), .int .i64 i] w fun e w' => e = .returned (.tuple #[av false 0 0, .int .i64 9]) ∧ Below w.heap.size w w' := by
  have bl : Below w.heap.size w (w.alloc (.cells #[.bool false, .int .u64 0, .int .u64 0] 26)) := by repeat (first | with_reducible exact Below.refl _ _ | with_reducible refine Below.drew ?_ | with_reducible refine Below.alloc ?_ (by first | omega | (simp <;> omega)) _ | with_reducible refine Below.setCell ?_ (by first | omega | (simp <;> omega)) _)
  have NX := next_ok a g N f i i0 i1 h0 _ (P0.m.below bl) (hT.below bl)
  rw [show nxP f N (i.toNat % N) = 0 from by unfold nxP; rw [hf]; rfl, show nxB f N (i.toNat % N) = false from by unfold nxB; rw [hf]; rfl] at NX
  have NH := hide NX
  obtain ⟨x0, x1, x2, x3, x4, xl⟩ := P0.hd.five
  have RB := Blk.new w #[.bool false, .int .u64 0, .int .u64 0] 26
  have RH := hide RB
  have BH := hide bl
  clear bl NX P0 hT RB hf
  go_enter Tryz.func36, Tryz.ntmps36
  go_wp2_with fail
  refine NH.out.mono ?_
  rintro e w1 ⟨rfl, hb⟩
  have R1 := RH.out.below hb
  obtain ⟨r0, r1, r2, r3, r4, r5, r6⟩ := R1.three
  have B := BH.out.trans (hb.mono BH.out.size)
  have hs := B.size
  clear NH RH BH hb R1
  go_wp2
  refine bodyPost_ret (v := .tuple #[av false 0 0, .int .i64 9]) (by simp [results, Tryz.results36, go_sem, World.cell?_setCell_same', World.cell?_setCell_other, *]) rfl ⟨rfl, by repeat (first | with_reducible exact Below.refl _ _ | with_reducible refine Below.drew ?_ | with_reducible refine Below.alloc ?_ (by first | omega | (simp <;> omega)) _ | with_reducible refine Below.setCell ?_ (by first | omega | (simp <;> omega)) _ | with_reducible refine Below.trans ?_ (Below.mono B (by first | omega | (simp <;> omega))))⟩

set_option maxHeartbeats 1600000 in
theorem poNext_ok {v : Bool} {h l b i rh rl : Int} {x a g n p : Nat} {f : Nat → Bool} (hp : IsNum h l n) (h0 : 0 < szP v n b) (i0 : -9223372036854775808 ≤ i) (i1 : i ≤ 9223372036854775807) (hf : nextF f (szP v n b) (i.toNat % szP v n b) = some p) (hr : IsNum rh rl (n + p)) (w : World) (hT : TB w) (P0 : PoAt w v h l b x a g (szP v n b) f) :
    Calls Tryz.prog 36 #[.pointer (some ⟨x, 0, none⟩), .int .i64 i] w fun e w' => e = .returned (.tuple #[av v rh rl, .int .i64 0]) ∧ PoAt w' v h l b x a g (szP v n b) (upd f p true) ∧ But [g] w.heap.size w w' := by
  have ok := szP_ok h0
  obtain ⟨hpn, hfp⟩ := nextF_is (Nat.mod_lt _ h0) hf
  have le := szP_le (v := v) (n := n) (b := b)
  have HO := hide (fun w' hx => host_c (a := a) (x := x) hp ok hpn hr w' hx)
  obtain ⟨N, hN⟩ : ∃ N, szP v n b = N := ⟨_, rfl⟩
  rw [hN] at h0 hf hpn le P0 ⊢
  have bl : Below w.heap.size w (w.alloc (.cells #[.bool false, .int .u64 0, .int .u64 0] 26)) := by repeat (first | with_reducible exact Below.refl _ _ | with_reducible refine Below.drew ?_ | with_reducible refine Below.alloc ?_ (by first | omega | (simp <;> omega)) _ | with_reducible refine Below.setCell ?_ (by first | omega | (simp <;> omega)) _)
  have NX := next_ok a g N f i i0 i1 h0 _ (P0.m.below bl) (hT.below bl)
  rw [show nxP f N (i.toNat % N) = p from by unfold nxP; rw [hf]; rfl, show nxB f N (i.toNat % N) = true from by unfold nxB; rw [hf]; rfl] at NX
  have NH := hide NX
  obtain ⟨x0, x1, x2, x3, x4, xl⟩ := P0.hd.five
  have l4 := P0.m.lt
  have P1 := hide (P0.below bl)
  have RB := Blk.new w #[.bool false, .int .u64 0, .int .u64 0] 26
  have RH := hide RB
  have BH := hide bl
  have hp6 : (p : Int) < 65536 := by omega
  have HF := hide hfp
  clear bl NX P0 hT RB hf hp ok hr hN hfp
  go_enter Tryz.func36, Tryz.ntmps36
  go_wp2_with fail
  refine NH.out.mono ?_
  rintro e w1 ⟨rfl, hb⟩
  have P2 := P1.out.below hb
  have R1 := hide (RH.out.below hb)
  have B1 := hide (BH.out.trans (hb.mono BH.out.size))
  have PT := hide (put_new a g N p f hpn HF.out w1 P2.m)
  obtain ⟨y0, y1, y2, y3, y4, yl⟩ := P2.hd.five
  have PH2 := hide P2
  clear NH RH BH hb P1 P2 HF x0 x1 x2 x3 x4
  go_wp2_with fail
  refine PT.out.mono ?_
  rintro e w2 ⟨rfl, hM, hK⟩
  have P3 := PH2.out.turn hM hK
  have R2 := hide (hK.blk R1.out R1.out.lt (by simp; omega))
  have B2 := hide ((But.of (L := [g]) B1.out (Nat.le_refl _)).trans (hK.mono B1.out.size (fun x hx _ => hx)))
  have HOW := hide (HO.out w2 P3.hd)
  have PH3 := hide P3
  clear PT hM hK PH2 R1 B1 P3 HO y0 y1 y2 y3 y4
  go_wp2_with fail
  refine HOW.out.mono ?_
  rintro e w3 ⟨rfl, hb⟩
  have R3 := R2.out.below hb
  obtain ⟨r0, r1, r2, r3, r4, r5, r6⟩ := R3.three
  have P4 := hide (PH3.out.below hb)
  have B3 := hide (B2.out.trans (But.of (L := [g]) hb B2.out.size))
  have hs : w.heap.size ≤ w3.heap.size := B3.out.size
  clear HOW hb R2 B2 PH3 R3
  go_wp2
  have E : ∀ W', Below w.heap.size w3 W' → PoAt W' v h l b x a g N (upd f p true) ∧ But [g] w.heap.size w W' := fun W' k => ⟨P4.out.keep k xl l4.1 l4.2.1, B3.out.trans (But.of k (Nat.le_refl _))⟩
  refine bodyPost_ret (v := .tuple #[av v rh rl, .int .i64 0]) (by simp [results, Tryz.results36, go_sem, World.cell?_setCell_same', World.cell?_setCell_other, *]) rfl ⟨rfl, E _ (by repeat (first | with_reducible exact Below.refl _ _ | with_reducible refine Below.drew ?_ | with_reducible refine Below.alloc ?_ (by first | omega | (simp <;> omega)) _ | with_reducible refine Below.setCell ?_ (by first | omega | (simp <;> omega)) _))⟩

set_option maxHeartbeats 1600000 in
theorem poLeft_c {v : Bool} {h l b : Int} {x a g N : Nat} {f : Nat → Bool} {C : Int} (hC : (N : Int) - (cnt f N : Nat) = C) (w : World) (P0 : PoAt w v h l b x a g N f) :
    Calls Tryz.prog 20 #[.pointer (some ⟨x, 0, none⟩)] w fun e w' => e = .returned (.int .i64 C) ∧ Below w.heap.size w w' := by
  have PH := hide P0
  obtain ⟨x0, x1, x2, x3, x4, xl⟩ := P0.hd.five
  have K0 : Kn w [(x, [.bool v, .int .u64 h, .int .u64 l, .int .i64 b, .pointer (some ⟨a, 0, none⟩)], 90)] w := (Kn.nil w).cons P0.hd
  have l4 := P0.m.lt
  have hcl : cnt f N ≤ N := cnt_le _ _
  obtain ⟨c, hc⟩ : ∃ c, cnt f N = c := ⟨_, rfl⟩
  have CC := hide (fun w' H => count_ok a g N f w' H)
  rw [hc] at CC hcl hC
  have hsub : IntKind.i64.wrap ((N : Int) - c) = C := by rw [← hC]; simp [IntKind.wrap, IntKind.bits, IntKind.signed]; omega
  have hCC : IntKind.i64.wrap C = C := by rw [← hC]; simp [IntKind.wrap, IntKind.bits, IntKind.signed]; omega
  clear P0 hc
  go_enter Tryz.func20, Tryz.ntmps20
  go_wp2_with fail
  refine wp_region_held_drew (S := (Kn w [(x, [.bool v, .int .u64 h, .int .u64 l, .int .i64 b, .pointer (some ⟨a, 0, none⟩)], 90)])) (by kernel_rfl) ?hS100 (fun hHeld => ?rest100)
  case hS100 => (first | with_reducible exact K0.drew | with_reducible exact hHeld | with_reducible exact hHeld.below hb5)
  refine wpAnyH_take (i := 0) (oi := _) (v := ?v101) (List.getElem?_toArray.trans rfl) (by kernel_rfl) (by kernel_rfl) (by kernel_rfl) (fun _ _ _ h => h) (Or.inl ⟨by rfl, ?hy101⟩) (by assumption) ?rest101
  case hy101 => (intro wq hSw; (try simp only [Two, Kn, Facts, CellsAt] at hSw); go_simp; try with_reducible rfl)
  try simp only [Act.put, List.setIfInBounds_toArray, List.set_cons_zero, List.set_cons_succ]
  refine wpAnyH_take (i := 1) (oi := _) (v := ?v102) (List.getElem?_toArray.trans rfl) (by kernel_rfl) (by kernel_rfl) (by kernel_rfl) (fun _ _ _ h => h) (Or.inl ⟨by rfl, ?hy102⟩) (by assumption) ?rest102
  case hy102 => (intro wq hSw; (try simp only [Two, Kn, Facts, CellsAt] at hSw); go_simp; try with_reducible rfl)
  try simp only [Act.put, List.setIfInBounds_toArray, List.set_cons_zero, List.set_cons_succ]
  refine wpAnyH_take (i := 2) (oi := _) (v := ?v103) (List.getElem?_toArray.trans rfl) (by kernel_rfl) (by kernel_rfl) (by kernel_rfl) (fun _ _ _ h => h) (Or.inl ⟨by rfl, ?hy103⟩) (by assumption) ?rest103
  case hy103 => (intro wq hSw; (try simp only [Two, Kn, Facts, CellsAt] at hSw); go_simp; try with_reducible rfl)
  try simp only [Act.put, List.setIfInBounds_toArray, List.set_cons_zero, List.set_cons_succ]
  refine wpAnyH_take (i := 3) (oi := _) (v := ?v104) (List.getElem?_toArray.trans rfl) (by kernel_rfl) (by kernel_rfl) (by kernel_rfl) (fun _ _ _ h => h) (Or.inl ⟨by rfl, ?hy104⟩) (by assumption) ?rest104
  case hy104 => (intro wq hSw; (try simp only [Two, Kn, Facts, CellsAt] at hSw); go_simp; try with_reducible rfl)
  try simp only [Act.put, List.setIfInBounds_toArray, List.set_cons_zero, List.set_cons_succ]
  refine wpAnyH_take (i := 5) (oi := _) (v := ?v105) (List.getElem?_toArray.trans rfl) (by kernel_rfl) (by kernel_rfl) (by kernel_rfl) (fun _ _ _ h => h) (Or.inl ⟨by rfl, ?hy105⟩) (by assumption) ?rest105
  case hy105 => (intro wq hSw; (try simp only [Two, Kn, Facts, CellsAt] at hSw); go_simp; try with_reducible rfl)
  try simp only [Act.put, List.setIfInBounds_toArray, List.set_cons_zero, List.set_cons_succ]
  refine wpAnyH_take (i := 6) (oi := _) (v := ?v106) (List.getElem?_toArray.trans rfl) (by kernel_rfl) (by kernel_rfl) (by kernel_rfl) (fun _ _ _ h => h) (Or.inl ⟨by rfl, ?hy106⟩) (by assumption) ?rest106
  case hy106 => (intro wq hSw; (try simp only [Two, Kn, Facts, CellsAt] at hSw); go_simp; try with_reducible rfl)
  try simp only [Act.put, List.setIfInBounds_toArray, List.set_cons_zero, List.set_cons_succ]
  refine wpAnyH_take (i := 7) (oi := _) (v := ?v107) (List.getElem?_toArray.trans rfl) (by kernel_rfl) (by kernel_rfl) (by kernel_rfl) (fun _ _ _ h => h) (Or.inl ⟨by rfl, ?hy107⟩) (by assumption) ?rest107
  case hy107 => (intro wq hSw; (try simp only [Two, Kn, Facts, CellsAt] at hSw); go_simp; try with_reducible rfl)
  try simp only [Act.put, List.setIfInBounds_toArray, List.set_cons_zero, List.set_cons_succ]
  refine wpAnyH_take (i := 8) (oi := _) (v := ?v108) (List.getElem?_toArray.trans rfl) (by kernel_rfl) (by kernel_rfl) (by kernel_rfl) (fun _ _ _ h => h) (Or.inl ⟨by rfl, ?hy108⟩) (by assumption) ?rest108
  case hy108 => (intro wq hSw; (try simp only [Two, Kn, Facts, CellsAt] at hSw); go_simp; try with_reducible rfl)
  try simp only [Act.put, List.setIfInBounds_toArray, List.set_cons_zero, List.set_cons_succ]
  refine wpAnyH_ready (rs := [4]) (by kernel_rfl) (by simp) ?rdy109
  refine AllReadyH.cons (List.getElem?_toArray.trans rfl) (fun K hK => ?stp109) AllReadyH.nil
  go_simp
  go_wp2_with fail
  (refine (size_c a N _ (PH.out.below hHeld.bel).head).mono ?_; rintro e w4 ⟨rfl, rfl⟩)
  go_wp2_with fail
  refine hK.out _ _ ?hSn109 (fun hHeld2 => ?rest109)
  case hSn109 => (first | with_reducible exact K0.drew | with_reducible exact hHeld | with_reducible exact hHeld.below hb5)
  clear hK K hHeld
  have hHeld := hHeld2
  clear hHeld2
  try simp only [Act.put, List.setIfInBounds_toArray, List.set_cons_zero, List.set_cons_succ]
  refine wpAnyH_ready (rs := [9]) (by kernel_rfl) (by simp) ?rdy110
  refine AllReadyH.cons (List.getElem?_toArray.trans rfl) (fun K hK => ?stp110) AllReadyH.nil
  go_simp
  go_wp2_with fail
  (refine (CC.out _ (PH.out.below hHeld.bel).m).mono ?_; rintro e w5 ⟨rfl, hb5⟩)
  go_wp2_with fail
  refine hK.out _ _ ?hSn110 (fun hHeld2 => ?rest110)
  case hSn110 => (first | with_reducible exact K0.drew | with_reducible exact hHeld | with_reducible exact hHeld.below hb5)
  clear hK K hHeld
  have hHeld := hHeld2
  clear hHeld2
  try simp only [Act.put, List.setIfInBounds_toArray, List.set_cons_zero, List.set_cons_succ]
  refine wpAnyH_take (i := 10) (oi := _) (v := ?v111) (List.getElem?_toArray.trans rfl) (by kernel_rfl) (by kernel_rfl) (by kernel_rfl) (fun _ _ _ h => h) (Or.inl ⟨by rfl, ?hy111⟩) (by assumption) ?rest111
  case hy111 => (intro wq hSw; (try simp only [Two, Kn, Facts, CellsAt] at hSw); go_simp; try with_reducible rfl)
  try simp only [Act.put, List.setIfInBounds_toArray, List.set_cons_zero, List.set_cons_succ]
  refine wpAnyH_take (i := 11) (oi := _) (v := ?v112) (List.getElem?_toArray.trans rfl) (by kernel_rfl) (by kernel_rfl) (by kernel_rfl) (fun _ _ _ h => h) (Or.inl ⟨by rfl, ?hy112⟩) (by assumption) ?rest112
  case hy112 => (intro wq hSw; (try simp only [Two, Kn, Facts, CellsAt] at hSw); go_simp; try with_reducible rfl)
  try simp only [Act.put, List.setIfInBounds_toArray, List.set_cons_zero, List.set_cons_succ]
  refine wpAnyH_done (by kernel_rfl) ?fin100 _
  have B := hHeld.bel
  clear hHeld K0 CC hb5
  go_wp2
  go_ret
  exact ⟨by first | rfl | simp [hsub, hCC], B⟩

end Go.Proofs.YtighdocmncbdnaaGreatDoor
