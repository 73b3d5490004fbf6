/-
  Texts Po4, Po5, Po6, Po7, PoNil of the proof.
-/
import Derived.Test.YtighdocmncbdnaaGreatDoorQNil38
import Derived.Test.YtighdocmncbdnaaGreatDoorQNil22
import Derived.Test.YtighdocmncbdnaaGreatDoorQNil28

namespace Go.Proofs.YtighdocmncbdnaaGreatDoor
open Go.ChangeShapes Go.WideShapes Go.ChangeAt Go.RowKit
set_option linter.unusedVariables false
set_option linter.unusedSimpArgs false

set_option maxHeartbeats 800000 in
theorem may_any {s : Bool} {ah al i c : Int} {p : Value} (w : World) (NB : Hid (∀ w', Below w.heap.size w w' → Calls Tryz.prog 69 #[p, av s ah al] w' fun e w1 => e = .returned (.tuple #[.int .i64 i, .int .i64 c]) ∧ Below w'.heap.size w' w1)) :
    Calls Tryz.prog 28 #[p, av s ah al] w fun e w' => e = .returned (.int .i64 c) ∧ Below w.heap.size w w' := by
  go_enter Tryz.func28, Tryz.ntmps28
  go_wp2_with fail
  refine (NB.out _ (by repeat (first | with_reducible exact Below.refl _ _ | with_reducible refine Below.drew ?_ | with_reducible refine Below.alloc ?_ (by first | omega | (simp <;> omega)) _ | with_reducible refine Below.setCell ?_ (by first | omega | (simp <;> omega)) _))).mono ?_
  rintro e w1 ⟨rfl, hb⟩
  have B : Below w.heap.size w w1 := by repeat (first | with_reducible exact Below.refl _ _ | with_reducible refine Below.drew ?_ | with_reducible refine Below.alloc ?_ (by first | omega | (simp <;> omega)) _ | with_reducible refine Below.setCell ?_ (by first | omega | (simp <;> omega)) _ | with_reducible refine Below.trans ?_ (Below.mono hb (by first | omega | (simp <;> omega))))
  have hs := B.size
  clear NB hb
  go_wp2
  go_ret
  exact ⟨rfl, by repeat (first | with_reducible exact Below.refl _ _ | with_reducible refine Below.drew ?_ | with_reducible refine Below.alloc ?_ (by first | omega | (simp <;> omega)) _ | with_reducible refine Below.setCell ?_ (by first | omega | (simp <;> omega)) _ | with_reducible refine Below.trans ?_ (Below.mono B (by first | omega | (simp <;> omega))))⟩

theorem may_nil (s : Bool) (ah al : Int) (w : World) : Calls Tryz.prog 28 #[.pointer none, av s ah al] w fun e w' => e = .returned (.int .i64 2) ∧ Below w.heap.size w w' :=
  may_any w (fun w' _ => number_nil s ah al w')

set_option maxHeartbeats 800000 in
theorem poTake_no {s : Bool} {ah al i c : Int} {p : Value} (hc : ¬ c = 0) (w : World) (NB : Hid (∀ w', Below w.heap.size w w' → Calls Tryz.prog 69 #[p, av s ah al] w' fun e w1 => e = .returned (.tuple #[.int .i64 i, .int .i64 c]) ∧ Below w'.heap.size w' w1)) :
    Calls Tryz.prog 33 #[p, av s ah al] w fun e w' => e = .returned (.int .i64 c) ∧ Below w.heap.size w w' := by
  go_enter Tryz.func33, Tryz.ntmps33
  go_wp2_with fail
  refine (NB.out _ (by repeat (first | with_reducible exact Below.refl _ _ | with_reducible refine Below.drew ?_ | with_reducible refine Below.alloc ?_ (by first | omega | (simp <;> omega)) _ | with_reducible refine Below.setCell ?_ (by first | omega | (simp <;> omega)) _))).mono ?_
  rintro e w1 ⟨rfl, hb⟩
  have B : Below w.heap.size w w1 := by repeat (first | with_reducible exact Below.refl _ _ | with_reducible refine Below.drew ?_ | with_reducible refine Below.alloc ?_ (by first | omega | (simp <;> omega)) _ | with_reducible refine Below.setCell ?_ (by first | omega | (simp <;> omega)) _ | with_reducible refine Below.trans ?_ (Below.mono hb (by first | omega | (simp <;> omega))))
  have hs := B.size
  clear NB hb
  go_wp2
  go_ret
  exact ⟨rfl, by repeat (first | with_reducible exact Below.refl _ _ | with_reducible refine Below.drew ?_ | with_reducible refine Below.alloc ?_ (by first | omega | (simp <;> omega)) _ | with_reducible refine Below.setCell ?_ (by first | omega | (simp <;> omega)) _ | with_reducible refine Below.trans ?_ (Below.mono B (by first | omega | (simp <;> omega))))⟩

set_option maxHeartbeats 800000 in
theorem poFree_no {s : Bool} {ah al i c : Int} {p : Value} (hc : ¬ c = 0) (w : World) (NB : Hid (∀ w', Below w.heap.size w w' → Calls Tryz.prog 69 #[p, av s ah al] w' fun e w1 => e = .returned (.tuple #[.int .i64 i, .int .i64 c]) ∧ Below w'.heap.size w' w1)) :
    Calls Tryz.prog 38 #[p, av s ah al] w fun e w' => e = .returned (.int .i64 c) ∧ Below w.heap.size w w' := by
  go_enter Tryz.func38, Tryz.ntmps38
  go_wp2_with fail
  refine (NB.out _ (by repeat (first | with_reducible exact Below.refl _ _ | with_reducible refine Below.drew ?_ | with_reducible refine Below.alloc ?_ (by first | omega | (simp <;> omega)) _ | with_reducible refine Below.setCell ?_ (by first | omega | (simp <;> omega)) _))).mono ?_
  rintro e w1 ⟨rfl, hb⟩
  have B : Below w.heap.size w w1 := by repeat (first | with_reducible exact Below.refl _ _ | with_reducible refine Below.drew ?_ | with_reducible refine Below.alloc ?_ (by first | omega | (simp <;> omega)) _ | with_reducible refine Below.setCell ?_ (by first | omega | (simp <;> omega)) _ | with_reducible refine Below.trans ?_ (Below.mono hb (by first | omega | (simp <;> omega))))
  have hs := B.size
  clear NB hb
  go_wp2
  go_ret
  exact ⟨rfl, by repeat (first | with_reducible exact Below.refl _ _ | with_reducible refine Below.drew ?_ | with_reducible refine Below.alloc ?_ (by first | omega | (simp <;> omega)) _ | with_reducible refine Below.setCell ?_ (by first | omega | (simp <;> omega)) _ | with_reducible refine Below.trans ?_ (Below.mono B (by first | omega | (simp <;> omega))))⟩

set_option maxHeartbeats 800000 in
theorem poHas_no {s : Bool} {ah al i c : Int} {p : Value} (hc : ¬ c = 0) (w : World) (NB : Hid (∀ w', Below w.heap.size w w' → Calls Tryz.prog 69 #[p, av s ah al] w' fun e w1 => e = .returned (.tuple #[.int .i64 i, .int .i64 c]) ∧ Below w'.heap.size w' w1)) :
    Calls Tryz.prog 26 #[p, av s ah al] w fun e w' => e = .returned (.bool false) ∧ Below w.heap.size w w' := by
  go_enter Tryz.func26, Tryz.ntmps26
  go_wp2_with fail
  refine (NB.out _ (by repeat (first | with_reducible exact Below.refl _ _ | with_reducible refine Below.drew ?_ | with_reducible refine Below.alloc ?_ (by first | omega | (simp <;> omega)) _ | with_reducible refine Below.setCell ?_ (by first | omega | (simp <;> omega)) _))).mono ?_
  rintro e w1 ⟨rfl, hb⟩
  have B : Below w.heap.size w w1 := by repeat (first | with_reducible exact Below.refl _ _ | with_reducible refine Below.drew ?_ | with_reducible refine Below.alloc ?_ (by first | omega | (simp <;> omega)) _ | with_reducible refine Below.setCell ?_ (by first | omega | (simp <;> omega)) _ | with_reducible refine Below.trans ?_ (Below.mono hb (by first | omega | (simp <;> omega))))
  have hs := B.size
  clear NB hb
  go_wp2
  go_ret
  exact ⟨rfl, by repeat (first | with_reducible exact Below.refl _ _ | with_reducible refine Below.drew ?_ | with_reducible refine Below.alloc ?_ (by first | omega | (simp <;> omega)) _ | with_reducible refine Below.setCell ?_ (by first | omega | (simp <;> omega)) _ | with_reducible refine Below.trans ?_ (Below.mono B (by first | omega | (simp <;> omega))))⟩

theorem poTake_nil (s : Bool) (ah al : Int) (w : World) : Calls Tryz.prog 33 #[.pointer none, av s ah al] w fun e w' => e = .returned (.int .i64 2) ∧ Below w.heap.size w w' :=
  poTake_no (by decide) w (fun w' _ => number_nil s ah al w')

theorem poFree_nil (s : Bool) (ah al : Int) (w : World) : Calls Tryz.prog 38 #[.pointer none, av s ah al] w fun e w' => e = .returned (.int .i64 2) ∧ Below w.heap.size w w' :=
  poFree_no (by decide) w (fun w' _ => number_nil s ah al w')

theorem poHas_nil (s : Bool) (ah al : Int) (w : World) : Calls Tryz.prog 26 #[.pointer none, av s ah al] w fun e w' => e = .returned (.bool false) ∧ Below w.heap.size w w' :=
  poHas_no (c := 2) (by decide) w (fun w' _ => number_nil s ah al w')

set_option maxHeartbeats 800000 in
theorem poLeft_nil (w : World) : Calls Tryz.prog 20 #[.pointer none] w fun e w' => e = .returned (.int .i64 0) ∧ Below w.heap.size w w' := by
  go_enter Tryz.func20, Tryz.ntmps20
  go_wp2
  first
    | (go_ret; exact ⟨rfl, by repeat (first | with_reducible exact Below.refl _ _ | with_reducible refine Below.drew ?_ | with_reducible refine Below.alloc ?_ (by first | omega | (simp <;> omega)) _ | with_reducible refine Below.setCell ?_ (by first | omega | (simp <;> omega)) _)⟩)
    | refine bodyPost_ret (v := .int .i64 0) (by simp [results, Tryz.results20, go_sem, World.cell?_setCell_same', World.cell?_setCell_other, *]) rfl ⟨rfl, by repeat (first | with_reducible exact Below.refl _ _ | with_reducible refine Below.drew ?_ | with_reducible refine Below.alloc ?_ (by first | omega | (simp <;> omega)) _ | with_reducible refine Below.setCell ?_ (by first | omega | (simp <;> omega)) _)⟩

set_option maxHeartbeats 800000 in
theorem poUsed_nil (w : World) : Calls Tryz.prog 29 #[.pointer none] w fun e w' => e = .returned (.slice none 0 0) ∧ Below w.heap.size w w' := by
  go_enter Tryz.func29, Tryz.ntmps29
  go_wp2
  first
    | (go_ret; exact ⟨rfl, by repeat (first | with_reducible exact Below.refl _ _ | with_reducible refine Below.drew ?_ | with_reducible refine Below.alloc ?_ (by first | omega | (simp <;> omega)) _ | with_reducible refine Below.setCell ?_ (by first | omega | (simp <;> omega)) _)⟩)
    | refine bodyPost_ret (v := .slice none 0 0) (by simp [results, Tryz.results29, go_sem, World.cell?_setCell_same', World.cell?_setCell_other, *]) rfl ⟨rfl, by repeat (first | with_reducible exact Below.refl _ _ | with_reducible refine Below.drew ?_ | with_reducible refine Below.alloc ?_ (by first | omega | (simp <;> omega)) _ | with_reducible refine Below.setCell ?_ (by first | omega | (simp <;> omega)) _)⟩

set_option maxHeartbeats 800000 in
theorem poCopy_nil (w : World) : Calls Tryz.prog 42 #[.pointer none] w fun e w' => e = .returned (.pointer none) ∧ Below w.heap.size w w' := by
  go_enter Tryz.func42, Tryz.ntmps42
  go_wp2
  first
    | (go_ret; exact ⟨rfl, by repeat (first | with_reducible exact Below.refl _ _ | with_reducible refine Below.drew ?_ | with_reducible refine Below.alloc ?_ (by first | omega | (simp <;> omega)) _ | with_reducible refine Below.setCell ?_ (by first | omega | (simp <;> omega)) _)⟩)
    | refine bodyPost_ret (v := .pointer none) (by simp [results, Tryz.results42, go_sem, World.cell?_setCell_same', World.cell?_setCell_other, *]) rfl ⟨rfl, by repeat (first | with_reducible exact Below.refl _ _ | with_reducible refine Below.drew ?_ | with_reducible refine Below.alloc ?_ (by first | omega | (simp <;> omega)) _ | with_reducible refine Below.setCell ?_ (by first | omega | (simp <;> omega)) _)⟩

set_option maxHeartbeats 800000 in
theorem poBytes_nil (w : World) : Calls Tryz.prog 30 #[.pointer none] w fun e w' => e = .returned (.string ⟨#[]⟩) ∧ Below w.heap.size w w' := by
  go_enter Tryz.func30, Tryz.ntmps30
  go_wp2
  first
    | (go_ret; exact ⟨rfl, by repeat (first | with_reducible exact Below.refl _ _ | with_reducible refine Below.drew ?_ | with_reducible refine Below.alloc ?_ (by first | omega | (simp <;> omega)) _ | with_reducible refine Below.setCell ?_ (by first | omega | (simp <;> omega)) _)⟩)
    | refine bodyPost_ret (v := .string ⟨#[]⟩) (by simp [results, Tryz.results30, go_sem, World.cell?_setCell_same', World.cell?_setCell_other, *]) rfl ⟨rfl, by repeat (first | with_reducible exact Below.refl _ _ | with_reducible refine Below.drew ?_ | with_reducible refine Below.alloc ?_ (by first | omega | (simp <;> omega)) _ | with_reducible refine Below.setCell ?_ (by first | omega | (simp <;> omega)) _)⟩

set_option maxHeartbeats 800000 in
theorem poPrefix_nil (w : World) : Calls Tryz.prog 22 #[.pointer none] w fun e w' => e = .returned (pv false 0 0 0) ∧ Below w.heap.size w w' := by
  go_enter Tryz.func22, Tryz.ntmps22
  go_wp2
  first
    | (go_ret; exact ⟨rfl, by repeat (first | with_reducible exact Below.refl _ _ | with_reducible refine Below.drew ?_ | with_reducible refine Below.alloc ?_ (by first | omega | (simp <;> omega)) _ | with_reducible refine Below.setCell ?_ (by first | omega | (simp <;> omega)) _)⟩)
    | refine bodyPost_ret (v := pv false 0 0 0) (by simp [results, Tryz.results22, go_sem, World.cell?_setCell_same', World.cell?_setCell_other, *]) rfl ⟨rfl, by repeat (first | with_reducible exact Below.refl _ _ | with_reducible refine Below.drew ?_ | with_reducible refine Below.alloc ?_ (by first | omega | (simp <;> omega)) _ | with_reducible refine Below.setCell ?_ (by first | omega | (simp <;> omega)) _)⟩

set_option maxHeartbeats 800000 in
theorem poNext_nil (i : Int) (w : World) : Calls Tryz.prog 36 #[.pointer none, .int .i64 i] w fun e w' => e = .returned (.tuple #[av false 0 0, .int .i64 2]) ∧ Below w.heap.size w w' := by
  go_enter Tryz.func36, Tryz.ntmps36
  go_wp2
  refine bodyPost_ret (v := .tuple #[av false 0 0, .int .i64 2]) (by simp [results, Tryz.results36, go_sem, World.cell?_setCell_same', World.cell?_setCell_other, *]) rfl ⟨rfl, by repeat (first | with_reducible exact Below.refl _ _ | with_reducible refine Below.drew ?_ | with_reducible refine Below.alloc ?_ (by first | omega | (simp <;> omega)) _ | with_reducible refine Below.setCell ?_ (by first | omega | (simp <;> omega)) _)⟩
end Go.Proofs.YtighdocmncbdnaaGreatDoor

namespace Go.Proofs.YtighdocmncbdnaaGreatDoor
open Go.ChangeShapes Go.WideShapes Go.ChangeAt Go.RowKit
set_option linter.unusedVariables false
set_option linter.unusedSimpArgs false

/-- What is used, with the first k of those that are kept. -/
def uK (u : Nat → Bool) (lk : Bool) (N k : Nat) : Nat → Bool := fun p => u p || decide (p ∈ (kpL lk N).take k)

theorem uK_zero {u : Nat → Bool} {lk : Bool} {N : Nat} : uK u lk N 0 = u := by
  funext p
  simp [uK]

theorem uK_full {u : Nat → Bool} {lk : Bool} {N k : Nat} (h0 : 0 < N) (hk : (kpL lk N).length ≤ k) : uK u lk N k = fun p => u p || kpF lk N p := by
  funext p
  rw [← kp_mem h0]
  unfold uK
  rw [List.take_of_length_le hk]

theorem uK_get {u : Nat → Bool} {lk : Bool} {N k i : Nat} (h4 : 4 ≤ N) (hi : (kpL lk N)[k]? = some i) : uK u lk N k i = u i ∧ uK u lk N (k + 1) = upd (uK u lk N k) i true ∧ i < N := by
  cases lk
  · match k, hi with
    | 0, hi =>
      simp [kpL] at hi
      subst hi
      refine ⟨by simp [uK, kpL], ?_, by omega⟩
      funext p
      unfold upd uK kpL
      by_cases c : p = 0 <;> simp [c]
    | k + 1, hi => simp [kpL] at hi
  · match k, hi with
    | 0, hi =>
      simp [kpL] at hi
      subst hi
      refine ⟨by simp [uK, kpL], ?_, by omega⟩
      funext p
      unfold upd uK kpL
      by_cases c : p = 0 <;> simp [c]
    | 1, hi =>
      simp [kpL] at hi
      subst hi
      refine ⟨?_, ?_, by omega⟩
      · unfold uK kpL
        simp
        omega
      · funext p
        unfold upd uK kpL
        by_cases c : p = N - 1 <;> simp [c]
    | k + 2, hi => simp [kpL] at hi

/-- Is one that is kept used? -/
def badU (u : Nat → Bool) (lk : Bool) (N : Nat) : Prop := ∃ i, kpF lk N i = true ∧ u i = true

set_option maxRecDepth 100000 in
set_option maxHeartbeats 3200000 in
theorem withUsed_c {v : Bool} {h l b : Int} {a g n : Nat} {u : Nat → Bool} (hp : IsNum h l n) (h4 : 4 ≤ szP v n b) (w : World) (hM : MapB w a g (szP v n b) u) :
    Calls Tryz.prog 61 #[pv v h l b, .pointer (some ⟨a, 0, none⟩)] w fun e w' =>
      (¬ badU u (lkP v b) (szP v n b) ∧ e = .returned (.tuple #[.pointer (some ⟨w.heap.size + 1, 0, none⟩), .int .i64 0]) ∧ PoAt w' v h l b (w.heap.size + 1) a g (szP v n b) (fun p => u p || kpF (lkP v b) (szP v n b) p) ∧ But [g] w.heap.size w w') ∨
      (badU u (lkP v b) (szP v n b) ∧ e = .returned (.tuple #[.pointer none, .int .i64 1]) ∧ But [g] w.heap.size w w') := by
  have KE := fun w' f P' => kept_c (v := v) (b := b) (x := w.heap.size + 1) (a := a) (g := g) (f := f) hp (by omega) w' P'
  obtain ⟨N, hN⟩ : ∃ N, szP v n b = N := ⟨_, rfl⟩
  obtain ⟨lk, hlk⟩ : ∃ lk, lkP v b = lk := ⟨_, rfl⟩
  rw [hN] at KE hM h4 ⊢
  rw [hlk] at KE ⊢
  have KH := hide KE
  have l4 := hM.lt
  have MH := hide hM
  clear KE hM hp hN hlk
  go_enter Tryz.func61, Tryz.ntmps61
  go_wp2_with fail
  have P0 : PoAt ((w.alloc (.cells #[.bool v, .int .u64 h, .int .u64 l, .int .i64 b] 28)).alloc (.cells #[.bool v, .int .u64 h, .int .u64 l, .int .i64 b, .pointer (some ⟨a, 0, none⟩)] 90)) v h l b (w.heap.size + 1) a g N u :=
    ⟨by have := Blk.new (w.alloc (.cells #[.bool v, .int .u64 h, .int .u64 l, .int .i64 b] 28)) #[.bool v, .int .u64 h, .int .u64 l, .int .i64 b, .pointer (some ⟨a, 0, none⟩)] 90; simpa using this, MH.out.below (by repeat (first | with_reducible exact Below.refl _ _ | with_reducible refine Below.drew ?_ | with_reducible refine Below.alloc ?_ (by first | omega | (simp <;> omega)) _ | with_reducible refine Below.setCell ?_ (by first | omega | (simp <;> omega)) _))⟩
  have BL : Below w.heap.size w ((w.alloc (.cells #[.bool v, .int .u64 h, .int .u64 l, .int .i64 b] 28)).alloc (.cells #[.bool v, .int .u64 h, .int .u64 l, .int .i64 b, .pointer (some ⟨a, 0, none⟩)] 90)) := by repeat (first | with_reducible exact Below.refl _ _ | with_reducible refine Below.drew ?_ | with_reducible refine Below.alloc ?_ (by first | omega | (simp <;> omega)) _ | with_reducible refine Below.setCell ?_ (by first | omega | (simp <;> omega)) _)
  have KP := hide (KH.out _ _ P0)
  have PH := hide P0
  have BH := hide BL
  clear KH P0 BL MH
  refine KP.out.mono ?_
  rintro e w1 ⟨k, rfl, hk, hkl, hb⟩
  have P1 : Hid (PoAt w1 v h l b (w.heap.size + 1) a g N (uK u lk N 0)) := by rw [uK_zero]; exact PH.out.below hb
  have B1 : Hid (But [g] w.heap.size w w1) := But.of (BH.out.trans (hb.mono BH.out.size)) (Nat.le_refl _)
  have K1 := hide hk
  have kg : k ∉ [g] := by simp at hkl ⊢; omega
  obtain ⟨L, hL⟩ : ∃ L, (kpL lk N).length = L := ⟨_, rfl⟩
  have L2 : L ≤ 2 := hL ▸ kpL_len lk N
  have HL := hide hL
  rw [hL]
  clear hk hkl hb KP PH BH hL
  go_wp2_with fail
  go_loopw [16] (fun t wr => ∃ j : Nat, j ≤ L ∧ t = .int .i64 j ∧ Hid (PoAt wr v h l b (w.heap.size + 1) a g N (uK u lk N j)) ∧ Hid (But [g] w.heap.size w wr) ∧ Hid (Blk wr k (((kpL lk N).map fun i : Nat => Value.int .i64 (i : Int))).toArray 3) ∧ Hid (∀ q i, q < j → (kpL lk N)[q]? = some i → u i = false)) (fun t _ => L - (intOf t).toNat)
  case atStart => exact ⟨0, by omega, rfl, P1, B1, K1, fun q i hq => absurd hq (by omega)⟩
  case round =>
    clear P1 B1 K1
    obtain ⟨j, hj, rfl, P, B, K, G⟩ := hrel
    by_cases hlt : j < L
    · have hlt' : (j : Int) < L := by omega
      obtain ⟨i, hi⟩ : ∃ i, (kpL lk N)[j]? = some i := ⟨_, List.getElem?_eq_getElem (by rw [HL.out]; exact hlt)⟩
      have c := K.out.cell j
      simp only [List.getElem?_toArray, List.getElem?_map, hi, Option.map_some] at c
      obtain ⟨u1, u2, u3⟩ := uK_get (u := u) h4 hi
      obtain ⟨x0, x1, x2, x3, x4, xl⟩ := P.out.hd.five
      cases hu : u i
      · have PT := hide (put_new a g N i (uK u lk N j) u3 (u1.trans hu) wr P.out.m)
        have G2 : Hid (∀ q i, q < j + 1 → (kpL lk N)[q]? = some i → u i = false) := fun q i2 hq h2 => by
          by_cases e : q = j
          · subst e
            rw [hi] at h2
            obtain rfl := Option.some.inj h2
            exact hu
          · exact G.out q i2 (by omega) h2
        rw [← u2] at PT
        have i6 : (i : Int) < 65536 := by omega
        clear u1 u2 u3 hu hi G
        go_wp2_with fail
        refine PT.out.mono ?_
        rintro e w2 ⟨rfl, hM, hK⟩
        have P2 := hide (P.out.turn hM hK)
        have B2 : Hid (But [g] w.heap.size w w2) := B.out.trans (hK.mono B.out.size (fun x hx _ => hx))
        have K2 : Hid (Blk w2 k _ _) := hK.blk K.out K.out.lt kg
        clear hM hK PT P B K x0 x1 x2 x3 x4 c
        go_wp2
        go_roundw
        case rel => exact ⟨j + 1, by omega, by go_num, P2, B2, K2, G2⟩
        case measure => simp [intOf]; omega
      · have PT := hide (put_same a g N i (uK u lk N j) u3 (u1.trans hu) wr P.out.m)
        have bad : Hid (badU u lk N) := ⟨i, by rw [← kp_mem (by omega)]; exact decide_eq_true (List.mem_of_getElem? hi), hu⟩
        have i6 : (i : Int) < 65536 := by omega
        clear u1 u2 u3 hu hi G
        go_wp2_with fail
        refine PT.out.mono ?_
        rintro e w2 ⟨rfl, hM, hK⟩
        have B2 : Hid (But [g] w.heap.size w w2) := B.out.trans (hK.mono B.out.size (fun x hx _ => hx))
        clear hM hK PT P B K x0 x1 x2 x3 x4 c
        go_wp2
        go_ret2
        exact Or.inr ⟨bad.out, rfl, B2.out⟩
    · have hlt' : ¬ (j : Int) < L := by omega
      have good : Hid (¬ badU u lk N) := fun ⟨i, h1, h2⟩ => by
        rw [← kp_mem (by omega)] at h1
        obtain ⟨q, hq⟩ := List.mem_iff_getElem?.1 (of_decide_eq_true h1)
        have : q < (kpL lk N).length := by
          apply Classical.byContradiction
          intro c
          rw [List.getElem?_eq_none (by omega)] at hq
          cases hq
        rw [HL.out] at this
        rw [G.out q i (by omega) hq] at h2
        cases h2
      have PF := P.out
      rw [uK_full (by omega) (by rw [HL.out]; omega)] at PF
      have P2 := hide PF
      clear G PF P
      go_wp2
      go_ret2
      exact Or.inl ⟨good.out, rfl, P2.out, B.out⟩

set_option maxHeartbeats 1600000 in
theorem poNew_ok {v : Bool} {h l b : Int} {n : Nat} (hp : IsNum h l n) (h4 : 4 ≤ szP v n b) (w : World) :
    Calls Tryz.prog 17 #[pv v h l b] w fun e w' => ∃ x a g, e = .returned (.tuple #[.pointer (some ⟨x, 0, none⟩), .int .i64 0]) ∧ PoAt w' v h l b x a g (szP v n b) (kpF (lkP v b) (szP v n b)) ∧ Below w.heap.size w w' ∧ w.heap.size ≤ x ∧ w.heap.size ≤ g := by
  have SZ : Hid (∀ w', _) := fun w' => sizeOf_c (v := v) (b := b) hp w'
  have WU : Hid (∀ a g w', MapB w' a g (szP v n b) (fun _ => false) → _) := fun a g w' hM => withUsed_c (v := v) (b := b) hp h4 w' hM
  have h4' : ¬ (szP v n b : Int) < 4 := by omega
  have le := szP_le (v := v) (n := n) (b := b)
  have ng : Hid (¬ badU (fun _ => false) (lkP v b) (szP v n b)) := fun ⟨i, _, h2⟩ => by cases h2
  obtain ⟨N, hN⟩ : ∃ N, szP v n b = N := ⟨_, rfl⟩
  rw [hN] at SZ WU h4' le ng ⊢
  generalize lkP v b = lk at *
  have K := pfx_start w v h l b
  clear h4 hN hp
  go_enter Tryz.func17, Tryz.ntmps17
  go_wp2_with fail
  refine (SZ.out _).mono ?_
  rintro e w1 ⟨rfl, hb⟩
  have K1 := K.below hb
  have NB := hide (new_b N le w1)
  have F := K1.1
  simp only [Facts, CellsAt] at F
  clear SZ hb K
  go_wp2_with fail
  refine NB.out.mono ?_
  rintro e w2 ⟨rfl, hM, hb, hs⟩
  have K2 := K1.below hb
  have F2 := K2.1
  simp only [Facts, CellsAt] at F2
  have WW := hide (WU.out _ _ w2 hM)
  have KH := hide K2
  have LH := hide K1.bel.size
  have SH := hide hs
  clear hM hb hs NB K1 K2 WU F
  go_wp2_with fail
  refine WW.out.mono ?_
  rintro e w3 (⟨hg, rfl, hP, hK⟩ | ⟨hg, rfl, hK⟩)
  · have PH := hide hP
    have B3 : Hid (Below w.heap.size w w3) := hK.to KH.out.bel LH.out KH.out.bel.size
    clear hg hP hK WW
    go_wp2
    go_ret2
    refine ⟨_, w1.heap.size + 1, _, rfl, ?_, B3.out, ?_, LH.out⟩
    · have := PH.out
      simpa using this
    · have := LH.out
      have := SH.out
      omega
  · exact absurd hg ng.out
end Go.Proofs.YtighdocmncbdnaaGreatDoor

namespace Go.Proofs.YtighdocmncbdnaaGreatDoor
open Go.ChangeShapes Go.WideShapes Go.ChangeAt Go.RowKit
set_option linter.unusedVariables false
set_option linter.unusedSimpArgs false

theorem PoAt.keep {B : Nat} {W W' : World} {v : Bool} {h l b : Int} {x a g N : Nat} {f : Nat → Bool} (P : PoAt W v h l b x a g N f) (k : Below B W W') (hx : x < B) (ha : a < B) (hg : g < B) : PoAt W' v h l b x a g N f :=
  have q : But [] B W W' := But.of k (Nat.le_refl _)
  ⟨q.blk P.hd hx (by simp), P.m.but q ha hg (by simp) (by simp)⟩

set_option maxHeartbeats 1600000 in
theorem poNext_full {v : Bool} {h l b i : Int} {x a g N : Nat} {f : Nat → Bool} (h0 : 0 < N) (i0 : -9223372036854775808 ≤ i) (i1 : i ≤ 9223372036854775807) (hf : nextF f N (i.toNat % N) = none) (w : World) (hT : TB w) (P0 : PoAt w v h l b x a g N f) :
    Calls Tryz.prog 36 #[.pointer (some ⟨x, 0, none⟩), .int .i64 i] w fun e w' => e = .returned (.tuple #[av false 0 0, .int .i64 9]) ∧ Below w.heap.size w w' := by
  have bl : Below w.heap.size w (w.alloc (.cells #[.bool false, .int .u64 0, .int .u64 0] 26)) := by repeat (first | with_reducible exact Below.refl _ _ | with_reducible refine Below.drew ?_ | with_reducible refine Below.alloc ?_ (by first | omega | (simp <;> omega)) _ | with_reducible refine Below.setCell ?_ (by first | omega | (simp <;> omega)) _)
  have NX := next_ok a g N f i i0 i1 h0 _ (P0.m.below bl) (hT.below bl)
  rw [show nxP f N (i.toNat % N) = 0 from by unfold nxP; rw [hf]; rfl, show nxB f N (i.toNat % N) = false from by unfold nxB; rw [hf]; rfl] at NX
  have NH := hide NX
  obtain ⟨x0, x1, x2, x3, x4, xl⟩ := P0.hd.five
  have RB := Blk.new w #[.bool false, .int .u64 0, .int .u64 0] 26
  have RH := hide RB
  have BH := hide bl
  clear bl NX P0 hT RB hf
  go_enter Tryz.func36, Tryz.ntmps36
  go_wp2_with fail
  refine NH.out.mono ?_
  rintro e w1 ⟨rfl, hb⟩
  have R1 := RH.out.below hb
  obtain ⟨r0, r1, r2, r3, r4, r5, r6⟩ := R1.three
  have B := BH.out.trans (hb.mono BH.out.size)
  have hs := B.size
  clear NH RH BH hb R1
  go_wp2
  refine bodyPost_ret (v := .tuple #[av false 0 0, .int .i64 9]) (by simp [results, Tryz.results36, go_sem, World.cell?_setCell_same', World.cell?_setCell_other, *]) rfl ⟨rfl, by repeat (first | with_reducible exact Below.refl _ _ | with_reducible refine Below.drew ?_ | with_reducible refine Below.alloc ?_ (by first | omega | (simp <;> omega)) _ | with_reducible refine Below.setCell ?_ (by first | omega | (simp <;> omega)) _ | with_reducible refine Below.trans ?_ (Below.mono B (by first | omega | (simp <;> omega))))⟩

set_option maxHeartbeats 1600000 in
theorem poNext_ok {v : Bool} {h l b i rh rl : Int} {x a g n p : Nat} {f : Nat → Bool} (hp : IsNum h l n) (h0 : 0 < szP v n b) (i0 : -9223372036854775808 ≤ i) (i1 : i ≤ 9223372036854775807) (hf : nextF f (szP v n b) (i.toNat % szP v n b) = some p) (hr : IsNum rh rl (n + p)) (w : World) (hT : TB w) (P0 : PoAt w v h l b x a g (szP v n b) f) :
    Calls Tryz.prog 36 #[.pointer (some ⟨x, 0, none⟩), .int .i64 i] w fun e w' => e = .returned (.tuple #[av v rh rl, .int .i64 0]) ∧ PoAt w' v h l b x a g (szP v n b) (upd f p true) ∧ But [g] w.heap.size w w' := by
  have ok := szP_ok h0
  obtain ⟨hpn, hfp⟩ := nextF_is (Nat.mod_lt _ h0) hf
  have le := szP_le (v := v) (n := n) (b := b)
  have HO := hide (fun w' hx => host_c (a := a) (x := x) hp ok hpn hr w' hx)
  obtain ⟨N, hN⟩ : ∃ N, szP v n b = N := ⟨_, rfl⟩
  rw [hN] at h0 hf hpn le P0 ⊢
  have bl : Below w.heap.size w (w.alloc (.cells #[.bool false, .int .u64 0, .int .u64 0] 26)) := by repeat (first | with_reducible exact Below.refl _ _ | with_reducible refine Below.drew ?_ | with_reducible refine Below.alloc ?_ (by first | omega | (simp <;> omega)) _ | with_reducible refine Below.setCell ?_ (by first | omega | (simp <;> omega)) _)
  have NX := next_ok a g N f i i0 i1 h0 _ (P0.m.below bl) (hT.below bl)
  rw [show nxP f N (i.toNat % N) = p from by unfold nxP; rw [hf]; rfl, show nxB f N (i.toNat % N) = true from by unfold nxB; rw [hf]; rfl] at NX
  have NH := hide NX
  obtain ⟨x0, x1, x2, x3, x4, xl⟩ := P0.hd.five
  have l4 := P0.m.lt
  have P1 := hide (P0.below bl)
  have RB := Blk.new w #[.bool false, .int .u64 0, .int .u64 0] 26
  have RH := hide RB
  have BH := hide bl
  have hp6 : (p : Int) < 65536 := by omega
  have HF := hide hfp
  clear bl NX P0 hT RB hf hp ok hr hN hfp
  go_enter Tryz.func36, Tryz.ntmps36
  go_wp2_with fail
  refine NH.out.mono ?_
  rintro e w1 ⟨rfl, hb⟩
  have P2 := P1.out.below hb
  have R1 := hide (RH.out.below hb)
  have B1 := hide (BH.out.trans (hb.mono BH.out.size))
  have PT := hide (put_new a g N p f hpn HF.out w1 P2.m)
  obtain ⟨y0, y1, y2, y3, y4, yl⟩ := P2.hd.five
  have PH2 := hide P2
  clear NH RH BH hb P1 P2 HF x0 x1 x2 x3 x4
  go_wp2_with fail
  refine PT.out.mono ?_
  rintro e w2 ⟨rfl, hM, hK⟩
  have P3 := PH2.out.turn hM hK
  have R2 := hide (hK.blk R1.out R1.out.lt (by simp; omega))
  have B2 := hide ((But.of (L := [g]) B1.out (Nat.le_refl _)).trans (hK.mono B1.out.size (fun x hx _ => hx)))
  have HOW := hide (HO.out w2 P3.hd)
  have PH3 := hide P3
  clear PT hM hK PH2 R1 B1 P3 HO y0 y1 y2 y3 y4
  go_wp2_with fail
  refine HOW.out.mono ?_
  rintro e w3 ⟨rfl, hb⟩
  have R3 := R2.out.below hb
  obtain ⟨r0, r1, r2, r3, r4, r5, r6⟩ := R3.three
  have P4 := hide (PH3.out.below hb)
  have B3 := hide (B2.out.trans (But.of (L := [g]) hb B2.out.size))
  have hs : w.heap.size ≤ w3.heap.size := B3.out.size
  clear HOW hb R2 B2 PH3 R3
  go_wp2
  have E : ∀ W', Below w.heap.size w3 W' → PoAt W' v h l b x a g N (upd f p true) ∧ But [g] w.heap.size w W' := fun W' k => ⟨P4.out.keep k xl l4.1 l4.2.1, B3.out.trans (But.of k (Nat.le_refl _))⟩
  refine bodyPost_ret (v := .tuple #[av v rh rl, .int .i64 0]) (by simp [results, Tryz.results36, go_sem, World.cell?_setCell_same', World.cell?_setCell_other, *]) rfl ⟨rfl, E _ (by repeat (first | with_reducible exact Below.refl _ _ | with_reducible refine Below.drew ?_ | with_reducible refine Below.alloc ?_ (by first | omega | (simp <;> omega)) _ | with_reducible refine Below.setCell ?_ (by first | omega | (simp <;> omega)) _))⟩

end Go.Proofs.YtighdocmncbdnaaGreatDoor

namespace Go.Proofs.YtighdocmncbdnaaGreatDoor
open Go.ChangeShapes Go.WideShapes Go.ChangeAt Go.RowKit
set_option linter.unusedVariables false
set_option linter.unusedSimpArgs false

theorem parse6_ex : parsePF [49, 48, 46, 48, 46, 48, 46, 48, 47, 51, 48] = some (false, 167772160, 30) := by decide +kernel

theorem print6_ex1 : prA false 167772162 = ⟨#[49, 48, 46, 48, 46, 48, 46, 50]⟩ := by decide +kernel

theorem print6_ex2 : prA false 167772161 = ⟨#[49, 48, 46, 48, 46, 48, 46, 49]⟩ := by decide +kernel

theorem sz6 : szP false 167772160 30 = 4 := by decide +kernel

theorem lk6 : lkP false 30 = true := by decide +kernel

set_option maxRecDepth 100000 in
set_option maxHeartbeats 3200000 in
theorem awake6_c (w : World) (hL : LW w) (hT : TB w) : Calls Tryz.prog 15 #[] w fun e w' => e = .returned (.bool true) ∧ Below w.heap.size w w' := by
  have hz := hL.sz
  have Lx : Hid (∀ W, Below w.heap.size w W → LW W) := fun W hb => hL.of hb hz
  have Tx : Hid (∀ W, Below w.heap.size w W → TB W) := fun W hb => hT.below hb
  have n0 : IsNum 0 167772160 167772160 := ⟨by omega, by omega, by omega, by omega, rfl⟩
  have n1 : IsNum 0 167772161 167772161 := ⟨by omega, by omega, by omega, by omega, rfl⟩
  have n2 : IsNum 0 167772162 167772162 := ⟨by omega, by omega, by omega, by omega, rfl⟩
  have P1 : Hid (∀ w', LW w' → Calls Tryz.prog 10 #[.string ⟨#[49, 48, 46, 48, 46, 48, 46, 48, 47, 51, 48]⟩] w' fun e w1 => e = .returned (.tuple #[pv false 0 167772160 30, .int .i64 0]) ∧ Below w'.heap.size w' w1) := fun w' h => pparse_is _ (by decide) (Or.inl ⟨167772160, 30, parse6_ex, n0, rfl, rfl⟩) w' h
  have NW : Hid (∀ w', Calls Tryz.prog 17 #[pv false 0 167772160 30] w' fun e w1 => ∃ x a g, e = .returned (.tuple #[.pointer (some ⟨x, 0, none⟩), .int .i64 0]) ∧ PoAt w1 false 0 167772160 30 x a g 4 (kpF true 4) ∧ Below w'.heap.size w' w1 ∧ w'.heap.size ≤ x ∧ w'.heap.size ≤ g) := fun w' => by
    have := poNew_ok n0 (by rw [sz6]; decide) w'
    rw [sz6, lk6] at this
    exact this
  have X1 : Hid (∀ x a g w', TB w' → PoAt w' false 0 167772160 30 x a g 4 (kpF true 4) → Calls Tryz.prog 36 #[.pointer (some ⟨x, 0, none⟩), .int .i64 2] w' fun e w1 => e = .returned (.tuple #[av false 0 167772162, .int .i64 0]) ∧ PoAt w1 false 0 167772160 30 x a g 4 (upd (kpF true 4) 2 true) ∧ But [g] w'.heap.size w' w1) := fun x a g w' hT P => by
    have := poNext_ok (x := x) (a := a) (g := g) (f := kpF true 4) (i := 2) (p := 2) n0 (by rw [sz6]; decide) (by decide) (by decide) (by rw [sz6]; decide) n2 w' hT (by rw [sz6]; exact P)
    rw [sz6] at this
    exact this
  have X2 : Hid (∀ x a g w', TB w' → PoAt w' false 0 167772160 30 x a g 4 (upd (kpF true 4) 2 true) → Calls Tryz.prog 36 #[.pointer (some ⟨x, 0, none⟩), .int .i64 2] w' fun e w1 => e = .returned (.tuple #[av false 0 167772161, .int .i64 0]) ∧ PoAt w1 false 0 167772160 30 x a g 4 (upd (upd (kpF true 4) 2 true) 1 true) ∧ But [g] w'.heap.size w' w1) := fun x a g w' hT P => by
    have := poNext_ok (x := x) (a := a) (g := g) (f := upd (kpF true 4) 2 true) (i := 2) (p := 1) n0 (by rw [sz6]; decide) (by decide) (by decide) (by rw [sz6]; decide) n1 w' hT (by rw [sz6]; exact P)
    rw [sz6] at this
    exact this
  have X3 : Hid (∀ x a g w', TB w' → PoAt w' false 0 167772160 30 x a g 4 (upd (upd (kpF true 4) 2 true) 1 true) → Calls Tryz.prog 36 #[.pointer (some ⟨x, 0, none⟩), .int .i64 2] w' fun e w1 => e = .returned (.tuple #[av false 0 0, .int .i64 9]) ∧ Below w'.heap.size w' w1) := fun x a g w' hT P => poNext_full (by decide) (by decide) (by decide) (by decide) w' hT P
  have T1 : Hid (∀ w', LW w' → Calls Tryz.prog 52 #[av false 0 167772162] w' fun e w1 => e = .returned (.string ⟨#[49, 48, 46, 48, 46, 48, 46, 50]⟩) ∧ Below w'.heap.size w' w1) := fun w' h => print6_ex1 ▸ aprint_c n2 w' h
  have T2 : Hid (∀ w', LW w' → Calls Tryz.prog 52 #[av false 0 167772161] w' fun e w1 => e = .returned (.string ⟨#[49, 48, 46, 48, 46, 48, 46, 49]⟩) ∧ Below w'.heap.size w' w1) := fun w' h => print6_ex2 ▸ aprint_c n1 w' h
  clear n0 n1 n2 hL hT
  go_enter Tryz.func15, Tryz.ntmps15
  go_wp2_with fail
  refine (P1.out _ (Lx.out _ (by repeat (first | with_reducible exact Below.refl _ _ | with_reducible refine Below.drew ?_ | with_reducible refine Below.alloc ?_ (by first | omega | (simp <;> omega)) _ | with_reducible refine Below.setCell ?_ (by first | omega | (simp <;> omega)) _)))).mono ?_
  rintro e w1 ⟨rfl, hb1⟩
  have K1 := (Kn.of (w := w) (W := w1) (L := []) trivial hb1).push (b := w1.heap.size) (cs := [.bool false, .int .u64 0, .int .u64 167772160, .int .i64 30]) (t := 28) rfl
  have KH := hide K1
  clear P1 hb1 K1
  go_wp2_with fail
  refine (NW.out _).mono ?_
  rintro e w2 ⟨x, a, g, rfl, hP, hb, hx, hg⟩
  have B2 := hide (KH.out.below hb).bel
  have P2 := hide hP
  have G2 : Hid (w.heap.size ≤ g) := Nat.le_trans KH.out.bel.size hg
  have XX := hide (X1.out x a g w2 (Tx.out _ B2.out) hP)
  clear NW hP hb hx hg KH X1
  go_wp2_with fail
  refine XX.out.mono ?_
  rintro e w3 ⟨rfl, hP, hK⟩
  have B3 := hide (hK.to B2.out G2.out B2.out.size)
  have bl : Below w3.heap.size w3 (w3.alloc (.cells #[.bool false, .int .u64 0, .int .u64 167772162] 26)) := by repeat (first | with_reducible exact Below.refl _ _ | with_reducible refine Below.drew ?_ | with_reducible refine Below.alloc ?_ (by first | omega | (simp <;> omega)) _ | with_reducible refine Below.setCell ?_ (by first | omega | (simp <;> omega)) _)
  have B3' := hide (B3.out.trans (bl.mono B3.out.size))
  have P3' := hide (hP.below bl)
  have A3 := hide (Blk.new w3 #[.bool false, .int .u64 0, .int .u64 167772162] 26)
  have ne3 : Hid (w3.heap.size ∉ [g]) := by show _ ∉ _; have := hP.m.lt; simp; omega
  have XX2 := hide (X2.out x a g _ (Tx.out _ B3'.out) P3'.out)
  clear XX hP hK X2 bl P2 B2
  go_wp2_with fail
  refine XX2.out.mono ?_
  rintro e w4 ⟨rfl, hP, hK⟩
  have A4 := hide (hK.blk A3.out A3.out.lt ne3.out)
  have B4 := hide (hK.to B3'.out G2.out B3'.out.size)
  have bl : Below w4.heap.size w4 (w4.alloc (.cells #[.bool false, .int .u64 0, .int .u64 167772161] 26)) := by repeat (first | with_reducible exact Below.refl _ _ | with_reducible refine Below.drew ?_ | with_reducible refine Below.alloc ?_ (by first | omega | (simp <;> omega)) _ | with_reducible refine Below.setCell ?_ (by first | omega | (simp <;> omega)) _)
  have B4' := hide (B4.out.trans (bl.mono B4.out.size))
  have P4' := hide (hP.below bl)
  have A4' := hide (A4.out.below bl)
  have C4 := hide (Blk.new w4 #[.bool false, .int .u64 0, .int .u64 167772161] 26)
  have XX3 := hide (X3.out x a g _ (Tx.out _ B4'.out) P4'.out)
  clear XX2 hP hK X3 bl A3 A4 B3 B3' P3' ne3
  go_wp2_with fail
  refine XX3.out.mono ?_
  rintro e w5 ⟨rfl, hb⟩
  have A5 := A4'.out.below hb
  have C5 := C4.out.below hb
  have B5 := B4'.out.trans (hb.mono B4'.out.size)
  have K5 := ((Kn.of (w := w) (W := w5) (L := []) trivial B5).cons (cs := [.bool false, .int .u64 0, .int .u64 167772162]) A5).cons (cs := [.bool false, .int .u64 0, .int .u64 167772161]) C5
  have K6 := K5.push (b := w5.heap.size) (cs := [.bool false, .int .u64 0, .int .u64 0]) (t := 26) rfl
  have F := K6.1
  simp only [Facts, CellsAt] at F
  have KH := hide K6
  clear XX3 hb A5 C5 B5 K5 K6 A4' C4 B4' P4' B4
  go_wp2_with fail
  refine (T1.out _ (Lx.out _ KH.out.bel)).mono ?_
  rintro e w6 ⟨rfl, hb⟩
  have K7 := KH.out.below hb
  have F7 := K7.1
  simp only [Facts, CellsAt] at F7
  have KH7 := hide K7
  clear hb T1 KH K7 F
  go_wp2_with fail
  refine (T2.out _ (Lx.out _ KH7.out.bel)).mono ?_
  rintro e w7 ⟨rfl, hb⟩
  have B8 := (KH7.out.below hb).bel
  clear hb T2 KH7 F7
  go_wp2
  go_ret
  exact ⟨by first | rfl | simp, B8⟩
end Go.Proofs.YtighdocmncbdnaaGreatDoor

namespace Go.Proofs.YtighdocmncbdnaaGreatDoor
open Go.ChangeShapes Go.WideShapes Go.ChangeAt Go.RowKit
set_option linter.unusedVariables false
set_option linter.unusedSimpArgs false

set_option maxRecDepth 100000 in
set_option maxHeartbeats 3200000 in
theorem ponil_walk (s : Bool) (ah al n : Int) (w : World) (hL : LW w) (hT : TB w) : Calls Tryz.prog 8 #[av s ah al, .int .i64 n] w fun e w' => e = .returned (.bool true) ∧ Below w.heap.size w w' := by
  have hz := hL.sz
  have K := (Kn.nil w).push (b := w.heap.size) (cs := [.bool s, .int .u64 ah, .int .u64 al]) (t := 26) rfl
  have AW := hide (awake6_c _ (hL.of K.bel hz) (hT.below K.bel))
  have KH := hide K
  clear hL hT K hz
  go_enter Tryz.func8, Tryz.ntmps8
  go_wp2_with fail
  refine AW.out.mono ?_
  rintro e w0 ⟨rfl, hb⟩
  have K := KH.out.below hb
  have F := K.1
  simp only [Facts, CellsAt] at F
  replace KH := hide K
  clear hb AW K
  go_wp2_with fail
  refine (poNext_nil n _).mono ?_
  rintro e w1 ⟨rfl, hb⟩
  have K := (KH.out.below hb).push (b := w1.heap.size) (cs := [.bool false, .int .u64 0, .int .u64 0]) (t := 26) rfl
  have F1 := K.1
  simp only [Facts, CellsAt] at F1
  have KH1 := hide K
  clear hb KH K F
  go_wp2_with fail
  refine (poTake_nil s ah al _).mono ?_
  rintro e w2 ⟨rfl, hb⟩
  have K := KH1.out.below hb
  have F2 := K.1
  simp only [Facts, CellsAt] at F2
  have KH2 := hide K
  clear hb KH1 K F1
  go_wp2_with fail
  refine (poFree_nil s ah al _).mono ?_
  rintro e w3 ⟨rfl, hb⟩
  have K := KH2.out.below hb
  have F3 := K.1
  simp only [Facts, CellsAt] at F3
  have KH3 := hide K
  clear hb KH2 K F2
  go_wp2_with fail
  refine (may_nil s ah al _).mono ?_
  rintro e w4 ⟨rfl, hb⟩
  have K := KH3.out.below hb
  have F4 := K.1
  simp only [Facts, CellsAt] at F4
  have KH4 := hide K
  clear hb KH3 K F3
  go_wp2_with fail
  refine (poHas_nil s ah al _).mono ?_
  rintro e w5 ⟨rfl, hb⟩
  have K := KH4.out.below hb
  have F5 := K.1
  simp only [Facts, CellsAt] at F5
  have KH5 := hide K
  clear hb KH4 K F4
  go_wp2_with fail
  refine (psize_nil _).mono ?_
  rintro e w5b ⟨rfl, hw⟩
  subst hw
  go_wp2_with fail
  refine (poLeft_nil _).mono ?_
  rintro e w6 ⟨rfl, hb⟩
  have K := KH5.out.below hb
  have F6 := K.1
  simp only [Facts, CellsAt] at F6
  have KH6 := hide K
  clear hb KH5 K F5
  go_wp2_with fail
  refine (poUsed_nil _).mono ?_
  rintro e w7 ⟨rfl, hb⟩
  have K := KH6.out.below hb
  have F7 := K.1
  simp only [Facts, CellsAt] at F7
  have KH7 := hide K
  clear hb KH6 K F6
  go_wp2_with fail
  refine (poCopy_nil _).mono ?_
  rintro e w8 ⟨rfl, hb⟩
  have K := KH7.out.below hb
  have F8 := K.1
  simp only [Facts, CellsAt] at F8
  have KH8 := hide K
  clear hb KH7 K F7
  go_wp2_with fail
  refine (poBytes_nil _).mono ?_
  rintro e w9 ⟨rfl, hb⟩
  have K := KH8.out.below hb
  have F9 := K.1
  simp only [Facts, CellsAt] at F9
  have KH9 := hide K
  clear hb KH8 K F8
  go_wp2_with fail
  refine (poPrefix_nil _).mono ?_
  rintro e w10 ⟨rfl, hb⟩
  have K := KH9.out.below hb
  have F10 := K.1
  simp only [Facts, CellsAt] at F10
  have KH10 := hide K
  clear hb KH9 K F9
  have B := KH10.out.bel
  go_wp2
  go_ret
  exact ⟨by first | rfl | simp, B⟩
end Go.Proofs.YtighdocmncbdnaaGreatDoor
