/-
  What alike of package prefix returns: how many first bits two addresses of one family have alike.
-/
import Derived.Test.YtmhnfgfdggjdhaaGreatDoorPfx8
import Derived.Test.YtmhnfgfdggjdhaaGreatDoorRef3e
namespace Go.Proofs.YtmhnfgfdggjdhaaGreatDoor
open Go.ChangeShapes Go.WideShapes Go.ChangeAt Go.RowKit
set_option linter.unusedVariables false
set_option linter.unusedSimpArgs false

theorem AlikeIs.uniq {W : Nat} {f g : Nat → Nat} {k j : Nat} (x : AlikeIs W f g k) (y : AlikeIs W f g j) : k = j := by
  apply Classical.byContradiction
  intro h
  rcases Nat.lt_or_gt_of_ne h with h | h
  · have := y.1; exact x.2.2 (by omega) (y.2.1 k h)
  · have := x.1; exact y.2.2 (by omega) (x.2.1 j h)

theorem xor_words {a b : Nat} (ha : a < 340282366920938463463374607431768211456) (hb : b < 340282366920938463463374607431768211456) : (a ||| b) &&& (340282366920938463463374607431768211455 - (a &&& b)) = a ^^^ b := by
  have e : (340282366920938463463374607431768211456 : Nat) = 2 ^ 128 := by decide
  have l : a &&& b < 2 ^ 128 := Nat.lt_of_le_of_lt Nat.and_le_left (e ▸ ha)
  apply Nat.eq_of_testBit_eq
  intro i
  rw [show 340282366920938463463374607431768211455 - (a &&& b) = 2 ^ 128 - ((a &&& b) + 1) by rw [← e]; omega, Nat.testBit_and, Nat.testBit_or, Nat.testBit_two_pow_sub_succ l, Nat.testBit_and, Nat.testBit_xor]
  by_cases h : i < 128
  · simp only [h, decide_true, Bool.true_and]
    cases a.testBit i <;> cases b.testBit i <;> rfl
  · have h1 : a.testBit i = false := Nat.testBit_lt_two_pow (Nat.lt_of_lt_of_le (e ▸ ha) (Nat.pow_le_pow_right (by decide) (by omega)))
    have h2 : b.testBit i = false := Nat.testBit_lt_two_pow (Nat.lt_of_lt_of_le (e ▸ hb) (Nat.pow_le_pow_right (by decide) (by omega)))
    simp [h1, h2]

theorem bitN_eq_iff {a b j : Nat} : bitN a j = bitN b j ↔ (a ^^^ b).testBit j = false := by
  rw [bitN_test, bitN_test, Nat.testBit_xor]
  cases a.testBit j <;> cases b.testBit j <;> simp

theorem alike_len {W a b : Nat} (ha : a < 2 ^ W) (hb : b < 2 ^ W) : Go.bitLen (a ^^^ b) ≤ W ∧ AlikeIs W (fun i => bitN a (W - 1 - i)) (fun i => bitN b (W - 1 - i)) (W - Go.bitLen (a ^^^ b)) := by
  have hx := Nat.xor_lt_two_pow ha hb
  have hl := bitLen_le_of_lt hx
  have sp := Go.bitLen_spec (a ^^^ b)
  refine ⟨hl, by omega, fun i hi => ?_, fun h => ?_⟩
  · refine bitN_eq_iff.2 (Nat.testBit_lt_two_pow (Nat.lt_of_lt_of_le sp.1 (Nat.pow_le_pow_right (by decide) (by omega))))
  · intro c
    have c2 := bitN_eq_iff.1 c
    rw [show W - 1 - (W - Go.bitLen (a ^^^ b)) = Go.bitLen (a ^^^ b) - 1 by omega] at c2
    have pos : a ^^^ b ≠ 0 := by
      intro z
      rw [z] at h
      have : Go.bitLen 0 = 0 := by have := bitLen_le_of_lt (x := 0) (k := 0) (by decide); omega
      omega
    have lo : 2 ^ (Go.bitLen (a ^^^ b) - 1) ≤ a ^^^ b := by
      have := sp.2
      first | exact this (by omega) | exact this pos | exact this
    have hi : a ^^^ b < 2 ^ (Go.bitLen (a ^^^ b) - 1 + 1) := by
      rw [show Go.bitLen (a ^^^ b) - 1 + 1 = Go.bitLen (a ^^^ b) by omega]; exact sp.1
    have t := Nat.testBit_of_two_pow_le_and_two_pow_add_one_gt lo hi
    rw [t] at c2
    cases c2

/-- What alike keeps. -/
def AK (w : World) (v : Bool) (ah al : Int) (u : Bool) (bh bl : Int) (wx : World) : Prop :=
  (wx.cell? ⟨w.heap.size, 0, none⟩ = some (.bool v) ∧ wx.cell? ⟨w.heap.size, 1, none⟩ = some (.int .u64 ah) ∧ wx.cell? ⟨w.heap.size, 2, none⟩ = some (.int .u64 al) ∧ wx.cell? ⟨w.heap.size + 1, 0, none⟩ = some (.bool u) ∧ wx.cell? ⟨w.heap.size + 1, 1, none⟩ = some (.int .u64 bh) ∧ wx.cell? ⟨w.heap.size + 1, 2, none⟩ = some (.int .u64 bl)) ∧ Blk wx w.heap.size #[.bool v, .int .u64 ah, .int .u64 al] 26 ∧ Blk wx (w.heap.size + 1) #[.bool u, .int .u64 bh, .int .u64 bl] 26 ∧ Below w.heap.size w wx

theorem AK.of {w : World} {v : Bool} {ah al : Int} {u : Bool} {bh bl : Int} {wx : World} (x : Blk wx w.heap.size #[.bool v, .int .u64 ah, .int .u64 al] 26) (y : Blk wx (w.heap.size + 1) #[.bool u, .int .u64 bh, .int .u64 bl] 26) (z : Below w.heap.size w wx) : AK w v ah al u bh bl wx :=
  ⟨⟨x.cell 0, x.cell 1, x.cell 2, y.cell 0, y.cell 1, y.cell 2⟩, x, y, z⟩

theorem AK.drew {w : World} {v : Bool} {ah al : Int} {u : Bool} {bh bl : Int} {wx : World} (s : AK w v ah al u bh bl wx) : AK w v ah al u bh bl wx.drew := AK.of s.2.1 s.2.2.1 s.2.2.2.drew

theorem AK.below {w : World} {v : Bool} {ah al : Int} {u : Bool} {bh bl : Int} {wx w1 : World} (s : AK w v ah al u bh bl wx) (hb : Below wx.heap.size wx w1) : AK w v ah al u bh bl w1 := AK.of (s.2.1.below hb) (s.2.2.1.below hb) (s.2.2.2.trans (hb.mono s.2.2.2.size))

theorem AK.alloc {w : World} {v : Bool} {ah al : Int} {u : Bool} {bh bl : Int} {wx : World} (s : AK w v ah al u bh bl wx) (o : Obj) : AK w v ah al u bh bl (wx.alloc o) := AK.of (s.2.1.alloc o) (s.2.2.1.alloc o) (s.2.2.2.alloc (Nat.le_of_lt s.2.1.lt) o)

theorem AK.far {w : World} {v : Bool} {ah al : Int} {u : Bool} {bh bl : Int} {wx : World} (s : AK w v ah al u bh bl wx) {c : Nat} (hc : w.heap.size + 1 < c) (x y : Value) : AK w v ah al u bh bl ((wx.setCell ⟨c, 0, none⟩ x).setCell ⟨c, 1, none⟩ y) := AK.of (s.2.1.far2 (by omega) _ _) (s.2.2.1.far2 (by omega) _ _) ((s.2.2.2.setCell (by simp; omega) _).setCell (by simp; omega) _)

theorem AK.start (w : World) (v : Bool) (ah al : Int) (u : Bool) (bh bl : Int) : AK w v ah al u bh bl ((w.alloc (.cells #[.bool v, .int .u64 ah, .int .u64 al] 26)).alloc (.cells #[.bool u, .int .u64 bh, .int .u64 bl] 26)) :=
  AK.of ((Blk.new _ _ _).alloc _) (by simpa using Blk.new (w.alloc (.cells #[.bool v, .int .u64 ah, .int .u64 al] 26)) #[.bool u, .int .u64 bh, .int .u64 bl] 26) (by repeat (first | with_reducible exact Below.refl _ _ | with_reducible refine Below.drew ?_ | with_reducible refine Below.alloc ?_ (by first | omega | (simp <;> omega)) _ | with_reducible refine Below.setCell ?_ (by first | omega | (simp <;> omega)) _))

theorem Blk.new1 (W : World) (o : Obj) (cs : Array Value) (t : TypeId) : Blk ((W.alloc o).alloc (.cells cs t)) (W.heap.size + 1) cs t := by simpa using Blk.new (W.alloc o) cs t

theorem Blk.news (W : World) (p q : Addr) (x y : Value) (cs : Array Value) (t : TypeId) : Blk (((W.setCell p x).setCell q y).alloc (.cells cs t)) W.heap.size cs t := by simpa using Blk.new ((W.setCell p x).setCell q y) cs t

/-- What alike keeps, and the two numbers. -/
def AK2 (w : World) (v : Bool) (ah al : Int) (u : Bool) (bh bl : Int) (P Q : Nat) (oh ol nh nl : Int) (wx : World) : Prop :=
  (wx.cell? ⟨w.heap.size, 0, none⟩ = some (.bool v) ∧ wx.cell? ⟨w.heap.size, 1, none⟩ = some (.int .u64 ah) ∧ wx.cell? ⟨w.heap.size, 2, none⟩ = some (.int .u64 al) ∧ wx.cell? ⟨P, 0, none⟩ = some (.int .u64 oh) ∧ wx.cell? ⟨P, 1, none⟩ = some (.int .u64 ol) ∧ wx.cell? ⟨Q, 0, none⟩ = some (.int .u64 nh) ∧ wx.cell? ⟨Q, 1, none⟩ = some (.int .u64 nl)) ∧ Blk wx P #[.int .u64 oh, .int .u64 ol] 24 ∧ Blk wx Q #[.int .u64 nh, .int .u64 nl] 24 ∧ AK w v ah al u bh bl wx

theorem AK2.of {w : World} {v : Bool} {ah al : Int} {u : Bool} {bh bl : Int} {P Q : Nat} {oh ol nh nl : Int} {wx : World} (x : Blk wx P #[.int .u64 oh, .int .u64 ol] 24) (y : Blk wx Q #[.int .u64 nh, .int .u64 nl] 24) (z : AK w v ah al u bh bl wx) : AK2 w v ah al u bh bl P Q oh ol nh nl wx :=
  ⟨⟨z.1.1, z.1.2.1, z.1.2.2.1, x.cell 0, x.cell 1, y.cell 0, y.cell 1⟩, x, y, z⟩

theorem AK2.drew {w : World} {v : Bool} {ah al : Int} {u : Bool} {bh bl : Int} {P Q : Nat} {oh ol nh nl : Int} {wx : World} (s : AK2 w v ah al u bh bl P Q oh ol nh nl wx) : AK2 w v ah al u bh bl P Q oh ol nh nl wx.drew := AK2.of s.2.1 s.2.2.1 s.2.2.2.drew

theorem AK2.below {w : World} {v : Bool} {ah al : Int} {u : Bool} {bh bl : Int} {P Q : Nat} {oh ol nh nl : Int} {wx w1 : World} (s : AK2 w v ah al u bh bl P Q oh ol nh nl wx) (hb : Below wx.heap.size wx w1) : AK2 w v ah al u bh bl P Q oh ol nh nl w1 := AK2.of (s.2.1.below hb) (s.2.2.1.below hb) (s.2.2.2.below hb)

set_option maxRecDepth 100000 in
set_option maxHeartbeats 3200000 in
theorem alike_w {v u : Bool} {ah al bh bl W k : Int} {a b : Nat} (ha : IsNum ah al a) (hb : IsNum bh bl b) (hW : widthA v = W) (hk : k = W - ((Go.bitLen (a ^^^ b) : Nat) : Int)) (hb0 : ((Go.bitLen (a ^^^ b) : Nat) : Int) ≤ 128) (w : World) :
    Calls Tryz.prog 57 #[av v ah al, av u bh bl] w fun e w' => e = .returned (.int .i64 k) ∧ Below w.heap.size w w' := by
  have hW2 := width_le v
  have la := ha.lt
  have lb := hb.lt
  have e128 : (340282366920938463463374607431768211456 : Nat) = 2 ^ 128 := by decide
  obtain ⟨oh, ol, ho⟩ := IsNum.ex (n := a ||| b) (by rw [e128]; exact Nat.or_lt_two_pow (e128 ▸ la) (e128 ▸ lb))
  obtain ⟨nh, nl, hn⟩ := IsNum.ex (n := a &&& b) (Nat.lt_of_le_of_lt Nat.and_le_left la)
  obtain ⟨th, tl, ht⟩ := IsNum.ex (n := 340282366920938463463374607431768211455 - (a &&& b)) (by omega)
  obtain ⟨xh, xl, hx⟩ := IsNum.ex (n := a ^^^ b) (by rw [e128]; exact Nat.xor_lt_two_pow (e128 ▸ la) (e128 ▸ lb))
  obtain ⟨L, hLn⟩ : ∃ L : Int, L = ((Go.bitLen (a ^^^ b) : Nat) : Int) := ⟨_, rfl⟩
  have CO : Hid (∀ w', Calls Tryz.prog 54 #[nv ah al, nv bh bl] w' fun e w1 => e = .returned (nv oh ol) ∧ Below w'.heap.size w' w1) := fun w' => or_is ha hb ho w'
  have CA : Hid (∀ w', Calls Tryz.prog 88 #[nv ah al, nv bh bl] w' fun e w1 => e = .returned (nv nh nl) ∧ Below w'.heap.size w' w1) := fun w' => and_is ha hb hn w'
  have CN : Hid (∀ w', Calls Tryz.prog 89 #[nv nh nl] w' fun e w1 => e = .returned (nv th tl) ∧ Below w'.heap.size w' w1) := fun w' => not_is hn ht w'
  have CX : Hid (∀ w', Calls Tryz.prog 88 #[nv oh ol, nv th tl] w' fun e w1 => e = .returned (nv xh xl) ∧ Below w'.heap.size w' w1) := fun w' => and_is ho ht (hx.cast (xor_words la lb).symm) w'
  have CL : Hid (∀ w', Calls Tryz.prog 53 #[nv xh xl] w' fun e w1 => e = .returned (.int .i64 L) ∧ Below w'.heap.size w' w1) := fun w' => len_is hx hLn w'
  have CW : Hid (∀ w', Calls Tryz.prog 19 #[av v ah al] w' fun e w1 => e = .returned (.int .i64 W) ∧ Below w'.heap.size w' w1) := fun w' => width_lit v W hW ah al w'
  have hkL : Hid (k = W - L) := by show _ = _; rw [hLn]; exact hk
  have hw1 : IntKind.i64.wrap (W - L) = W - L := by simp [IntKind.wrap, IntKind.bits, IntKind.signed]; omega
  have R0 := AK.start w v ah al u bh bl
  clear ha hb hk hW la lb e128 ho hn ht hx hLn hb0 hW2
  obtain ⟨w0, hw0⟩ : ∃ w0, w0 = (w.alloc (.cells #[.bool v, .int .u64 ah, .int .u64 al] 26)).alloc (.cells #[.bool u, .int .u64 bh, .int .u64 bl] 26) := ⟨_, rfl⟩
  rw [← hw0] at R0
  have hs0 := R0.2.2.1.lt
  go_enter Tryz.func57, Tryz.ntmps57
  go_upto_region 1 with fail
  rw [← hw0]
  clear hw0
  go_cut [5, 6] (fun p q wc => ∃ P Q : Nat, p = .pointer (some ⟨P, 0, none⟩) ∧ q = .pointer (some ⟨Q, 0, none⟩) ∧ Blk wc P #[.int .u64 oh, .int .u64 ol] 24 ∧ Blk wc Q #[.int .u64 nh, .int .u64 nl] 24 ∧ AK w v ah al u bh bl wc)
  case first =>
    refine wp_region_held_drew (S := (AK w v ah al u bh bl)) (by kernel_rfl) ?hS5001 (fun hHeld => ?rest5001)
    case hS5001 => (first | with_reducible exact R0.drew | with_reducible exact (R0.alloc _).drew | with_reducible exact ((R0.alloc _).alloc _).drew | with_reducible exact hHeld.below hb4 | with_reducible exact hHeld.below hb5 | with_reducible exact hHeld.alloc _ | with_reducible exact hHeld.far (by omega) _ _ | with_reducible exact K5.alloc _ | with_reducible exact (K5.alloc _).alloc _ | with_reducible exact (K5.alloc _).far (by omega) _ _ | with_reducible exact (K5.far (by omega) _ _).alloc _ | with_reducible exact ((K5.alloc _).alloc _).far (by omega) _ _)
    refine wpAnyH_take (i := 0) (oi := _) (v := ?v5002) (List.getElem?_toArray.trans rfl) (by kernel_rfl) (by kernel_rfl) (by kernel_rfl) (fun _ _ _ h => h) (Or.inl ⟨by rfl, ?hy5002⟩) (by assumption) ?rest5002
    case hy5002 => (intro wq hSw; (try simp only [Two, AK] at hSw); go_simp; try with_reducible rfl)
    try simp only [Act.put, List.setIfInBounds_toArray, List.set_cons_zero, List.set_cons_succ]
    refine wpAnyH_take (i := 1) (oi := _) (v := ?v5003) (List.getElem?_toArray.trans rfl) (by kernel_rfl) (by kernel_rfl) (by kernel_rfl) (fun _ _ _ h => h) (Or.inl ⟨by rfl, ?hy5003⟩) (by assumption) ?rest5003
    case hy5003 => (intro wq hSw; (try simp only [Two, AK] at hSw); go_simp; try with_reducible rfl)
    try simp only [Act.put, List.setIfInBounds_toArray, List.set_cons_zero, List.set_cons_succ]
    refine wpAnyH_take (i := 2) (oi := _) (v := ?v5004) (List.getElem?_toArray.trans rfl) (by kernel_rfl) (by kernel_rfl) (by kernel_rfl) (fun _ _ _ h => h) (Or.inl ⟨by rfl, ?hy5004⟩) (by assumption) ?rest5004
    case hy5004 => (intro wq hSw; (try simp only [Two, AK] at hSw); go_simp; try with_reducible rfl)
    try simp only [Act.put, List.setIfInBounds_toArray, List.set_cons_zero, List.set_cons_succ]
    refine wpAnyH_take (i := 3) (oi := _) (v := ?v5005) (List.getElem?_toArray.trans rfl) (by kernel_rfl) (by kernel_rfl) (by kernel_rfl) (fun _ _ _ h => h) (Or.inl ⟨by rfl, ?hy5005⟩) (by assumption) ?rest5005
    case hy5005 => (intro wq hSw; (try simp only [Two, AK] at hSw); go_simp; try with_reducible rfl)
    try simp only [Act.put, List.setIfInBounds_toArray, List.set_cons_zero, List.set_cons_succ]
    refine wpAnyH_take (i := 5) (oi := _) (v := ?v5006) (List.getElem?_toArray.trans rfl) (by kernel_rfl) (by kernel_rfl) (by kernel_rfl) (fun _ _ _ h => h) (Or.inl ⟨by rfl, ?hy5006⟩) (by assumption) ?rest5006
    case hy5006 => (intro wq hSw; (try simp only [Two, AK] at hSw); go_simp; try with_reducible rfl)
    try simp only [Act.put, List.setIfInBounds_toArray, List.set_cons_zero, List.set_cons_succ]
    refine wpAnyH_take (i := 6) (oi := _) (v := ?v5007) (List.getElem?_toArray.trans rfl) (by kernel_rfl) (by kernel_rfl) (by kernel_rfl) (fun _ _ _ h => h) (Or.inl ⟨by rfl, ?hy5007⟩) (by assumption) ?rest5007
    case hy5007 => (intro wq hSw; (try simp only [Two, AK] at hSw); go_simp; try with_reducible rfl)
    try simp only [Act.put, List.setIfInBounds_toArray, List.set_cons_zero, List.set_cons_succ]
    refine wpAnyH_take (i := 7) (oi := _) (v := ?v5008) (List.getElem?_toArray.trans rfl) (by kernel_rfl) (by kernel_rfl) (by kernel_rfl) (fun _ _ _ h => h) (Or.inl ⟨by rfl, ?hy5008⟩) (by assumption) ?rest5008
    case hy5008 => (intro wq hSw; (try simp only [Two, AK] at hSw); go_simp; try with_reducible rfl)
    try simp only [Act.put, List.setIfInBounds_toArray, List.set_cons_zero, List.set_cons_succ]
    refine wpAnyH_take (i := 8) (oi := _) (v := ?v5009) (List.getElem?_toArray.trans rfl) (by kernel_rfl) (by kernel_rfl) (by kernel_rfl) (fun _ _ _ h => h) (Or.inl ⟨by rfl, ?hy5009⟩) (by assumption) ?rest5009
    case hy5009 => (intro wq hSw; (try simp only [Two, AK] at hSw); go_simp; try with_reducible rfl)
    try simp only [Act.put, List.setIfInBounds_toArray, List.set_cons_zero, List.set_cons_succ]
    refine wpAnyH_ready (rs := [4, 10, 11]) (by kernel_rfl) (by simp) ?rdy5010
    refine (AllReadyH.cons (List.getElem?_toArray.trans rfl) (fun K hK => ?stp5010_4) (AllReadyH.cons (List.getElem?_toArray.trans rfl) (fun K hK => ?stp5010_10) (AllReadyH.cons (List.getElem?_toArray.trans rfl) (fun K hK => ?stp5010_11) AllReadyH.nil)))
    case stp5010_4 =>
      go_simp
      go_wp2_with fail
      (refine (CO.out _).mono ?_; rintro e w4 ⟨rfl, hb4⟩; have s4 : w0.heap.size ≤ w4.heap.size := (by have := hb4.size; first | exact this | (simp at this; omega)); first | (have U4 : Blk w4 w0.heap.size #[.int .u64 0, .int .u64 0] 24 := Blk.via hb4 ((Blk.new w0 #[.int .u64 0, .int .u64 0] 24).alloc (.cells #[.int .u64 0, .int .u64 0] 24)) rfl; have V4 : Blk w4 (w0.heap.size + 1) #[.int .u64 0, .int .u64 0] 24 := Blk.via hb4 (Blk.new1 w0 (.cells #[.int .u64 0, .int .u64 0] 24) #[.int .u64 0, .int .u64 0] 24) rfl; obtain ⟨u0, u1, u2, u3, u4⟩ := U4.two; obtain ⟨y0, y1, y2, y3, y4⟩ := V4.two) | (have U4 : Blk w4 w0.heap.size #[.int .u64 0, .int .u64 0] 24 := Blk.via hb4 (Blk.new w0 #[.int .u64 0, .int .u64 0] 24) rfl; obtain ⟨u0, u1, u2, u3, u4⟩ := U4.two) | skip)
      go_wp2_with fail
      refine hK.out _ _ ?hSn5011 (fun hHeld2 => ?rest5011)
      case hSn5011 => (first | with_reducible exact R0.drew | with_reducible exact (R0.alloc _).drew | with_reducible exact ((R0.alloc _).alloc _).drew | with_reducible exact hHeld.below hb4 | with_reducible exact hHeld.below hb5 | with_reducible exact hHeld.alloc _ | with_reducible exact hHeld.far (by omega) _ _ | with_reducible exact K5.alloc _ | with_reducible exact (K5.alloc _).alloc _ | with_reducible exact (K5.alloc _).far (by omega) _ _ | with_reducible exact (K5.far (by omega) _ _).alloc _ | with_reducible exact ((K5.alloc _).alloc _).far (by omega) _ _)
      clear hK K hHeld
      have hHeld := hHeld2
      clear hHeld2
      try simp only [Act.put, List.setIfInBounds_toArray, List.set_cons_zero, List.set_cons_succ]
      refine wpAnyH_ready (rs := [9, 10, 11]) (by kernel_rfl) (by simp) ?rdy5012
      refine (AllReadyH.cons (List.getElem?_toArray.trans rfl) (fun K hK => ?stp5012_9) (AllReadyH.cons (List.getElem?_toArray.trans rfl) (fun K hK => ?stp5012_10) (AllReadyH.cons (List.getElem?_toArray.trans rfl) (fun K hK => ?stp5012_11) AllReadyH.nil)))
      case stp5012_9 =>
        go_simp
        go_wp2_with fail
        (refine (CA.out _).mono ?_; rintro e w5 ⟨rfl, hb5⟩; have K5 := hHeld.below hb5; have s5 : w4.heap.size ≤ w5.heap.size := (by have := hb5.size; first | exact this | (simp at this; omega)); (first | (have U5 := U4.below hb5; obtain ⟨a0, a1, a2, a3, a4⟩ := U5.two) | (have U5 := Blk.via hb5 (U4.alloc (.cells #[.int .u64 0, .int .u64 0] 24)) rfl; obtain ⟨a0, a1, a2, a3, a4⟩ := U5.two) | (have U5 := Blk.via hb5 ((U4.alloc (.cells #[.int .u64 0, .int .u64 0] 24)).alloc (.cells #[.int .u64 0, .int .u64 0] 24)) rfl; obtain ⟨a0, a1, a2, a3, a4⟩ := U5.two) | skip); (first | (have V5 := V4.below hb5; obtain ⟨b0, b1, b2, b3, b4⟩ := V5.two) | (have V5 := Blk.via hb5 (V4.alloc (.cells #[.int .u64 0, .int .u64 0] 24)) rfl; obtain ⟨b0, b1, b2, b3, b4⟩ := V5.two) | (have V5 := Blk.via hb5 ((V4.alloc (.cells #[.int .u64 0, .int .u64 0] 24)).alloc (.cells #[.int .u64 0, .int .u64 0] 24)) rfl; obtain ⟨b0, b1, b2, b3, b4⟩ := V5.two) | skip); first | (have X5 : Blk w5 w4.heap.size #[.int .u64 0, .int .u64 0] 24 := Blk.via hb5 ((Blk.new w4 #[.int .u64 0, .int .u64 0] 24).alloc (.cells #[.int .u64 0, .int .u64 0] 24)) rfl; have Y5 : Blk w5 (w4.heap.size + 1) #[.int .u64 0, .int .u64 0] 24 := Blk.via hb5 (Blk.new1 w4 (.cells #[.int .u64 0, .int .u64 0] 24) #[.int .u64 0, .int .u64 0] 24) rfl; obtain ⟨p0, p1, p2, p3, p4⟩ := X5.two; obtain ⟨q0, q1, q2, q3, q4⟩ := Y5.two) | (have X5 : Blk w5 w4.heap.size #[.int .u64 0, .int .u64 0] 24 := Blk.via hb5 (Blk.new w4 #[.int .u64 0, .int .u64 0] 24) rfl; obtain ⟨p0, p1, p2, p3, p4⟩ := X5.two) | skip)
        go_wp2_with fail
        refine hK.out _ _ ?hSn5013 (fun hHeld2 => ?rest5013)
        case hSn5013 => (first | with_reducible exact R0.drew | with_reducible exact (R0.alloc _).drew | with_reducible exact ((R0.alloc _).alloc _).drew | with_reducible exact hHeld.below hb4 | with_reducible exact hHeld.below hb5 | with_reducible exact hHeld.alloc _ | with_reducible exact hHeld.far (by omega) _ _ | with_reducible exact K5.alloc _ | with_reducible exact (K5.alloc _).alloc _ | with_reducible exact (K5.alloc _).far (by omega) _ _ | with_reducible exact (K5.far (by omega) _ _).alloc _ | with_reducible exact ((K5.alloc _).alloc _).far (by omega) _ _)
        clear hK K hHeld
        have hHeld := hHeld2
        clear hHeld2
        try simp only [Act.put, List.setIfInBounds_toArray, List.set_cons_zero, List.set_cons_succ]
        refine wpAnyH_ready (rs := [10, 11]) (by kernel_rfl) (by simp) ?rdy5014
        refine (AllReadyH.cons (List.getElem?_toArray.trans rfl) (fun K hK => ?stp5014_10) (AllReadyH.cons (List.getElem?_toArray.trans rfl) (fun K hK => ?stp5014_11) AllReadyH.nil))
        case stp5014_10 =>
          go_simp
          go_wp2_with fail
          refine hK.out _ _ ?hSn5015 (fun hHeld2 => ?rest5015)
          case hSn5015 => (first | with_reducible exact R0.drew | with_reducible exact (R0.alloc _).drew | with_reducible exact ((R0.alloc _).alloc _).drew | with_reducible exact hHeld.below hb4 | with_reducible exact hHeld.below hb5 | with_reducible exact hHeld.alloc _ | with_reducible exact hHeld.far (by omega) _ _ | with_reducible exact K5.alloc _ | with_reducible exact (K5.alloc _).alloc _ | with_reducible exact (K5.alloc _).far (by omega) _ _ | with_reducible exact (K5.far (by omega) _ _).alloc _ | with_reducible exact ((K5.alloc _).alloc _).far (by omega) _ _)
          clear hK K hHeld
          have hHeld := hHeld2
          clear hHeld2
          try simp only [Act.put, List.setIfInBounds_toArray, List.set_cons_zero, List.set_cons_succ]
          refine wpAnyH_ready (rs := [11]) (by kernel_rfl) (by simp) ?rdy5016
          refine (AllReadyH.cons (List.getElem?_toArray.trans rfl) (fun K hK => ?stp5016_11) AllReadyH.nil)
          case stp5016_11 =>
            go_simp
            go_wp2_with fail
            refine hK.out _ _ ?hSn5017 (fun hHeld2 => ?rest5017)
            case hSn5017 => (first | with_reducible exact R0.drew | with_reducible exact (R0.alloc _).drew | with_reducible exact ((R0.alloc _).alloc _).drew | with_reducible exact hHeld.below hb4 | with_reducible exact hHeld.below hb5 | with_reducible exact hHeld.alloc _ | with_reducible exact hHeld.far (by omega) _ _ | with_reducible exact K5.alloc _ | with_reducible exact (K5.alloc _).alloc _ | with_reducible exact (K5.alloc _).far (by omega) _ _ | with_reducible exact (K5.far (by omega) _ _).alloc _ | with_reducible exact ((K5.alloc _).alloc _).far (by omega) _ _)
            clear hK K hHeld
            have hHeld := hHeld2
            clear hHeld2
            try simp only [Act.put, List.setIfInBounds_toArray, List.set_cons_zero, List.set_cons_succ]
            refine wpAnyH_ready (rs := [12]) (by kernel_rfl) (by simp) ?rdy5018
            refine (AllReadyH.cons (List.getElem?_toArray.trans rfl) (fun K hK => ?stp5018_12) AllReadyH.nil)
            case stp5018_12 =>
              go_simp
              go_wp2_with fail
              refine hK.out _ _ ?hSn5019 (fun hHeld2 => ?rest5019)
              case hSn5019 => (first | with_reducible exact R0.drew | with_reducible exact (R0.alloc _).drew | with_reducible exact ((R0.alloc _).alloc _).drew | with_reducible exact hHeld.below hb4 | with_reducible exact hHeld.below hb5 | with_reducible exact hHeld.alloc _ | with_reducible exact hHeld.far (by omega) _ _ | with_reducible exact K5.alloc _ | with_reducible exact (K5.alloc _).alloc _ | with_reducible exact (K5.alloc _).far (by omega) _ _ | with_reducible exact (K5.far (by omega) _ _).alloc _ | with_reducible exact ((K5.alloc _).alloc _).far (by omega) _ _)
              clear hK K hHeld
              have hHeld := hHeld2
              clear hHeld2
              try simp only [Act.put, List.setIfInBounds_toArray, List.set_cons_zero, List.set_cons_succ]
              refine wpAnyH_ready (rs := [13]) (by kernel_rfl) (by simp) ?rdy5020
              refine (AllReadyH.cons (List.getElem?_toArray.trans rfl) (fun K hK => ?stp5020_13) AllReadyH.nil)
              case stp5020_13 =>
                go_simp
                go_wp2_with fail
                refine hK.out _ _ ?hSn5021 (fun hHeld2 => ?rest5021)
                case hSn5021 => (first | with_reducible exact R0.drew | with_reducible exact (R0.alloc _).drew | with_reducible exact ((R0.alloc _).alloc _).drew | with_reducible exact hHeld.below hb4 | with_reducible exact hHeld.below hb5 | with_reducible exact hHeld.alloc _ | with_reducible exact hHeld.far (by omega) _ _ | with_reducible exact K5.alloc _ | with_reducible exact (K5.alloc _).alloc _ | with_reducible exact (K5.alloc _).far (by omega) _ _ | with_reducible exact (K5.far (by omega) _ _).alloc _ | with_reducible exact ((K5.alloc _).alloc _).far (by omega) _ _)
                clear hK K hHeld
                have hHeld := hHeld2
                clear hHeld2
                try simp only [Act.put, List.setIfInBounds_toArray, List.set_cons_zero, List.set_cons_succ]
                refine wpAnyH_done (by kernel_rfl) ?_ _
                go_wp2_with fail
                go_meet
                case rel => exact ⟨_, _, rfl, rfl, (by (repeat (first | with_reducible exact Blk.new _ _ _ | with_reducible exact Blk.new1 _ _ _ _ | with_reducible exact Blk.news _ _ _ _ _ _ _ | with_reducible exact U5 | with_reducible exact V5 | with_reducible exact X5 | with_reducible exact Y5 | with_reducible refine Blk.put2 (x := .int .u64 0) (y := .int .u64 0) ?_ _ _ | with_reducible refine Blk.far2 ?_ (by omega) _ _ | with_reducible refine Blk.alloc ?_ _))), (by (repeat (first | with_reducible exact Blk.new _ _ _ | with_reducible exact Blk.new1 _ _ _ _ | with_reducible exact Blk.news _ _ _ _ _ _ _ | with_reducible exact U5 | with_reducible exact V5 | with_reducible exact X5 | with_reducible exact Y5 | with_reducible refine Blk.put2 (x := .int .u64 0) (y := .int .u64 0) ?_ _ _ | with_reducible refine Blk.far2 ?_ (by omega) _ _ | with_reducible refine Blk.alloc ?_ _))), hHeld⟩
        case stp5014_11 =>
          go_simp
          go_wp2_with fail
          refine hK.out _ _ ?hSn5022 (fun hHeld2 => ?rest5022)
          case hSn5022 => (first | with_reducible exact R0.drew | with_reducible exact (R0.alloc _).drew | with_reducible exact ((R0.alloc _).alloc _).drew | with_reducible exact hHeld.below hb4 | with_reducible exact hHeld.below hb5 | with_reducible exact hHeld.alloc _ | with_reducible exact hHeld.far (by omega) _ _ | with_reducible exact K5.alloc _ | with_reducible exact (K5.alloc _).alloc _ | with_reducible exact (K5.alloc _).far (by omega) _ _ | with_reducible exact (K5.far (by omega) _ _).alloc _ | with_reducible exact ((K5.alloc _).alloc _).far (by omega) _ _)
          clear hK K hHeld
          have hHeld := hHeld2
          clear hHeld2
          try simp only [Act.put, List.setIfInBounds_toArray, List.set_cons_zero, List.set_cons_succ]
          refine wpAnyH_ready (rs := [10]) (by kernel_rfl) (by simp) ?rdy5023
          refine (AllReadyH.cons (List.getElem?_toArray.trans rfl) (fun K hK => ?stp5023_10) AllReadyH.nil)
          case stp5023_10 =>
            go_simp
            go_wp2_with fail
            refine hK.out _ _ ?hSn5024 (fun hHeld2 => ?rest5024)
            case hSn5024 => (first | with_reducible exact R0.drew | with_reducible exact (R0.alloc _).drew | with_reducible exact ((R0.alloc _).alloc _).drew | with_reducible exact hHeld.below hb4 | with_reducible exact hHeld.below hb5 | with_reducible exact hHeld.alloc _ | with_reducible exact hHeld.far (by omega) _ _ | with_reducible exact K5.alloc _ | with_reducible exact (K5.alloc _).alloc _ | with_reducible exact (K5.alloc _).far (by omega) _ _ | with_reducible exact (K5.far (by omega) _ _).alloc _ | with_reducible exact ((K5.alloc _).alloc _).far (by omega) _ _)
            clear hK K hHeld
            have hHeld := hHeld2
            clear hHeld2
            try simp only [Act.put, List.setIfInBounds_toArray, List.set_cons_zero, List.set_cons_succ]
            refine wpAnyH_ready (rs := [12]) (by kernel_rfl) (by simp) ?rdy5025
            refine (AllReadyH.cons (List.getElem?_toArray.trans rfl) (fun K hK => ?stp5025_12) AllReadyH.nil)
            case stp5025_12 =>
              go_simp
              go_wp2_with fail
              refine hK.out _ _ ?hSn5026 (fun hHeld2 => ?rest5026)
              case hSn5026 => (first | with_reducible exact R0.drew | with_reducible exact (R0.alloc _).drew | with_reducible exact ((R0.alloc _).alloc _).drew | with_reducible exact hHeld.below hb4 | with_reducible exact hHeld.below hb5 | with_reducible exact hHeld.alloc _ | with_reducible exact hHeld.far (by omega) _ _ | with_reducible exact K5.alloc _ | with_reducible exact (K5.alloc _).alloc _ | with_reducible exact (K5.alloc _).far (by omega) _ _ | with_reducible exact (K5.far (by omega) _ _).alloc _ | with_reducible exact ((K5.alloc _).alloc _).far (by omega) _ _)
              clear hK K hHeld
              have hHeld := hHeld2
              clear hHeld2
              try simp only [Act.put, List.setIfInBounds_toArray, List.set_cons_zero, List.set_cons_succ]
              refine wpAnyH_ready (rs := [13]) (by kernel_rfl) (by simp) ?rdy5027
              refine (AllReadyH.cons (List.getElem?_toArray.trans rfl) (fun K hK => ?stp5027_13) AllReadyH.nil)
              case stp5027_13 =>
                go_simp
                go_wp2_with fail
                refine hK.out _ _ ?hSn5028 (fun hHeld2 => ?rest5028)
                case hSn5028 => (first | with_reducible exact R0.drew | with_reducible exact (R0.alloc _).drew | with_reducible exact ((R0.alloc _).alloc _).drew | with_reducible exact hHeld.below hb4 | with_reducible exact hHeld.below hb5 | with_reducible exact hHeld.alloc _ | with_reducible exact hHeld.far (by omega) _ _ | with_reducible exact K5.alloc _ | with_reducible exact (K5.alloc _).alloc _ | with_reducible exact (K5.alloc _).far (by omega) _ _ | with_reducible exact (K5.far (by omega) _ _).alloc _ | with_reducible exact ((K5.alloc _).alloc _).far (by omega) _ _)
                clear hK K hHeld
                have hHeld := hHeld2
                clear hHeld2
                try simp only [Act.put, List.setIfInBounds_toArray, List.set_cons_zero, List.set_cons_succ]
                refine wpAnyH_done (by kernel_rfl) ?_ _
                go_wp2_with fail
                go_meet
                case rel => exact ⟨_, _, rfl, rfl, (by (repeat (first | with_reducible exact Blk.new _ _ _ | with_reducible exact Blk.new1 _ _ _ _ | with_reducible exact Blk.news _ _ _ _ _ _ _ | with_reducible exact U5 | with_reducible exact V5 | with_reducible exact X5 | with_reducible exact Y5 | with_reducible refine Blk.put2 (x := .int .u64 0) (y := .int .u64 0) ?_ _ _ | with_reducible refine Blk.far2 ?_ (by omega) _ _ | with_reducible refine Blk.alloc ?_ _))), (by (repeat (first | with_reducible exact Blk.new _ _ _ | with_reducible exact Blk.new1 _ _ _ _ | with_reducible exact Blk.news _ _ _ _ _ _ _ | with_reducible exact U5 | with_reducible exact V5 | with_reducible exact X5 | with_reducible exact Y5 | with_reducible refine Blk.put2 (x := .int .u64 0) (y := .int .u64 0) ?_ _ _ | with_reducible refine Blk.far2 ?_ (by omega) _ _ | with_reducible refine Blk.alloc ?_ _))), hHeld⟩
      case stp5012_10 =>
        go_simp
        go_wp2_with fail
        refine hK.out _ _ ?hSn5029 (fun hHeld2 => ?rest5029)
        case hSn5029 => (first | with_reducible exact R0.drew | with_reducible exact (R0.alloc _).drew | with_reducible exact ((R0.alloc _).alloc _).drew | with_reducible exact hHeld.below hb4 | with_reducible exact hHeld.below hb5 | with_reducible exact hHeld.alloc _ | with_reducible exact hHeld.far (by omega) _ _ | with_reducible exact K5.alloc _ | with_reducible exact (K5.alloc _).alloc _ | with_reducible exact (K5.alloc _).far (by omega) _ _ | with_reducible exact (K5.far (by omega) _ _).alloc _ | with_reducible exact ((K5.alloc _).alloc _).far (by omega) _ _)
        clear hK K hHeld
        have hHeld := hHeld2
        clear hHeld2
        try simp only [Act.put, List.setIfInBounds_toArray, List.set_cons_zero, List.set_cons_succ]
        refine wpAnyH_ready (rs := [9, 11]) (by kernel_rfl) (by simp) ?rdy5030
        refine (AllReadyH.cons (List.getElem?_toArray.trans rfl) (fun K hK => ?stp5030_9) (AllReadyH.cons (List.getElem?_toArray.trans rfl) (fun K hK => ?stp5030_11) AllReadyH.nil))
        case stp5030_9 =>
          go_simp
          go_wp2_with fail
          (refine (CA.out _).mono ?_; rintro e w5 ⟨rfl, hb5⟩; have K5 := hHeld.below hb5; have s5 : w4.heap.size ≤ w5.heap.size := (by have := hb5.size; first | exact this | (simp at this; omega)); (first | (have U5 := U4.below hb5; obtain ⟨a0, a1, a2, a3, a4⟩ := U5.two) | (have U5 := Blk.via hb5 (U4.alloc (.cells #[.int .u64 0, .int .u64 0] 24)) rfl; obtain ⟨a0, a1, a2, a3, a4⟩ := U5.two) | (have U5 := Blk.via hb5 ((U4.alloc (.cells #[.int .u64 0, .int .u64 0] 24)).alloc (.cells #[.int .u64 0, .int .u64 0] 24)) rfl; obtain ⟨a0, a1, a2, a3, a4⟩ := U5.two) | skip); (first | (have V5 := V4.below hb5; obtain ⟨b0, b1, b2, b3, b4⟩ := V5.two) | (have V5 := Blk.via hb5 (V4.alloc (.cells #[.int .u64 0, .int .u64 0] 24)) rfl; obtain ⟨b0, b1, b2, b3, b4⟩ := V5.two) | (have V5 := Blk.via hb5 ((V4.alloc (.cells #[.int .u64 0, .int .u64 0] 24)).alloc (.cells #[.int .u64 0, .int .u64 0] 24)) rfl; obtain ⟨b0, b1, b2, b3, b4⟩ := V5.two) | skip); first | (have X5 : Blk w5 w4.heap.size #[.int .u64 0, .int .u64 0] 24 := Blk.via hb5 ((Blk.new w4 #[.int .u64 0, .int .u64 0] 24).alloc (.cells #[.int .u64 0, .int .u64 0] 24)) rfl; have Y5 : Blk w5 (w4.heap.size + 1) #[.int .u64 0, .int .u64 0] 24 := Blk.via hb5 (Blk.new1 w4 (.cells #[.int .u64 0, .int .u64 0] 24) #[.int .u64 0, .int .u64 0] 24) rfl; obtain ⟨p0, p1, p2, p3, p4⟩ := X5.two; obtain ⟨q0, q1, q2, q3, q4⟩ := Y5.two) | (have X5 : Blk w5 w4.heap.size #[.int .u64 0, .int .u64 0] 24 := Blk.via hb5 (Blk.new w4 #[.int .u64 0, .int .u64 0] 24) rfl; obtain ⟨p0, p1, p2, p3, p4⟩ := X5.two) | skip)
          go_wp2_with fail
          refine hK.out _ _ ?hSn5031 (fun hHeld2 => ?rest5031)
          case hSn5031 => (first | with_reducible exact R0.drew | with_reducible exact (R0.alloc _).drew | with_reducible exact ((R0.alloc _).alloc _).drew | with_reducible exact hHeld.below hb4 | with_reducible exact hHeld.below hb5 | with_reducible exact hHeld.alloc _ | with_reducible exact hHeld.far (by omega) _ _ | with_reducible exact K5.alloc _ | with_reducible exact (K5.alloc _).alloc _ | with_reducible exact (K5.alloc _).far (by omega) _ _ | with_reducible exact (K5.far (by omega) _ _).alloc _ | with_reducible exact ((K5.alloc _).alloc _).far (by omega) _ _)
          clear hK K hHeld
          have hHeld := hHeld2
          clear hHeld2
          try simp only [Act.put, List.setIfInBounds_toArray, List.set_cons_zero, List.set_cons_succ]
          refine wpAnyH_ready (rs := [11]) (by kernel_rfl) (by simp) ?rdy5032
          refine (AllReadyH.cons (List.getElem?_toArray.trans rfl) (fun K hK => ?stp5032_11) AllReadyH.nil)
          case stp5032_11 =>
            go_simp
            go_wp2_with fail
            refine hK.out _ _ ?hSn5033 (fun hHeld2 => ?rest5033)
            case hSn5033 => (first | with_reducible exact R0.drew | with_reducible exact (R0.alloc _).drew | with_reducible exact ((R0.alloc _).alloc _).drew | with_reducible exact hHeld.below hb4 | with_reducible exact hHeld.below hb5 | with_reducible exact hHeld.alloc _ | with_reducible exact hHeld.far (by omega) _ _ | with_reducible exact K5.alloc _ | with_reducible exact (K5.alloc _).alloc _ | with_reducible exact (K5.alloc _).far (by omega) _ _ | with_reducible exact (K5.far (by omega) _ _).alloc _ | with_reducible exact ((K5.alloc _).alloc _).far (by omega) _ _)
            clear hK K hHeld
            have hHeld := hHeld2
            clear hHeld2
            try simp only [Act.put, List.setIfInBounds_toArray, List.set_cons_zero, List.set_cons_succ]
            refine wpAnyH_ready (rs := [12]) (by kernel_rfl) (by simp) ?rdy5034
            refine (AllReadyH.cons (List.getElem?_toArray.trans rfl) (fun K hK => ?stp5034_12) AllReadyH.nil)
            case stp5034_12 =>
              go_simp
              go_wp2_with fail
              refine hK.out _ _ ?hSn5035 (fun hHeld2 => ?rest5035)
              case hSn5035 => (first | with_reducible exact R0.drew | with_reducible exact (R0.alloc _).drew | with_reducible exact ((R0.alloc _).alloc _).drew | with_reducible exact hHeld.below hb4 | with_reducible exact hHeld.below hb5 | with_reducible exact hHeld.alloc _ | with_reducible exact hHeld.far (by omega) _ _ | with_reducible exact K5.alloc _ | with_reducible exact (K5.alloc _).alloc _ | with_reducible exact (K5.alloc _).far (by omega) _ _ | with_reducible exact (K5.far (by omega) _ _).alloc _ | with_reducible exact ((K5.alloc _).alloc _).far (by omega) _ _)
              clear hK K hHeld
              have hHeld := hHeld2
              clear hHeld2
              try simp only [Act.put, List.setIfInBounds_toArray, List.set_cons_zero, List.set_cons_succ]
              refine wpAnyH_ready (rs := [13]) (by kernel_rfl) (by simp) ?rdy5036
              refine (AllReadyH.cons (List.getElem?_toArray.trans rfl) (fun K hK => ?stp5036_13) AllReadyH.nil)
              case stp5036_13 =>
                go_simp
                go_wp2_with fail
                refine hK.out _ _ ?hSn5037 (fun hHeld2 => ?rest5037)
                case hSn5037 => (first | with_reducible exact R0.drew | with_reducible exact (R0.alloc _).drew | with_reducible exact ((R0.alloc _).alloc _).drew | with_reducible exact hHeld.below hb4 | with_reducible exact hHeld.below hb5 | with_reducible exact hHeld.alloc _ | with_reducible exact hHeld.far (by omega) _ _ | with_reducible exact K5.alloc _ | with_reducible exact (K5.alloc _).alloc _ | with_reducible exact (K5.alloc _).far (by omega) _ _ | with_reducible exact (K5.far (by omega) _ _).alloc _ | with_reducible exact ((K5.alloc _).alloc _).far (by omega) _ _)
                clear hK K hHeld
                have hHeld := hHeld2
                clear hHeld2
                try simp only [Act.put, List.setIfInBounds_toArray, List.set_cons_zero, List.set_cons_succ]
                refine wpAnyH_done (by kernel_rfl) ?_ _
                go_wp2_with fail
                go_meet
                case rel => exact ⟨_, _, rfl, rfl, (by (repeat (first | with_reducible exact Blk.new _ _ _ | with_reducible exact Blk.new1 _ _ _ _ | with_reducible exact Blk.news _ _ _ _ _ _ _ | with_reducible exact U5 | with_reducible exact V5 | with_reducible exact X5 | with_reducible exact Y5 | with_reducible refine Blk.put2 (x := .int .u64 0) (y := .int .u64 0) ?_ _ _ | with_reducible refine Blk.far2 ?_ (by omega) _ _ | with_reducible refine Blk.alloc ?_ _))), (by (repeat (first | with_reducible exact Blk.new _ _ _ | with_reducible exact Blk.new1 _ _ _ _ | with_reducible exact Blk.news _ _ _ _ _ _ _ | with_reducible exact U5 | with_reducible exact V5 | with_reducible exact X5 | with_reducible exact Y5 | with_reducible refine Blk.put2 (x := .int .u64 0) (y := .int .u64 0) ?_ _ _ | with_reducible refine Blk.far2 ?_ (by omega) _ _ | with_reducible refine Blk.alloc ?_ _))), hHeld⟩
        case stp5030_11 =>
          go_simp
          go_wp2_with fail
          refine hK.out _ _ ?hSn5038 (fun hHeld2 => ?rest5038)
          case hSn5038 => (first | with_reducible exact R0.drew | with_reducible exact (R0.alloc _).drew | with_reducible exact ((R0.alloc _).alloc _).drew | with_reducible exact hHeld.below hb4 | with_reducible exact hHeld.below hb5 | with_reducible exact hHeld.alloc _ | with_reducible exact hHeld.far (by omega) _ _ | with_reducible exact K5.alloc _ | with_reducible exact (K5.alloc _).alloc _ | with_reducible exact (K5.alloc _).far (by omega) _ _ | with_reducible exact (K5.far (by omega) _ _).alloc _ | with_reducible exact ((K5.alloc _).alloc _).far (by omega) _ _)
          clear hK K hHeld
          have hHeld := hHeld2
          clear hHeld2
          try simp only [Act.put, List.setIfInBounds_toArray, List.set_cons_zero, List.set_cons_succ]
          refine wpAnyH_ready (rs := [9]) (by kernel_rfl) (by simp) ?rdy5039
          refine (AllReadyH.cons (List.getElem?_toArray.trans rfl) (fun K hK => ?stp5039_9) AllReadyH.nil)
          case stp5039_9 =>
            go_simp
            go_wp2_with fail
            (refine (CA.out _).mono ?_; rintro e w5 ⟨rfl, hb5⟩; have K5 := hHeld.below hb5; have s5 : w4.heap.size ≤ w5.heap.size := (by have := hb5.size; first | exact this | (simp at this; omega)); (first | (have U5 := U4.below hb5; obtain ⟨a0, a1, a2, a3, a4⟩ := U5.two) | (have U5 := Blk.via hb5 (U4.alloc (.cells #[.int .u64 0, .int .u64 0] 24)) rfl; obtain ⟨a0, a1, a2, a3, a4⟩ := U5.two) | (have U5 := Blk.via hb5 ((U4.alloc (.cells #[.int .u64 0, .int .u64 0] 24)).alloc (.cells #[.int .u64 0, .int .u64 0] 24)) rfl; obtain ⟨a0, a1, a2, a3, a4⟩ := U5.two) | skip); (first | (have V5 := V4.below hb5; obtain ⟨b0, b1, b2, b3, b4⟩ := V5.two) | (have V5 := Blk.via hb5 (V4.alloc (.cells #[.int .u64 0, .int .u64 0] 24)) rfl; obtain ⟨b0, b1, b2, b3, b4⟩ := V5.two) | (have V5 := Blk.via hb5 ((V4.alloc (.cells #[.int .u64 0, .int .u64 0] 24)).alloc (.cells #[.int .u64 0, .int .u64 0] 24)) rfl; obtain ⟨b0, b1, b2, b3, b4⟩ := V5.two) | skip); first | (have X5 : Blk w5 w4.heap.size #[.int .u64 0, .int .u64 0] 24 := Blk.via hb5 ((Blk.new w4 #[.int .u64 0, .int .u64 0] 24).alloc (.cells #[.int .u64 0, .int .u64 0] 24)) rfl; have Y5 : Blk w5 (w4.heap.size + 1) #[.int .u64 0, .int .u64 0] 24 := Blk.via hb5 (Blk.new1 w4 (.cells #[.int .u64 0, .int .u64 0] 24) #[.int .u64 0, .int .u64 0] 24) rfl; obtain ⟨p0, p1, p2, p3, p4⟩ := X5.two; obtain ⟨q0, q1, q2, q3, q4⟩ := Y5.two) | (have X5 : Blk w5 w4.heap.size #[.int .u64 0, .int .u64 0] 24 := Blk.via hb5 (Blk.new w4 #[.int .u64 0, .int .u64 0] 24) rfl; obtain ⟨p0, p1, p2, p3, p4⟩ := X5.two) | skip)
            go_wp2_with fail
            refine hK.out _ _ ?hSn5040 (fun hHeld2 => ?rest5040)
            case hSn5040 => (first | with_reducible exact R0.drew | with_reducible exact (R0.alloc _).drew | with_reducible exact ((R0.alloc _).alloc _).drew | with_reducible exact hHeld.below hb4 | with_reducible exact hHeld.below hb5 | with_reducible exact hHeld.alloc _ | with_reducible exact hHeld.far (by omega) _ _ | with_reducible exact K5.alloc _ | with_reducible exact (K5.alloc _).alloc _ | with_reducible exact (K5.alloc _).far (by omega) _ _ | with_reducible exact (K5.far (by omega) _ _).alloc _ | with_reducible exact ((K5.alloc _).alloc _).far (by omega) _ _)
            clear hK K hHeld
            have hHeld := hHeld2
            clear hHeld2
            try simp only [Act.put, List.setIfInBounds_toArray, List.set_cons_zero, List.set_cons_succ]
            refine wpAnyH_ready (rs := [12]) (by kernel_rfl) (by simp) ?rdy5041
            refine (AllReadyH.cons (List.getElem?_toArray.trans rfl) (fun K hK => ?stp5041_12) AllReadyH.nil)
            case stp5041_12 =>
              go_simp
              go_wp2_with fail
              refine hK.out _ _ ?hSn5042 (fun hHeld2 => ?rest5042)
              case hSn5042 => (first | with_reducible exact R0.drew | with_reducible exact (R0.alloc _).drew | with_reducible exact ((R0.alloc _).alloc _).drew | with_reducible exact hHeld.below hb4 | with_reducible exact hHeld.below hb5 | with_reducible exact hHeld.alloc _ | with_reducible exact hHeld.far (by omega) _ _ | with_reducible exact K5.alloc _ | with_reducible exact (K5.alloc _).alloc _ | with_reducible exact (K5.alloc _).far (by omega) _ _ | with_reducible exact (K5.far (by omega) _ _).alloc _ | with_reducible exact ((K5.alloc _).alloc _).far (by omega) _ _)
              clear hK K hHeld
              have hHeld := hHeld2
              clear hHeld2
              try simp only [Act.put, List.setIfInBounds_toArray, List.set_cons_zero, List.set_cons_succ]
              refine wpAnyH_ready (rs := [13]) (by kernel_rfl) (by simp) ?rdy5043
              refine (AllReadyH.cons (List.getElem?_toArray.trans rfl) (fun K hK => ?stp5043_13) AllReadyH.nil)
              case stp5043_13 =>
                go_simp
                go_wp2_with fail
                refine hK.out _ _ ?hSn5044 (fun hHeld2 => ?rest5044)
                case hSn5044 => (first | with_reducible exact R0.drew | with_reducible exact (R0.alloc _).drew | with_reducible exact ((R0.alloc _).alloc _).drew | with_reducible exact hHeld.below hb4 | with_reducible exact hHeld.below hb5 | with_reducible exact hHeld.alloc _ | with_reducible exact hHeld.far (by omega) _ _ | with_reducible exact K5.alloc _ | with_reducible exact (K5.alloc _).alloc _ | with_reducible exact (K5.alloc _).far (by omega) _ _ | with_reducible exact (K5.far (by omega) _ _).alloc _ | with_reducible exact ((K5.alloc _).alloc _).far (by omega) _ _)
                clear hK K hHeld
                have hHeld := hHeld2
                clear hHeld2
                try simp only [Act.put, List.setIfInBounds_toArray, List.set_cons_zero, List.set_cons_succ]
                refine wpAnyH_done (by kernel_rfl) ?_ _
                go_wp2_with fail
                go_meet
                case rel => exact ⟨_, _, rfl, rfl, (by (repeat (first | with_reducible exact Blk.new _ _ _ | with_reducible exact Blk.new1 _ _ _ _ | with_reducible exact Blk.news _ _ _ _ _ _ _ | with_reducible exact U5 | with_reducible exact V5 | with_reducible exact X5 | with_reducible exact Y5 | with_reducible refine Blk.put2 (x := .int .u64 0) (y := .int .u64 0) ?_ _ _ | with_reducible refine Blk.far2 ?_ (by omega) _ _ | with_reducible refine Blk.alloc ?_ _))), (by (repeat (first | with_reducible exact Blk.new _ _ _ | with_reducible exact Blk.new1 _ _ _ _ | with_reducible exact Blk.news _ _ _ _ _ _ _ | with_reducible exact U5 | with_reducible exact V5 | with_reducible exact X5 | with_reducible exact Y5 | with_reducible refine Blk.put2 (x := .int .u64 0) (y := .int .u64 0) ?_ _ _ | with_reducible refine Blk.far2 ?_ (by omega) _ _ | with_reducible refine Blk.alloc ?_ _))), hHeld⟩
      case stp5012_11 =>
        go_simp
        go_wp2_with fail
        refine hK.out _ _ ?hSn5045 (fun hHeld2 => ?rest5045)
        case hSn5045 => (first | with_reducible exact R0.drew | with_reducible exact (R0.alloc _).drew | with_reducible exact ((R0.alloc _).alloc _).drew | with_reducible exact hHeld.below hb4 | with_reducible exact hHeld.below hb5 | with_reducible exact hHeld.alloc _ | with_reducible exact hHeld.far (by omega) _ _ | with_reducible exact K5.alloc _ | with_reducible exact (K5.alloc _).alloc _ | with_reducible exact (K5.alloc _).far (by omega) _ _ | with_reducible exact (K5.far (by omega) _ _).alloc _ | with_reducible exact ((K5.alloc _).alloc _).far (by omega) _ _)
        clear hK K hHeld
        have hHeld := hHeld2
        clear hHeld2
        try simp only [Act.put, List.setIfInBounds_toArray, List.set_cons_zero, List.set_cons_succ]
        refine wpAnyH_ready (rs := [9, 10]) (by kernel_rfl) (by simp) ?rdy5046
        refine (AllReadyH.cons (List.getElem?_toArray.trans rfl) (fun K hK => ?stp5046_9) (AllReadyH.cons (List.getElem?_toArray.trans rfl) (fun K hK => ?stp5046_10) AllReadyH.nil))
        case stp5046_9 =>
          go_simp
          go_wp2_with fail
          (refine (CA.out _).mono ?_; rintro e w5 ⟨rfl, hb5⟩; have K5 := hHeld.below hb5; have s5 : w4.heap.size ≤ w5.heap.size := (by have := hb5.size; first | exact this | (simp at this; omega)); (first | (have U5 := U4.below hb5; obtain ⟨a0, a1, a2, a3, a4⟩ := U5.two) | (have U5 := Blk.via hb5 (U4.alloc (.cells #[.int .u64 0, .int .u64 0] 24)) rfl; obtain ⟨a0, a1, a2, a3, a4⟩ := U5.two) | (have U5 := Blk.via hb5 ((U4.alloc (.cells #[.int .u64 0, .int .u64 0] 24)).alloc (.cells #[.int .u64 0, .int .u64 0] 24)) rfl; obtain ⟨a0, a1, a2, a3, a4⟩ := U5.two) | skip); (first | (have V5 := V4.below hb5; obtain ⟨b0, b1, b2, b3, b4⟩ := V5.two) | (have V5 := Blk.via hb5 (V4.alloc (.cells #[.int .u64 0, .int .u64 0] 24)) rfl; obtain ⟨b0, b1, b2, b3, b4⟩ := V5.two) | (have V5 := Blk.via hb5 ((V4.alloc (.cells #[.int .u64 0, .int .u64 0] 24)).alloc (.cells #[.int .u64 0, .int .u64 0] 24)) rfl; obtain ⟨b0, b1, b2, b3, b4⟩ := V5.two) | skip); first | (have X5 : Blk w5 w4.heap.size #[.int .u64 0, .int .u64 0] 24 := Blk.via hb5 ((Blk.new w4 #[.int .u64 0, .int .u64 0] 24).alloc (.cells #[.int .u64 0, .int .u64 0] 24)) rfl; have Y5 : Blk w5 (w4.heap.size + 1) #[.int .u64 0, .int .u64 0] 24 := Blk.via hb5 (Blk.new1 w4 (.cells #[.int .u64 0, .int .u64 0] 24) #[.int .u64 0, .int .u64 0] 24) rfl; obtain ⟨p0, p1, p2, p3, p4⟩ := X5.two; obtain ⟨q0, q1, q2, q3, q4⟩ := Y5.two) | (have X5 : Blk w5 w4.heap.size #[.int .u64 0, .int .u64 0] 24 := Blk.via hb5 (Blk.new w4 #[.int .u64 0, .int .u64 0] 24) rfl; obtain ⟨p0, p1, p2, p3, p4⟩ := X5.two) | skip)
          go_wp2_with fail
          refine hK.out _ _ ?hSn5047 (fun hHeld2 => ?rest5047)
          case hSn5047 => (first | with_reducible exact R0.drew | with_reducible exact (R0.alloc _).drew | with_reducible exact ((R0.alloc _).alloc _).drew | with_reducible exact hHeld.below hb4 | with_reducible exact hHeld.below hb5 | with_reducible exact hHeld.alloc _ | with_reducible exact hHeld.far (by omega) _ _ | with_reducible exact K5.alloc _ | with_reducible exact (K5.alloc _).alloc _ | with_reducible exact (K5.alloc _).far (by omega) _ _ | with_reducible exact (K5.far (by omega) _ _).alloc _ | with_reducible exact ((K5.alloc _).alloc _).far (by omega) _ _)
          clear hK K hHeld
          have hHeld := hHeld2
          clear hHeld2
          try simp only [Act.put, List.setIfInBounds_toArray, List.set_cons_zero, List.set_cons_succ]
          refine wpAnyH_ready (rs := [10]) (by kernel_rfl) (by simp) ?rdy5048
          refine (AllReadyH.cons (List.getElem?_toArray.trans rfl) (fun K hK => ?stp5048_10) AllReadyH.nil)
          case stp5048_10 =>
            go_simp
            go_wp2_with fail
            refine hK.out _ _ ?hSn5049 (fun hHeld2 => ?rest5049)
            case hSn5049 => (first | with_reducible exact R0.drew | with_reducible exact (R0.alloc _).drew | with_reducible exact ((R0.alloc _).alloc _).drew | with_reducible exact hHeld.below hb4 | with_reducible exact hHeld.below hb5 | with_reducible exact hHeld.alloc _ | with_reducible exact hHeld.far (by omega) _ _ | with_reducible exact K5.alloc _ | with_reducible exact (K5.alloc _).alloc _ | with_reducible exact (K5.alloc _).far (by omega) _ _ | with_reducible exact (K5.far (by omega) _ _).alloc _ | with_reducible exact ((K5.alloc _).alloc _).far (by omega) _ _)
            clear hK K hHeld
            have hHeld := hHeld2
            clear hHeld2
            try simp only [Act.put, List.setIfInBounds_toArray, List.set_cons_zero, List.set_cons_succ]
            refine wpAnyH_ready (rs := [12]) (by kernel_rfl) (by simp) ?rdy5050
            refine (AllReadyH.cons (List.getElem?_toArray.trans rfl) (fun K hK => ?stp5050_12) AllReadyH.nil)
            case stp5050_12 =>
              go_simp
              go_wp2_with fail
              refine hK.out _ _ ?hSn5051 (fun hHeld2 => ?rest5051)
              case hSn5051 => (first | with_reducible exact R0.drew | with_reducible exact (R0.alloc _).drew | with_reducible exact ((R0.alloc _).alloc _).drew | with_reducible exact hHeld.below hb4 | with_reducible exact hHeld.below hb5 | with_reducible exact hHeld.alloc _ | with_reducible exact hHeld.far (by omega) _ _ | with_reducible exact K5.alloc _ | with_reducible exact (K5.alloc _).alloc _ | with_reducible exact (K5.alloc _).far (by omega) _ _ | with_reducible exact (K5.far (by omega) _ _).alloc _ | with_reducible exact ((K5.alloc _).alloc _).far (by omega) _ _)
              clear hK K hHeld
              have hHeld := hHeld2
              clear hHeld2
              try simp only [Act.put, List.setIfInBounds_toArray, List.set_cons_zero, List.set_cons_succ]
              refine wpAnyH_ready (rs := [13]) (by kernel_rfl) (by simp) ?rdy5052
              refine (AllReadyH.cons (List.getElem?_toArray.trans rfl) (fun K hK => ?stp5052_13) AllReadyH.nil)
              case stp5052_13 =>
                go_simp
                go_wp2_with fail
                refine hK.out _ _ ?hSn5053 (fun hHeld2 => ?rest5053)
                case hSn5053 => (first | with_reducible exact R0.drew | with_reducible exact (R0.alloc _).drew | with_reducible exact ((R0.alloc _).alloc _).drew | with_reducible exact hHeld.below hb4 | with_reducible exact hHeld.below hb5 | with_reducible exact hHeld.alloc _ | with_reducible exact hHeld.far (by omega) _ _ | with_reducible exact K5.alloc _ | with_reducible exact (K5.alloc _).alloc _ | with_reducible exact (K5.alloc _).far (by omega) _ _ | with_reducible exact (K5.far (by omega) _ _).alloc _ | with_reducible exact ((K5.alloc _).alloc _).far (by omega) _ _)
                clear hK K hHeld
                have hHeld := hHeld2
                clear hHeld2
                try simp only [Act.put, List.setIfInBounds_toArray, List.set_cons_zero, List.set_cons_succ]
                refine wpAnyH_done (by kernel_rfl) ?_ _
                go_wp2_with fail
                go_meet
                case rel => exact ⟨_, _, rfl, rfl, (by (repeat (first | with_reducible exact Blk.new _ _ _ | with_reducible exact Blk.new1 _ _ _ _ | with_reducible exact Blk.news _ _ _ _ _ _ _ | with_reducible exact U5 | with_reducible exact V5 | with_reducible exact X5 | with_reducible exact Y5 | with_reducible refine Blk.put2 (x := .int .u64 0) (y := .int .u64 0) ?_ _ _ | with_reducible refine Blk.far2 ?_ (by omega) _ _ | with_reducible refine Blk.alloc ?_ _))), (by (repeat (first | with_reducible exact Blk.new _ _ _ | with_reducible exact Blk.new1 _ _ _ _ | with_reducible exact Blk.news _ _ _ _ _ _ _ | with_reducible exact U5 | with_reducible exact V5 | with_reducible exact X5 | with_reducible exact Y5 | with_reducible refine Blk.put2 (x := .int .u64 0) (y := .int .u64 0) ?_ _ _ | with_reducible refine Blk.far2 ?_ (by omega) _ _ | with_reducible refine Blk.alloc ?_ _))), hHeld⟩
        case stp5046_10 =>
          go_simp
          go_wp2_with fail
          refine hK.out _ _ ?hSn5054 (fun hHeld2 => ?rest5054)
          case hSn5054 => (first | with_reducible exact R0.drew | with_reducible exact (R0.alloc _).drew | with_reducible exact ((R0.alloc _).alloc _).drew | with_reducible exact hHeld.below hb4 | with_reducible exact hHeld.below hb5 | with_reducible exact hHeld.alloc _ | with_reducible exact hHeld.far (by omega) _ _ | with_reducible exact K5.alloc _ | with_reducible exact (K5.alloc _).alloc _ | with_reducible exact (K5.alloc _).far (by omega) _ _ | with_reducible exact (K5.far (by omega) _ _).alloc _ | with_reducible exact ((K5.alloc _).alloc _).far (by omega) _ _)
          clear hK K hHeld
          have hHeld := hHeld2
          clear hHeld2
          try simp only [Act.put, List.setIfInBounds_toArray, List.set_cons_zero, List.set_cons_succ]
          refine wpAnyH_ready (rs := [9]) (by kernel_rfl) (by simp) ?rdy5055
          refine (AllReadyH.cons (List.getElem?_toArray.trans rfl) (fun K hK => ?stp5055_9) AllReadyH.nil)
          case stp5055_9 =>
            go_simp
            go_wp2_with fail
            (refine (CA.out _).mono ?_; rintro e w5 ⟨rfl, hb5⟩; have K5 := hHeld.below hb5; have s5 : w4.heap.size ≤ w5.heap.size := (by have := hb5.size; first | exact this | (simp at this; omega)); (first | (have U5 := U4.below hb5; obtain ⟨a0, a1, a2, a3, a4⟩ := U5.two) | (have U5 := Blk.via hb5 (U4.alloc (.cells #[.int .u64 0, .int .u64 0] 24)) rfl; obtain ⟨a0, a1, a2, a3, a4⟩ := U5.two) | (have U5 := Blk.via hb5 ((U4.alloc (.cells #[.int .u64 0, .int .u64 0] 24)).alloc (.cells #[.int .u64 0, .int .u64 0] 24)) rfl; obtain ⟨a0, a1, a2, a3, a4⟩ := U5.two) | skip); (first | (have V5 := V4.below hb5; obtain ⟨b0, b1, b2, b3, b4⟩ := V5.two) | (have V5 := Blk.via hb5 (V4.alloc (.cells #[.int .u64 0, .int .u64 0] 24)) rfl; obtain ⟨b0, b1, b2, b3, b4⟩ := V5.two) | (have V5 := Blk.via hb5 ((V4.alloc (.cells #[.int .u64 0, .int .u64 0] 24)).alloc (.cells #[.int .u64 0, .int .u64 0] 24)) rfl; obtain ⟨b0, b1, b2, b3, b4⟩ := V5.two) | skip); first | (have X5 : Blk w5 w4.heap.size #[.int .u64 0, .int .u64 0] 24 := Blk.via hb5 ((Blk.new w4 #[.int .u64 0, .int .u64 0] 24).alloc (.cells #[.int .u64 0, .int .u64 0] 24)) rfl; have Y5 : Blk w5 (w4.heap.size + 1) #[.int .u64 0, .int .u64 0] 24 := Blk.via hb5 (Blk.new1 w4 (.cells #[.int .u64 0, .int .u64 0] 24) #[.int .u64 0, .int .u64 0] 24) rfl; obtain ⟨p0, p1, p2, p3, p4⟩ := X5.two; obtain ⟨q0, q1, q2, q3, q4⟩ := Y5.two) | (have X5 : Blk w5 w4.heap.size #[.int .u64 0, .int .u64 0] 24 := Blk.via hb5 (Blk.new w4 #[.int .u64 0, .int .u64 0] 24) rfl; obtain ⟨p0, p1, p2, p3, p4⟩ := X5.two) | skip)
            go_wp2_with fail
            refine hK.out _ _ ?hSn5056 (fun hHeld2 => ?rest5056)
            case hSn5056 => (first | with_reducible exact R0.drew | with_reducible exact (R0.alloc _).drew | with_reducible exact ((R0.alloc _).alloc _).drew | with_reducible exact hHeld.below hb4 | with_reducible exact hHeld.below hb5 | with_reducible exact hHeld.alloc _ | with_reducible exact hHeld.far (by omega) _ _ | with_reducible exact K5.alloc _ | with_reducible exact (K5.alloc _).alloc _ | with_reducible exact (K5.alloc _).far (by omega) _ _ | with_reducible exact (K5.far (by omega) _ _).alloc _ | with_reducible exact ((K5.alloc _).alloc _).far (by omega) _ _)
            clear hK K hHeld
            have hHeld := hHeld2
            clear hHeld2
            try simp only [Act.put, List.setIfInBounds_toArray, List.set_cons_zero, List.set_cons_succ]
            refine wpAnyH_ready (rs := [12]) (by kernel_rfl) (by simp) ?rdy5057
            refine (AllReadyH.cons (List.getElem?_toArray.trans rfl) (fun K hK => ?stp5057_12) AllReadyH.nil)
            case stp5057_12 =>
              go_simp
              go_wp2_with fail
              refine hK.out _ _ ?hSn5058 (fun hHeld2 => ?rest5058)
              case hSn5058 => (first | with_reducible exact R0.drew | with_reducible exact (R0.alloc _).drew | with_reducible exact ((R0.alloc _).alloc _).drew | with_reducible exact hHeld.below hb4 | with_reducible exact hHeld.below hb5 | with_reducible exact hHeld.alloc _ | with_reducible exact hHeld.far (by omega) _ _ | with_reducible exact K5.alloc _ | with_reducible exact (K5.alloc _).alloc _ | with_reducible exact (K5.alloc _).far (by omega) _ _ | with_reducible exact (K5.far (by omega) _ _).alloc _ | with_reducible exact ((K5.alloc _).alloc _).far (by omega) _ _)
              clear hK K hHeld
              have hHeld := hHeld2
              clear hHeld2
              try simp only [Act.put, List.setIfInBounds_toArray, List.set_cons_zero, List.set_cons_succ]
              refine wpAnyH_ready (rs := [13]) (by kernel_rfl) (by simp) ?rdy5059
              refine (AllReadyH.cons (List.getElem?_toArray.trans rfl) (fun K hK => ?stp5059_13) AllReadyH.nil)
              case stp5059_13 =>
                go_simp
                go_wp2_with fail
                refine hK.out _ _ ?hSn5060 (fun hHeld2 => ?rest5060)
                case hSn5060 => (first | with_reducible exact R0.drew | with_reducible exact (R0.alloc _).drew | with_reducible exact ((R0.alloc _).alloc _).drew | with_reducible exact hHeld.below hb4 | with_reducible exact hHeld.below hb5 | with_reducible exact hHeld.alloc _ | with_reducible exact hHeld.far (by omega) _ _ | with_reducible exact K5.alloc _ | with_reducible exact (K5.alloc _).alloc _ | with_reducible exact (K5.alloc _).far (by omega) _ _ | with_reducible exact (K5.far (by omega) _ _).alloc _ | with_reducible exact ((K5.alloc _).alloc _).far (by omega) _ _)
                clear hK K hHeld
                have hHeld := hHeld2
                clear hHeld2
                try simp only [Act.put, List.setIfInBounds_toArray, List.set_cons_zero, List.set_cons_succ]
                refine wpAnyH_done (by kernel_rfl) ?_ _
                go_wp2_with fail
                go_meet
                case rel => exact ⟨_, _, rfl, rfl, (by (repeat (first | with_reducible exact Blk.new _ _ _ | with_reducible exact Blk.new1 _ _ _ _ | with_reducible exact Blk.news _ _ _ _ _ _ _ | with_reducible exact U5 | with_reducible exact V5 | with_reducible exact X5 | with_reducible exact Y5 | with_reducible refine Blk.put2 (x := .int .u64 0) (y := .int .u64 0) ?_ _ _ | with_reducible refine Blk.far2 ?_ (by omega) _ _ | with_reducible refine Blk.alloc ?_ _))), (by (repeat (first | with_reducible exact Blk.new _ _ _ | with_reducible exact Blk.new1 _ _ _ _ | with_reducible exact Blk.news _ _ _ _ _ _ _ | with_reducible exact U5 | with_reducible exact V5 | with_reducible exact X5 | with_reducible exact Y5 | with_reducible refine Blk.put2 (x := .int .u64 0) (y := .int .u64 0) ?_ _ _ | with_reducible refine Blk.far2 ?_ (by omega) _ _ | with_reducible refine Blk.alloc ?_ _))), hHeld⟩
    case stp5010_10 =>
      go_simp
      go_wp2_with fail
      refine hK.out _ _ ?hSn5061 (fun hHeld2 => ?rest5061)
      case hSn5061 => (first | with_reducible exact R0.drew | with_reducible exact (R0.alloc _).drew | with_reducible exact ((R0.alloc _).alloc _).drew | with_reducible exact hHeld.below hb4 | with_reducible exact hHeld.below hb5 | with_reducible exact hHeld.alloc _ | with_reducible exact hHeld.far (by omega) _ _ | with_reducible exact K5.alloc _ | with_reducible exact (K5.alloc _).alloc _ | with_reducible exact (K5.alloc _).far (by omega) _ _ | with_reducible exact (K5.far (by omega) _ _).alloc _ | with_reducible exact ((K5.alloc _).alloc _).far (by omega) _ _)
      clear hK K hHeld
      have hHeld := hHeld2
      clear hHeld2
      try simp only [Act.put, List.setIfInBounds_toArray, List.set_cons_zero, List.set_cons_succ]
      refine wpAnyH_ready (rs := [4, 11]) (by kernel_rfl) (by simp) ?rdy5062
      refine (AllReadyH.cons (List.getElem?_toArray.trans rfl) (fun K hK => ?stp5062_4) (AllReadyH.cons (List.getElem?_toArray.trans rfl) (fun K hK => ?stp5062_11) AllReadyH.nil))
      case stp5062_4 =>
        go_simp
        go_wp2_with fail
        (refine (CO.out _).mono ?_; rintro e w4 ⟨rfl, hb4⟩; have s4 : w0.heap.size ≤ w4.heap.size := (by have := hb4.size; first | exact this | (simp at this; omega)); first | (have U4 : Blk w4 w0.heap.size #[.int .u64 0, .int .u64 0] 24 := Blk.via hb4 ((Blk.new w0 #[.int .u64 0, .int .u64 0] 24).alloc (.cells #[.int .u64 0, .int .u64 0] 24)) rfl; have V4 : Blk w4 (w0.heap.size + 1) #[.int .u64 0, .int .u64 0] 24 := Blk.via hb4 (Blk.new1 w0 (.cells #[.int .u64 0, .int .u64 0] 24) #[.int .u64 0, .int .u64 0] 24) rfl; obtain ⟨u0, u1, u2, u3, u4⟩ := U4.two; obtain ⟨y0, y1, y2, y3, y4⟩ := V4.two) | (have U4 : Blk w4 w0.heap.size #[.int .u64 0, .int .u64 0] 24 := Blk.via hb4 (Blk.new w0 #[.int .u64 0, .int .u64 0] 24) rfl; obtain ⟨u0, u1, u2, u3, u4⟩ := U4.two) | skip)
        go_wp2_with fail
        refine hK.out _ _ ?hSn5063 (fun hHeld2 => ?rest5063)
        case hSn5063 => (first | with_reducible exact R0.drew | with_reducible exact (R0.alloc _).drew | with_reducible exact ((R0.alloc _).alloc _).drew | with_reducible exact hHeld.below hb4 | with_reducible exact hHeld.below hb5 | with_reducible exact hHeld.alloc _ | with_reducible exact hHeld.far (by omega) _ _ | with_reducible exact K5.alloc _ | with_reducible exact (K5.alloc _).alloc _ | with_reducible exact (K5.alloc _).far (by omega) _ _ | with_reducible exact (K5.far (by omega) _ _).alloc _ | with_reducible exact ((K5.alloc _).alloc _).far (by omega) _ _)
        clear hK K hHeld
        have hHeld := hHeld2
        clear hHeld2
        try simp only [Act.put, List.setIfInBounds_toArray, List.set_cons_zero, List.set_cons_succ]
        refine wpAnyH_ready (rs := [9, 11]) (by kernel_rfl) (by simp) ?rdy5064
        refine (AllReadyH.cons (List.getElem?_toArray.trans rfl) (fun K hK => ?stp5064_9) (AllReadyH.cons (List.getElem?_toArray.trans rfl) (fun K hK => ?stp5064_11) AllReadyH.nil))
        case stp5064_9 =>
          go_simp
          go_wp2_with fail
          (refine (CA.out _).mono ?_; rintro e w5 ⟨rfl, hb5⟩; have K5 := hHeld.below hb5; have s5 : w4.heap.size ≤ w5.heap.size := (by have := hb5.size; first | exact this | (simp at this; omega)); (first | (have U5 := U4.below hb5; obtain ⟨a0, a1, a2, a3, a4⟩ := U5.two) | (have U5 := Blk.via hb5 (U4.alloc (.cells #[.int .u64 0, .int .u64 0] 24)) rfl; obtain ⟨a0, a1, a2, a3, a4⟩ := U5.two) | (have U5 := Blk.via hb5 ((U4.alloc (.cells #[.int .u64 0, .int .u64 0] 24)).alloc (.cells #[.int .u64 0, .int .u64 0] 24)) rfl; obtain ⟨a0, a1, a2, a3, a4⟩ := U5.two) | skip); (first | (have V5 := V4.below hb5; obtain ⟨b0, b1, b2, b3, b4⟩ := V5.two) | (have V5 := Blk.via hb5 (V4.alloc (.cells #[.int .u64 0, .int .u64 0] 24)) rfl; obtain ⟨b0, b1, b2, b3, b4⟩ := V5.two) | (have V5 := Blk.via hb5 ((V4.alloc (.cells #[.int .u64 0, .int .u64 0] 24)).alloc (.cells #[.int .u64 0, .int .u64 0] 24)) rfl; obtain ⟨b0, b1, b2, b3, b4⟩ := V5.two) | skip); first | (have X5 : Blk w5 w4.heap.size #[.int .u64 0, .int .u64 0] 24 := Blk.via hb5 ((Blk.new w4 #[.int .u64 0, .int .u64 0] 24).alloc (.cells #[.int .u64 0, .int .u64 0] 24)) rfl; have Y5 : Blk w5 (w4.heap.size + 1) #[.int .u64 0, .int .u64 0] 24 := Blk.via hb5 (Blk.new1 w4 (.cells #[.int .u64 0, .int .u64 0] 24) #[.int .u64 0, .int .u64 0] 24) rfl; obtain ⟨p0, p1, p2, p3, p4⟩ := X5.two; obtain ⟨q0, q1, q2, q3, q4⟩ := Y5.two) | (have X5 : Blk w5 w4.heap.size #[.int .u64 0, .int .u64 0] 24 := Blk.via hb5 (Blk.new w4 #[.int .u64 0, .int .u64 0] 24) rfl; obtain ⟨p0, p1, p2, p3, p4⟩ := X5.two) | skip)
          go_wp2_with fail
          refine hK.out _ _ ?hSn5065 (fun hHeld2 => ?rest5065)
          case hSn5065 => (first | with_reducible exact R0.drew | with_reducible exact (R0.alloc _).drew | with_reducible exact ((R0.alloc _).alloc _).drew | with_reducible exact hHeld.below hb4 | with_reducible exact hHeld.below hb5 | with_reducible exact hHeld.alloc _ | with_reducible exact hHeld.far (by omega) _ _ | with_reducible exact K5.alloc _ | with_reducible exact (K5.alloc _).alloc _ | with_reducible exact (K5.alloc _).far (by omega) _ _ | with_reducible exact (K5.far (by omega) _ _).alloc _ | with_reducible exact ((K5.alloc _).alloc _).far (by omega) _ _)
          clear hK K hHeld
          have hHeld := hHeld2
          clear hHeld2
          try simp only [Act.put, List.setIfInBounds_toArray, List.set_cons_zero, List.set_cons_succ]
          refine wpAnyH_ready (rs := [11]) (by kernel_rfl) (by simp) ?rdy5066
          refine (AllReadyH.cons (List.getElem?_toArray.trans rfl) (fun K hK => ?stp5066_11) AllReadyH.nil)
          case stp5066_11 =>
            go_simp
            go_wp2_with fail
            refine hK.out _ _ ?hSn5067 (fun hHeld2 => ?rest5067)
            case hSn5067 => (first | with_reducible exact R0.drew | with_reducible exact (R0.alloc _).drew | with_reducible exact ((R0.alloc _).alloc _).drew | with_reducible exact hHeld.below hb4 | with_reducible exact hHeld.below hb5 | with_reducible exact hHeld.alloc _ | with_reducible exact hHeld.far (by omega) _ _ | with_reducible exact K5.alloc _ | with_reducible exact (K5.alloc _).alloc _ | with_reducible exact (K5.alloc _).far (by omega) _ _ | with_reducible exact (K5.far (by omega) _ _).alloc _ | with_reducible exact ((K5.alloc _).alloc _).far (by omega) _ _)
            clear hK K hHeld
            have hHeld := hHeld2
            clear hHeld2
            try simp only [Act.put, List.setIfInBounds_toArray, List.set_cons_zero, List.set_cons_succ]
            refine wpAnyH_ready (rs := [12]) (by kernel_rfl) (by simp) ?rdy5068
            refine (AllReadyH.cons (List.getElem?_toArray.trans rfl) (fun K hK => ?stp5068_12) AllReadyH.nil)
            case stp5068_12 =>
              go_simp
              go_wp2_with fail
              refine hK.out _ _ ?hSn5069 (fun hHeld2 => ?rest5069)
              case hSn5069 => (first | with_reducible exact R0.drew | with_reducible exact (R0.alloc _).drew | with_reducible exact ((R0.alloc _).alloc _).drew | with_reducible exact hHeld.below hb4 | with_reducible exact hHeld.below hb5 | with_reducible exact hHeld.alloc _ | with_reducible exact hHeld.far (by omega) _ _ | with_reducible exact K5.alloc _ | with_reducible exact (K5.alloc _).alloc _ | with_reducible exact (K5.alloc _).far (by omega) _ _ | with_reducible exact (K5.far (by omega) _ _).alloc _ | with_reducible exact ((K5.alloc _).alloc _).far (by omega) _ _)
              clear hK K hHeld
              have hHeld := hHeld2
              clear hHeld2
              try simp only [Act.put, List.setIfInBounds_toArray, List.set_cons_zero, List.set_cons_succ]
              refine wpAnyH_ready (rs := [13]) (by kernel_rfl) (by simp) ?rdy5070
              refine (AllReadyH.cons (List.getElem?_toArray.trans rfl) (fun K hK => ?stp5070_13) AllReadyH.nil)
              case stp5070_13 =>
                go_simp
                go_wp2_with fail
                refine hK.out _ _ ?hSn5071 (fun hHeld2 => ?rest5071)
                case hSn5071 => (first | with_reducible exact R0.drew | with_reducible exact (R0.alloc _).drew | with_reducible exact ((R0.alloc _).alloc _).drew | with_reducible exact hHeld.below hb4 | with_reducible exact hHeld.below hb5 | with_reducible exact hHeld.alloc _ | with_reducible exact hHeld.far (by omega) _ _ | with_reducible exact K5.alloc _ | with_reducible exact (K5.alloc _).alloc _ | with_reducible exact (K5.alloc _).far (by omega) _ _ | with_reducible exact (K5.far (by omega) _ _).alloc _ | with_reducible exact ((K5.alloc _).alloc _).far (by omega) _ _)
                clear hK K hHeld
                have hHeld := hHeld2
                clear hHeld2
                try simp only [Act.put, List.setIfInBounds_toArray, List.set_cons_zero, List.set_cons_succ]
                refine wpAnyH_done (by kernel_rfl) ?_ _
                go_wp2_with fail
                go_meet
                case rel => exact ⟨_, _, rfl, rfl, (by (repeat (first | with_reducible exact Blk.new _ _ _ | with_reducible exact Blk.new1 _ _ _ _ | with_reducible exact Blk.news _ _ _ _ _ _ _ | with_reducible exact U5 | with_reducible exact V5 | with_reducible exact X5 | with_reducible exact Y5 | with_reducible refine Blk.put2 (x := .int .u64 0) (y := .int .u64 0) ?_ _ _ | with_reducible refine Blk.far2 ?_ (by omega) _ _ | with_reducible refine Blk.alloc ?_ _))), (by (repeat (first | with_reducible exact Blk.new _ _ _ | with_reducible exact Blk.new1 _ _ _ _ | with_reducible exact Blk.news _ _ _ _ _ _ _ | with_reducible exact U5 | with_reducible exact V5 | with_reducible exact X5 | with_reducible exact Y5 | with_reducible refine Blk.put2 (x := .int .u64 0) (y := .int .u64 0) ?_ _ _ | with_reducible refine Blk.far2 ?_ (by omega) _ _ | with_reducible refine Blk.alloc ?_ _))), hHeld⟩
        case stp5064_11 =>
          go_simp
          go_wp2_with fail
          refine hK.out _ _ ?hSn5072 (fun hHeld2 => ?rest5072)
          case hSn5072 => (first | with_reducible exact R0.drew | with_reducible exact (R0.alloc _).drew | with_reducible exact ((R0.alloc _).alloc _).drew | with_reducible exact hHeld.below hb4 | with_reducible exact hHeld.below hb5 | with_reducible exact hHeld.alloc _ | with_reducible exact hHeld.far (by omega) _ _ | with_reducible exact K5.alloc _ | with_reducible exact (K5.alloc _).alloc _ | with_reducible exact (K5.alloc _).far (by omega) _ _ | with_reducible exact (K5.far (by omega) _ _).alloc _ | with_reducible exact ((K5.alloc _).alloc _).far (by omega) _ _)
          clear hK K hHeld
          have hHeld := hHeld2
          clear hHeld2
          try simp only [Act.put, List.setIfInBounds_toArray, List.set_cons_zero, List.set_cons_succ]
          refine wpAnyH_ready (rs := [9]) (by kernel_rfl) (by simp) ?rdy5073
          refine (AllReadyH.cons (List.getElem?_toArray.trans rfl) (fun K hK => ?stp5073_9) AllReadyH.nil)
          case stp5073_9 =>
            go_simp
            go_wp2_with fail
            (refine (CA.out _).mono ?_; rintro e w5 ⟨rfl, hb5⟩; have K5 := hHeld.below hb5; have s5 : w4.heap.size ≤ w5.heap.size := (by have := hb5.size; first | exact this | (simp at this; omega)); (first | (have U5 := U4.below hb5; obtain ⟨a0, a1, a2, a3, a4⟩ := U5.two) | (have U5 := Blk.via hb5 (U4.alloc (.cells #[.int .u64 0, .int .u64 0] 24)) rfl; obtain ⟨a0, a1, a2, a3, a4⟩ := U5.two) | (have U5 := Blk.via hb5 ((U4.alloc (.cells #[.int .u64 0, .int .u64 0] 24)).alloc (.cells #[.int .u64 0, .int .u64 0] 24)) rfl; obtain ⟨a0, a1, a2, a3, a4⟩ := U5.two) | skip); (first | (have V5 := V4.below hb5; obtain ⟨b0, b1, b2, b3, b4⟩ := V5.two) | (have V5 := Blk.via hb5 (V4.alloc (.cells #[.int .u64 0, .int .u64 0] 24)) rfl; obtain ⟨b0, b1, b2, b3, b4⟩ := V5.two) | (have V5 := Blk.via hb5 ((V4.alloc (.cells #[.int .u64 0, .int .u64 0] 24)).alloc (.cells #[.int .u64 0, .int .u64 0] 24)) rfl; obtain ⟨b0, b1, b2, b3, b4⟩ := V5.two) | skip); first | (have X5 : Blk w5 w4.heap.size #[.int .u64 0, .int .u64 0] 24 := Blk.via hb5 ((Blk.new w4 #[.int .u64 0, .int .u64 0] 24).alloc (.cells #[.int .u64 0, .int .u64 0] 24)) rfl; have Y5 : Blk w5 (w4.heap.size + 1) #[.int .u64 0, .int .u64 0] 24 := Blk.via hb5 (Blk.new1 w4 (.cells #[.int .u64 0, .int .u64 0] 24) #[.int .u64 0, .int .u64 0] 24) rfl; obtain ⟨p0, p1, p2, p3, p4⟩ := X5.two; obtain ⟨q0, q1, q2, q3, q4⟩ := Y5.two) | (have X5 : Blk w5 w4.heap.size #[.int .u64 0, .int .u64 0] 24 := Blk.via hb5 (Blk.new w4 #[.int .u64 0, .int .u64 0] 24) rfl; obtain ⟨p0, p1, p2, p3, p4⟩ := X5.two) | skip)
            go_wp2_with fail
            refine hK.out _ _ ?hSn5074 (fun hHeld2 => ?rest5074)
            case hSn5074 => (first | with_reducible exact R0.drew | with_reducible exact (R0.alloc _).drew | with_reducible exact ((R0.alloc _).alloc _).drew | with_reducible exact hHeld.below hb4 | with_reducible exact hHeld.below hb5 | with_reducible exact hHeld.alloc _ | with_reducible exact hHeld.far (by omega) _ _ | with_reducible exact K5.alloc _ | with_reducible exact (K5.alloc _).alloc _ | with_reducible exact (K5.alloc _).far (by omega) _ _ | with_reducible exact (K5.far (by omega) _ _).alloc _ | with_reducible exact ((K5.alloc _).alloc _).far (by omega) _ _)
            clear hK K hHeld
            have hHeld := hHeld2
            clear hHeld2
            try simp only [Act.put, List.setIfInBounds_toArray, List.set_cons_zero, List.set_cons_succ]
            refine wpAnyH_ready (rs := [12]) (by kernel_rfl) (by simp) ?rdy5075
            refine (AllReadyH.cons (List.getElem?_toArray.trans rfl) (fun K hK => ?stp5075_12) AllReadyH.nil)
            case stp5075_12 =>
              go_simp
              go_wp2_with fail
              refine hK.out _ _ ?hSn5076 (fun hHeld2 => ?rest5076)
              case hSn5076 => (first | with_reducible exact R0.drew | with_reducible exact (R0.alloc _).drew | with_reducible exact ((R0.alloc _).alloc _).drew | with_reducible exact hHeld.below hb4 | with_reducible exact hHeld.below hb5 | with_reducible exact hHeld.alloc _ | with_reducible exact hHeld.far (by omega) _ _ | with_reducible exact K5.alloc _ | with_reducible exact (K5.alloc _).alloc _ | with_reducible exact (K5.alloc _).far (by omega) _ _ | with_reducible exact (K5.far (by omega) _ _).alloc _ | with_reducible exact ((K5.alloc _).alloc _).far (by omega) _ _)
              clear hK K hHeld
              have hHeld := hHeld2
              clear hHeld2
              try simp only [Act.put, List.setIfInBounds_toArray, List.set_cons_zero, List.set_cons_succ]
              refine wpAnyH_ready (rs := [13]) (by kernel_rfl) (by simp) ?rdy5077
              refine (AllReadyH.cons (List.getElem?_toArray.trans rfl) (fun K hK => ?stp5077_13) AllReadyH.nil)
              case stp5077_13 =>
                go_simp
                go_wp2_with fail
                refine hK.out _ _ ?hSn5078 (fun hHeld2 => ?rest5078)
                case hSn5078 => (first | with_reducible exact R0.drew | with_reducible exact (R0.alloc _).drew | with_reducible exact ((R0.alloc _).alloc _).drew | with_reducible exact hHeld.below hb4 | with_reducible exact hHeld.below hb5 | with_reducible exact hHeld.alloc _ | with_reducible exact hHeld.far (by omega) _ _ | with_reducible exact K5.alloc _ | with_reducible exact (K5.alloc _).alloc _ | with_reducible exact (K5.alloc _).far (by omega) _ _ | with_reducible exact (K5.far (by omega) _ _).alloc _ | with_reducible exact ((K5.alloc _).alloc _).far (by omega) _ _)
                clear hK K hHeld
                have hHeld := hHeld2
                clear hHeld2
                try simp only [Act.put, List.setIfInBounds_toArray, List.set_cons_zero, List.set_cons_succ]
                refine wpAnyH_done (by kernel_rfl) ?_ _
                go_wp2_with fail
                go_meet
                case rel => exact ⟨_, _, rfl, rfl, (by (repeat (first | with_reducible exact Blk.new _ _ _ | with_reducible exact Blk.new1 _ _ _ _ | with_reducible exact Blk.news _ _ _ _ _ _ _ | with_reducible exact U5 | with_reducible exact V5 | with_reducible exact X5 | with_reducible exact Y5 | with_reducible refine Blk.put2 (x := .int .u64 0) (y := .int .u64 0) ?_ _ _ | with_reducible refine Blk.far2 ?_ (by omega) _ _ | with_reducible refine Blk.alloc ?_ _))), (by (repeat (first | with_reducible exact Blk.new _ _ _ | with_reducible exact Blk.new1 _ _ _ _ | with_reducible exact Blk.news _ _ _ _ _ _ _ | with_reducible exact U5 | with_reducible exact V5 | with_reducible exact X5 | with_reducible exact Y5 | with_reducible refine Blk.put2 (x := .int .u64 0) (y := .int .u64 0) ?_ _ _ | with_reducible refine Blk.far2 ?_ (by omega) _ _ | with_reducible refine Blk.alloc ?_ _))), hHeld⟩
      case stp5062_11 =>
        go_simp
        go_wp2_with fail
        refine hK.out _ _ ?hSn5079 (fun hHeld2 => ?rest5079)
        case hSn5079 => (first | with_reducible exact R0.drew | with_reducible exact (R0.alloc _).drew | with_reducible exact ((R0.alloc _).alloc _).drew | with_reducible exact hHeld.below hb4 | with_reducible exact hHeld.below hb5 | with_reducible exact hHeld.alloc _ | with_reducible exact hHeld.far (by omega) _ _ | with_reducible exact K5.alloc _ | with_reducible exact (K5.alloc _).alloc _ | with_reducible exact (K5.alloc _).far (by omega) _ _ | with_reducible exact (K5.far (by omega) _ _).alloc _ | with_reducible exact ((K5.alloc _).alloc _).far (by omega) _ _)
        clear hK K hHeld
        have hHeld := hHeld2
        clear hHeld2
        try simp only [Act.put, List.setIfInBounds_toArray, List.set_cons_zero, List.set_cons_succ]
        refine wpAnyH_ready (rs := [4]) (by kernel_rfl) (by simp) ?rdy5080
        refine (AllReadyH.cons (List.getElem?_toArray.trans rfl) (fun K hK => ?stp5080_4) AllReadyH.nil)
        case stp5080_4 =>
          go_simp
          go_wp2_with fail
          (refine (CO.out _).mono ?_; rintro e w4 ⟨rfl, hb4⟩; have s4 : w0.heap.size ≤ w4.heap.size := (by have := hb4.size; first | exact this | (simp at this; omega)); first | (have U4 : Blk w4 w0.heap.size #[.int .u64 0, .int .u64 0] 24 := Blk.via hb4 ((Blk.new w0 #[.int .u64 0, .int .u64 0] 24).alloc (.cells #[.int .u64 0, .int .u64 0] 24)) rfl; have V4 : Blk w4 (w0.heap.size + 1) #[.int .u64 0, .int .u64 0] 24 := Blk.via hb4 (Blk.new1 w0 (.cells #[.int .u64 0, .int .u64 0] 24) #[.int .u64 0, .int .u64 0] 24) rfl; obtain ⟨u0, u1, u2, u3, u4⟩ := U4.two; obtain ⟨y0, y1, y2, y3, y4⟩ := V4.two) | (have U4 : Blk w4 w0.heap.size #[.int .u64 0, .int .u64 0] 24 := Blk.via hb4 (Blk.new w0 #[.int .u64 0, .int .u64 0] 24) rfl; obtain ⟨u0, u1, u2, u3, u4⟩ := U4.two) | skip)
          go_wp2_with fail
          refine hK.out _ _ ?hSn5081 (fun hHeld2 => ?rest5081)
          case hSn5081 => (first | with_reducible exact R0.drew | with_reducible exact (R0.alloc _).drew | with_reducible exact ((R0.alloc _).alloc _).drew | with_reducible exact hHeld.below hb4 | with_reducible exact hHeld.below hb5 | with_reducible exact hHeld.alloc _ | with_reducible exact hHeld.far (by omega) _ _ | with_reducible exact K5.alloc _ | with_reducible exact (K5.alloc _).alloc _ | with_reducible exact (K5.alloc _).far (by omega) _ _ | with_reducible exact (K5.far (by omega) _ _).alloc _ | with_reducible exact ((K5.alloc _).alloc _).far (by omega) _ _)
          clear hK K hHeld
          have hHeld := hHeld2
          clear hHeld2
          try simp only [Act.put, List.setIfInBounds_toArray, List.set_cons_zero, List.set_cons_succ]
          refine wpAnyH_ready (rs := [9]) (by kernel_rfl) (by simp) ?rdy5082
          refine (AllReadyH.cons (List.getElem?_toArray.trans rfl) (fun K hK => ?stp5082_9) AllReadyH.nil)
          case stp5082_9 =>
            go_simp
            go_wp2_with fail
            (refine (CA.out _).mono ?_; rintro e w5 ⟨rfl, hb5⟩; have K5 := hHeld.below hb5; have s5 : w4.heap.size ≤ w5.heap.size := (by have := hb5.size; first | exact this | (simp at this; omega)); (first | (have U5 := U4.below hb5; obtain ⟨a0, a1, a2, a3, a4⟩ := U5.two) | (have U5 := Blk.via hb5 (U4.alloc (.cells #[.int .u64 0, .int .u64 0] 24)) rfl; obtain ⟨a0, a1, a2, a3, a4⟩ := U5.two) | (have U5 := Blk.via hb5 ((U4.alloc (.cells #[.int .u64 0, .int .u64 0] 24)).alloc (.cells #[.int .u64 0, .int .u64 0] 24)) rfl; obtain ⟨a0, a1, a2, a3, a4⟩ := U5.two) | skip); (first | (have V5 := V4.below hb5; obtain ⟨b0, b1, b2, b3, b4⟩ := V5.two) | (have V5 := Blk.via hb5 (V4.alloc (.cells #[.int .u64 0, .int .u64 0] 24)) rfl; obtain ⟨b0, b1, b2, b3, b4⟩ := V5.two) | (have V5 := Blk.via hb5 ((V4.alloc (.cells #[.int .u64 0, .int .u64 0] 24)).alloc (.cells #[.int .u64 0, .int .u64 0] 24)) rfl; obtain ⟨b0, b1, b2, b3, b4⟩ := V5.two) | skip); first | (have X5 : Blk w5 w4.heap.size #[.int .u64 0, .int .u64 0] 24 := Blk.via hb5 ((Blk.new w4 #[.int .u64 0, .int .u64 0] 24).alloc (.cells #[.int .u64 0, .int .u64 0] 24)) rfl; have Y5 : Blk w5 (w4.heap.size + 1) #[.int .u64 0, .int .u64 0] 24 := Blk.via hb5 (Blk.new1 w4 (.cells #[.int .u64 0, .int .u64 0] 24) #[.int .u64 0, .int .u64 0] 24) rfl; obtain ⟨p0, p1, p2, p3, p4⟩ := X5.two; obtain ⟨q0, q1, q2, q3, q4⟩ := Y5.two) | (have X5 : Blk w5 w4.heap.size #[.int .u64 0, .int .u64 0] 24 := Blk.via hb5 (Blk.new w4 #[.int .u64 0, .int .u64 0] 24) rfl; obtain ⟨p0, p1, p2, p3, p4⟩ := X5.two) | skip)
            go_wp2_with fail
            refine hK.out _ _ ?hSn5083 (fun hHeld2 => ?rest5083)
            case hSn5083 => (first | with_reducible exact R0.drew | with_reducible exact (R0.alloc _).drew | with_reducible exact ((R0.alloc _).alloc _).drew | with_reducible exact hHeld.below hb4 | with_reducible exact hHeld.below hb5 | with_reducible exact hHeld.alloc _ | with_reducible exact hHeld.far (by omega) _ _ | with_reducible exact K5.alloc _ | with_reducible exact (K5.alloc _).alloc _ | with_reducible exact (K5.alloc _).far (by omega) _ _ | with_reducible exact (K5.far (by omega) _ _).alloc _ | with_reducible exact ((K5.alloc _).alloc _).far (by omega) _ _)
            clear hK K hHeld
            have hHeld := hHeld2
            clear hHeld2
            try simp only [Act.put, List.setIfInBounds_toArray, List.set_cons_zero, List.set_cons_succ]
            refine wpAnyH_ready (rs := [12]) (by kernel_rfl) (by simp) ?rdy5084
            refine (AllReadyH.cons (List.getElem?_toArray.trans rfl) (fun K hK => ?stp5084_12) AllReadyH.nil)
            case stp5084_12 =>
              go_simp
              go_wp2_with fail
              refine hK.out _ _ ?hSn5085 (fun hHeld2 => ?rest5085)
              case hSn5085 => (first | with_reducible exact R0.drew | with_reducible exact (R0.alloc _).drew | with_reducible exact ((R0.alloc _).alloc _).drew | with_reducible exact hHeld.below hb4 | with_reducible exact hHeld.below hb5 | with_reducible exact hHeld.alloc _ | with_reducible exact hHeld.far (by omega) _ _ | with_reducible exact K5.alloc _ | with_reducible exact (K5.alloc _).alloc _ | with_reducible exact (K5.alloc _).far (by omega) _ _ | with_reducible exact (K5.far (by omega) _ _).alloc _ | with_reducible exact ((K5.alloc _).alloc _).far (by omega) _ _)
              clear hK K hHeld
              have hHeld := hHeld2
              clear hHeld2
              try simp only [Act.put, List.setIfInBounds_toArray, List.set_cons_zero, List.set_cons_succ]
              refine wpAnyH_ready (rs := [13]) (by kernel_rfl) (by simp) ?rdy5086
              refine (AllReadyH.cons (List.getElem?_toArray.trans rfl) (fun K hK => ?stp5086_13) AllReadyH.nil)
              case stp5086_13 =>
                go_simp
                go_wp2_with fail
                refine hK.out _ _ ?hSn5087 (fun hHeld2 => ?rest5087)
                case hSn5087 => (first | with_reducible exact R0.drew | with_reducible exact (R0.alloc _).drew | with_reducible exact ((R0.alloc _).alloc _).drew | with_reducible exact hHeld.below hb4 | with_reducible exact hHeld.below hb5 | with_reducible exact hHeld.alloc _ | with_reducible exact hHeld.far (by omega) _ _ | with_reducible exact K5.alloc _ | with_reducible exact (K5.alloc _).alloc _ | with_reducible exact (K5.alloc _).far (by omega) _ _ | with_reducible exact (K5.far (by omega) _ _).alloc _ | with_reducible exact ((K5.alloc _).alloc _).far (by omega) _ _)
                clear hK K hHeld
                have hHeld := hHeld2
                clear hHeld2
                try simp only [Act.put, List.setIfInBounds_toArray, List.set_cons_zero, List.set_cons_succ]
                refine wpAnyH_done (by kernel_rfl) ?_ _
                go_wp2_with fail
                go_meet
                case rel => exact ⟨_, _, rfl, rfl, (by (repeat (first | with_reducible exact Blk.new _ _ _ | with_reducible exact Blk.new1 _ _ _ _ | with_reducible exact Blk.news _ _ _ _ _ _ _ | with_reducible exact U5 | with_reducible exact V5 | with_reducible exact X5 | with_reducible exact Y5 | with_reducible refine Blk.put2 (x := .int .u64 0) (y := .int .u64 0) ?_ _ _ | with_reducible refine Blk.far2 ?_ (by omega) _ _ | with_reducible refine Blk.alloc ?_ _))), (by (repeat (first | with_reducible exact Blk.new _ _ _ | with_reducible exact Blk.new1 _ _ _ _ | with_reducible exact Blk.news _ _ _ _ _ _ _ | with_reducible exact U5 | with_reducible exact V5 | with_reducible exact X5 | with_reducible exact Y5 | with_reducible refine Blk.put2 (x := .int .u64 0) (y := .int .u64 0) ?_ _ _ | with_reducible refine Blk.far2 ?_ (by omega) _ _ | with_reducible refine Blk.alloc ?_ _))), hHeld⟩
    case stp5010_11 =>
      go_simp
      go_wp2_with fail
      refine hK.out _ _ ?hSn5088 (fun hHeld2 => ?rest5088)
      case hSn5088 => (first | with_reducible exact R0.drew | with_reducible exact (R0.alloc _).drew | with_reducible exact ((R0.alloc _).alloc _).drew | with_reducible exact hHeld.below hb4 | with_reducible exact hHeld.below hb5 | with_reducible exact hHeld.alloc _ | with_reducible exact hHeld.far (by omega) _ _ | with_reducible exact K5.alloc _ | with_reducible exact (K5.alloc _).alloc _ | with_reducible exact (K5.alloc _).far (by omega) _ _ | with_reducible exact (K5.far (by omega) _ _).alloc _ | with_reducible exact ((K5.alloc _).alloc _).far (by omega) _ _)
      clear hK K hHeld
      have hHeld := hHeld2
      clear hHeld2
      try simp only [Act.put, List.setIfInBounds_toArray, List.set_cons_zero, List.set_cons_succ]
      refine wpAnyH_ready (rs := [4, 10]) (by kernel_rfl) (by simp) ?rdy5089
      refine (AllReadyH.cons (List.getElem?_toArray.trans rfl) (fun K hK => ?stp5089_4) (AllReadyH.cons (List.getElem?_toArray.trans rfl) (fun K hK => ?stp5089_10) AllReadyH.nil))
      case stp5089_4 =>
        go_simp
        go_wp2_with fail
        (refine (CO.out _).mono ?_; rintro e w4 ⟨rfl, hb4⟩; have s4 : w0.heap.size ≤ w4.heap.size := (by have := hb4.size; first | exact this | (simp at this; omega)); first | (have U4 : Blk w4 w0.heap.size #[.int .u64 0, .int .u64 0] 24 := Blk.via hb4 ((Blk.new w0 #[.int .u64 0, .int .u64 0] 24).alloc (.cells #[.int .u64 0, .int .u64 0] 24)) rfl; have V4 : Blk w4 (w0.heap.size + 1) #[.int .u64 0, .int .u64 0] 24 := Blk.via hb4 (Blk.new1 w0 (.cells #[.int .u64 0, .int .u64 0] 24) #[.int .u64 0, .int .u64 0] 24) rfl; obtain ⟨u0, u1, u2, u3, u4⟩ := U4.two; obtain ⟨y0, y1, y2, y3, y4⟩ := V4.two) | (have U4 : Blk w4 w0.heap.size #[.int .u64 0, .int .u64 0] 24 := Blk.via hb4 (Blk.new w0 #[.int .u64 0, .int .u64 0] 24) rfl; obtain ⟨u0, u1, u2, u3, u4⟩ := U4.two) | skip)
        go_wp2_with fail
        refine hK.out _ _ ?hSn5090 (fun hHeld2 => ?rest5090)
        case hSn5090 => (first | with_reducible exact R0.drew | with_reducible exact (R0.alloc _).drew | with_reducible exact ((R0.alloc _).alloc _).drew | with_reducible exact hHeld.below hb4 | with_reducible exact hHeld.below hb5 | with_reducible exact hHeld.alloc _ | with_reducible exact hHeld.far (by omega) _ _ | with_reducible exact K5.alloc _ | with_reducible exact (K5.alloc _).alloc _ | with_reducible exact (K5.alloc _).far (by omega) _ _ | with_reducible exact (K5.far (by omega) _ _).alloc _ | with_reducible exact ((K5.alloc _).alloc _).far (by omega) _ _)
        clear hK K hHeld
        have hHeld := hHeld2
        clear hHeld2
        try simp only [Act.put, List.setIfInBounds_toArray, List.set_cons_zero, List.set_cons_succ]
        refine wpAnyH_ready (rs := [9, 10]) (by kernel_rfl) (by simp) ?rdy5091
        refine (AllReadyH.cons (List.getElem?_toArray.trans rfl) (fun K hK => ?stp5091_9) (AllReadyH.cons (List.getElem?_toArray.trans rfl) (fun K hK => ?stp5091_10) AllReadyH.nil))
        case stp5091_9 =>
          go_simp
          go_wp2_with fail
          (refine (CA.out _).mono ?_; rintro e w5 ⟨rfl, hb5⟩; have K5 := hHeld.below hb5; have s5 : w4.heap.size ≤ w5.heap.size := (by have := hb5.size; first | exact this | (simp at this; omega)); (first | (have U5 := U4.below hb5; obtain ⟨a0, a1, a2, a3, a4⟩ := U5.two) | (have U5 := Blk.via hb5 (U4.alloc (.cells #[.int .u64 0, .int .u64 0] 24)) rfl; obtain ⟨a0, a1, a2, a3, a4⟩ := U5.two) | (have U5 := Blk.via hb5 ((U4.alloc (.cells #[.int .u64 0, .int .u64 0] 24)).alloc (.cells #[.int .u64 0, .int .u64 0] 24)) rfl; obtain ⟨a0, a1, a2, a3, a4⟩ := U5.two) | skip); (first | (have V5 := V4.below hb5; obtain ⟨b0, b1, b2, b3, b4⟩ := V5.two) | (have V5 := Blk.via hb5 (V4.alloc (.cells #[.int .u64 0, .int .u64 0] 24)) rfl; obtain ⟨b0, b1, b2, b3, b4⟩ := V5.two) | (have V5 := Blk.via hb5 ((V4.alloc (.cells #[.int .u64 0, .int .u64 0] 24)).alloc (.cells #[.int .u64 0, .int .u64 0] 24)) rfl; obtain ⟨b0, b1, b2, b3, b4⟩ := V5.two) | skip); first | (have X5 : Blk w5 w4.heap.size #[.int .u64 0, .int .u64 0] 24 := Blk.via hb5 ((Blk.new w4 #[.int .u64 0, .int .u64 0] 24).alloc (.cells #[.int .u64 0, .int .u64 0] 24)) rfl; have Y5 : Blk w5 (w4.heap.size + 1) #[.int .u64 0, .int .u64 0] 24 := Blk.via hb5 (Blk.new1 w4 (.cells #[.int .u64 0, .int .u64 0] 24) #[.int .u64 0, .int .u64 0] 24) rfl; obtain ⟨p0, p1, p2, p3, p4⟩ := X5.two; obtain ⟨q0, q1, q2, q3, q4⟩ := Y5.two) | (have X5 : Blk w5 w4.heap.size #[.int .u64 0, .int .u64 0] 24 := Blk.via hb5 (Blk.new w4 #[.int .u64 0, .int .u64 0] 24) rfl; obtain ⟨p0, p1, p2, p3, p4⟩ := X5.two) | skip)
          go_wp2_with fail
          refine hK.out _ _ ?hSn5092 (fun hHeld2 => ?rest5092)
          case hSn5092 => (first | with_reducible exact R0.drew | with_reducible exact (R0.alloc _).drew | with_reducible exact ((R0.alloc _).alloc _).drew | with_reducible exact hHeld.below hb4 | with_reducible exact hHeld.below hb5 | with_reducible exact hHeld.alloc _ | with_reducible exact hHeld.far (by omega) _ _ | with_reducible exact K5.alloc _ | with_reducible exact (K5.alloc _).alloc _ | with_reducible exact (K5.alloc _).far (by omega) _ _ | with_reducible exact (K5.far (by omega) _ _).alloc _ | with_reducible exact ((K5.alloc _).alloc _).far (by omega) _ _)
          clear hK K hHeld
          have hHeld := hHeld2
          clear hHeld2
          try simp only [Act.put, List.setIfInBounds_toArray, List.set_cons_zero, List.set_cons_succ]
          refine wpAnyH_ready (rs := [10]) (by kernel_rfl) (by simp) ?rdy5093
          refine (AllReadyH.cons (List.getElem?_toArray.trans rfl) (fun K hK => ?stp5093_10) AllReadyH.nil)
          case stp5093_10 =>
            go_simp
            go_wp2_with fail
            refine hK.out _ _ ?hSn5094 (fun hHeld2 => ?rest5094)
            case hSn5094 => (first | with_reducible exact R0.drew | with_reducible exact (R0.alloc _).drew | with_reducible exact ((R0.alloc _).alloc _).drew | with_reducible exact hHeld.below hb4 | with_reducible exact hHeld.below hb5 | with_reducible exact hHeld.alloc _ | with_reducible exact hHeld.far (by omega) _ _ | with_reducible exact K5.alloc _ | with_reducible exact (K5.alloc _).alloc _ | with_reducible exact (K5.alloc _).far (by omega) _ _ | with_reducible exact (K5.far (by omega) _ _).alloc _ | with_reducible exact ((K5.alloc _).alloc _).far (by omega) _ _)
            clear hK K hHeld
            have hHeld := hHeld2
            clear hHeld2
            try simp only [Act.put, List.setIfInBounds_toArray, List.set_cons_zero, List.set_cons_succ]
            refine wpAnyH_ready (rs := [12]) (by kernel_rfl) (by simp) ?rdy5095
            refine (AllReadyH.cons (List.getElem?_toArray.trans rfl) (fun K hK => ?stp5095_12) AllReadyH.nil)
            case stp5095_12 =>
              go_simp
              go_wp2_with fail
              refine hK.out _ _ ?hSn5096 (fun hHeld2 => ?rest5096)
              case hSn5096 => (first | with_reducible exact R0.drew | with_reducible exact (R0.alloc _).drew | with_reducible exact ((R0.alloc _).alloc _).drew | with_reducible exact hHeld.below hb4 | with_reducible exact hHeld.below hb5 | with_reducible exact hHeld.alloc _ | with_reducible exact hHeld.far (by omega) _ _ | with_reducible exact K5.alloc _ | with_reducible exact (K5.alloc _).alloc _ | with_reducible exact (K5.alloc _).far (by omega) _ _ | with_reducible exact (K5.far (by omega) _ _).alloc _ | with_reducible exact ((K5.alloc _).alloc _).far (by omega) _ _)
              clear hK K hHeld
              have hHeld := hHeld2
              clear hHeld2
              try simp only [Act.put, List.setIfInBounds_toArray, List.set_cons_zero, List.set_cons_succ]
              refine wpAnyH_ready (rs := [13]) (by kernel_rfl) (by simp) ?rdy5097
              refine (AllReadyH.cons (List.getElem?_toArray.trans rfl) (fun K hK => ?stp5097_13) AllReadyH.nil)
              case stp5097_13 =>
                go_simp
                go_wp2_with fail
                refine hK.out _ _ ?hSn5098 (fun hHeld2 => ?rest5098)
                case hSn5098 => (first | with_reducible exact R0.drew | with_reducible exact (R0.alloc _).drew | with_reducible exact ((R0.alloc _).alloc _).drew | with_reducible exact hHeld.below hb4 | with_reducible exact hHeld.below hb5 | with_reducible exact hHeld.alloc _ | with_reducible exact hHeld.far (by omega) _ _ | with_reducible exact K5.alloc _ | with_reducible exact (K5.alloc _).alloc _ | with_reducible exact (K5.alloc _).far (by omega) _ _ | with_reducible exact (K5.far (by omega) _ _).alloc _ | with_reducible exact ((K5.alloc _).alloc _).far (by omega) _ _)
                clear hK K hHeld
                have hHeld := hHeld2
                clear hHeld2
                try simp only [Act.put, List.setIfInBounds_toArray, List.set_cons_zero, List.set_cons_succ]
                refine wpAnyH_done (by kernel_rfl) ?_ _
                go_wp2_with fail
                go_meet
                case rel => exact ⟨_, _, rfl, rfl, (by (repeat (first | with_reducible exact Blk.new _ _ _ | with_reducible exact Blk.new1 _ _ _ _ | with_reducible exact Blk.news _ _ _ _ _ _ _ | with_reducible exact U5 | with_reducible exact V5 | with_reducible exact X5 | with_reducible exact Y5 | with_reducible refine Blk.put2 (x := .int .u64 0) (y := .int .u64 0) ?_ _ _ | with_reducible refine Blk.far2 ?_ (by omega) _ _ | with_reducible refine Blk.alloc ?_ _))), (by (repeat (first | with_reducible exact Blk.new _ _ _ | with_reducible exact Blk.new1 _ _ _ _ | with_reducible exact Blk.news _ _ _ _ _ _ _ | with_reducible exact U5 | with_reducible exact V5 | with_reducible exact X5 | with_reducible exact Y5 | with_reducible refine Blk.put2 (x := .int .u64 0) (y := .int .u64 0) ?_ _ _ | with_reducible refine Blk.far2 ?_ (by omega) _ _ | with_reducible refine Blk.alloc ?_ _))), hHeld⟩
        case stp5091_10 =>
          go_simp
          go_wp2_with fail
          refine hK.out _ _ ?hSn5099 (fun hHeld2 => ?rest5099)
          case hSn5099 => (first | with_reducible exact R0.drew | with_reducible exact (R0.alloc _).drew | with_reducible exact ((R0.alloc _).alloc _).drew | with_reducible exact hHeld.below hb4 | with_reducible exact hHeld.below hb5 | with_reducible exact hHeld.alloc _ | with_reducible exact hHeld.far (by omega) _ _ | with_reducible exact K5.alloc _ | with_reducible exact (K5.alloc _).alloc _ | with_reducible exact (K5.alloc _).far (by omega) _ _ | with_reducible exact (K5.far (by omega) _ _).alloc _ | with_reducible exact ((K5.alloc _).alloc _).far (by omega) _ _)
          clear hK K hHeld
          have hHeld := hHeld2
          clear hHeld2
          try simp only [Act.put, List.setIfInBounds_toArray, List.set_cons_zero, List.set_cons_succ]
          refine wpAnyH_ready (rs := [9]) (by kernel_rfl) (by simp) ?rdy5100
          refine (AllReadyH.cons (List.getElem?_toArray.trans rfl) (fun K hK => ?stp5100_9) AllReadyH.nil)
          case stp5100_9 =>
            go_simp
            go_wp2_with fail
            (refine (CA.out _).mono ?_; rintro e w5 ⟨rfl, hb5⟩; have K5 := hHeld.below hb5; have s5 : w4.heap.size ≤ w5.heap.size := (by have := hb5.size; first | exact this | (simp at this; omega)); (first | (have U5 := U4.below hb5; obtain ⟨a0, a1, a2, a3, a4⟩ := U5.two) | (have U5 := Blk.via hb5 (U4.alloc (.cells #[.int .u64 0, .int .u64 0] 24)) rfl; obtain ⟨a0, a1, a2, a3, a4⟩ := U5.two) | (have U5 := Blk.via hb5 ((U4.alloc (.cells #[.int .u64 0, .int .u64 0] 24)).alloc (.cells #[.int .u64 0, .int .u64 0] 24)) rfl; obtain ⟨a0, a1, a2, a3, a4⟩ := U5.two) | skip); (first | (have V5 := V4.below hb5; obtain ⟨b0, b1, b2, b3, b4⟩ := V5.two) | (have V5 := Blk.via hb5 (V4.alloc (.cells #[.int .u64 0, .int .u64 0] 24)) rfl; obtain ⟨b0, b1, b2, b3, b4⟩ := V5.two) | (have V5 := Blk.via hb5 ((V4.alloc (.cells #[.int .u64 0, .int .u64 0] 24)).alloc (.cells #[.int .u64 0, .int .u64 0] 24)) rfl; obtain ⟨b0, b1, b2, b3, b4⟩ := V5.two) | skip); first | (have X5 : Blk w5 w4.heap.size #[.int .u64 0, .int .u64 0] 24 := Blk.via hb5 ((Blk.new w4 #[.int .u64 0, .int .u64 0] 24).alloc (.cells #[.int .u64 0, .int .u64 0] 24)) rfl; have Y5 : Blk w5 (w4.heap.size + 1) #[.int .u64 0, .int .u64 0] 24 := Blk.via hb5 (Blk.new1 w4 (.cells #[.int .u64 0, .int .u64 0] 24) #[.int .u64 0, .int .u64 0] 24) rfl; obtain ⟨p0, p1, p2, p3, p4⟩ := X5.two; obtain ⟨q0, q1, q2, q3, q4⟩ := Y5.two) | (have X5 : Blk w5 w4.heap.size #[.int .u64 0, .int .u64 0] 24 := Blk.via hb5 (Blk.new w4 #[.int .u64 0, .int .u64 0] 24) rfl; obtain ⟨p0, p1, p2, p3, p4⟩ := X5.two) | skip)
            go_wp2_with fail
            refine hK.out _ _ ?hSn5101 (fun hHeld2 => ?rest5101)
            case hSn5101 => (first | with_reducible exact R0.drew | with_reducible exact (R0.alloc _).drew | with_reducible exact ((R0.alloc _).alloc _).drew | with_reducible exact hHeld.below hb4 | with_reducible exact hHeld.below hb5 | with_reducible exact hHeld.alloc _ | with_reducible exact hHeld.far (by omega) _ _ | with_reducible exact K5.alloc _ | with_reducible exact (K5.alloc _).alloc _ | with_reducible exact (K5.alloc _).far (by omega) _ _ | with_reducible exact (K5.far (by omega) _ _).alloc _ | with_reducible exact ((K5.alloc _).alloc _).far (by omega) _ _)
            clear hK K hHeld
            have hHeld := hHeld2
            clear hHeld2
            try simp only [Act.put, List.setIfInBounds_toArray, List.set_cons_zero, List.set_cons_succ]
            refine wpAnyH_ready (rs := [12]) (by kernel_rfl) (by simp) ?rdy5102
            refine (AllReadyH.cons (List.getElem?_toArray.trans rfl) (fun K hK => ?stp5102_12) AllReadyH.nil)
            case stp5102_12 =>
              go_simp
              go_wp2_with fail
              refine hK.out _ _ ?hSn5103 (fun hHeld2 => ?rest5103)
              case hSn5103 => (first | with_reducible exact R0.drew | with_reducible exact (R0.alloc _).drew | with_reducible exact ((R0.alloc _).alloc _).drew | with_reducible exact hHeld.below hb4 | with_reducible exact hHeld.below hb5 | with_reducible exact hHeld.alloc _ | with_reducible exact hHeld.far (by omega) _ _ | with_reducible exact K5.alloc _ | with_reducible exact (K5.alloc _).alloc _ | with_reducible exact (K5.alloc _).far (by omega) _ _ | with_reducible exact (K5.far (by omega) _ _).alloc _ | with_reducible exact ((K5.alloc _).alloc _).far (by omega) _ _)
              clear hK K hHeld
              have hHeld := hHeld2
              clear hHeld2
              try simp only [Act.put, List.setIfInBounds_toArray, List.set_cons_zero, List.set_cons_succ]
              refine wpAnyH_ready (rs := [13]) (by kernel_rfl) (by simp) ?rdy5104
              refine (AllReadyH.cons (List.getElem?_toArray.trans rfl) (fun K hK => ?stp5104_13) AllReadyH.nil)
              case stp5104_13 =>
                go_simp
                go_wp2_with fail
                refine hK.out _ _ ?hSn5105 (fun hHeld2 => ?rest5105)
                case hSn5105 => (first | with_reducible exact R0.drew | with_reducible exact (R0.alloc _).drew | with_reducible exact ((R0.alloc _).alloc _).drew | with_reducible exact hHeld.below hb4 | with_reducible exact hHeld.below hb5 | with_reducible exact hHeld.alloc _ | with_reducible exact hHeld.far (by omega) _ _ | with_reducible exact K5.alloc _ | with_reducible exact (K5.alloc _).alloc _ | with_reducible exact (K5.alloc _).far (by omega) _ _ | with_reducible exact (K5.far (by omega) _ _).alloc _ | with_reducible exact ((K5.alloc _).alloc _).far (by omega) _ _)
                clear hK K hHeld
                have hHeld := hHeld2
                clear hHeld2
                try simp only [Act.put, List.setIfInBounds_toArray, List.set_cons_zero, List.set_cons_succ]
                refine wpAnyH_done (by kernel_rfl) ?_ _
                go_wp2_with fail
                go_meet
                case rel => exact ⟨_, _, rfl, rfl, (by (repeat (first | with_reducible exact Blk.new _ _ _ | with_reducible exact Blk.new1 _ _ _ _ | with_reducible exact Blk.news _ _ _ _ _ _ _ | with_reducible exact U5 | with_reducible exact V5 | with_reducible exact X5 | with_reducible exact Y5 | with_reducible refine Blk.put2 (x := .int .u64 0) (y := .int .u64 0) ?_ _ _ | with_reducible refine Blk.far2 ?_ (by omega) _ _ | with_reducible refine Blk.alloc ?_ _))), (by (repeat (first | with_reducible exact Blk.new _ _ _ | with_reducible exact Blk.new1 _ _ _ _ | with_reducible exact Blk.news _ _ _ _ _ _ _ | with_reducible exact U5 | with_reducible exact V5 | with_reducible exact X5 | with_reducible exact Y5 | with_reducible refine Blk.put2 (x := .int .u64 0) (y := .int .u64 0) ?_ _ _ | with_reducible refine Blk.far2 ?_ (by omega) _ _ | with_reducible refine Blk.alloc ?_ _))), hHeld⟩
      case stp5089_10 =>
        go_simp
        go_wp2_with fail
        refine hK.out _ _ ?hSn5106 (fun hHeld2 => ?rest5106)
        case hSn5106 => (first | with_reducible exact R0.drew | with_reducible exact (R0.alloc _).drew | with_reducible exact ((R0.alloc _).alloc _).drew | with_reducible exact hHeld.below hb4 | with_reducible exact hHeld.below hb5 | with_reducible exact hHeld.alloc _ | with_reducible exact hHeld.far (by omega) _ _ | with_reducible exact K5.alloc _ | with_reducible exact (K5.alloc _).alloc _ | with_reducible exact (K5.alloc _).far (by omega) _ _ | with_reducible exact (K5.far (by omega) _ _).alloc _ | with_reducible exact ((K5.alloc _).alloc _).far (by omega) _ _)
        clear hK K hHeld
        have hHeld := hHeld2
        clear hHeld2
        try simp only [Act.put, List.setIfInBounds_toArray, List.set_cons_zero, List.set_cons_succ]
        refine wpAnyH_ready (rs := [4]) (by kernel_rfl) (by simp) ?rdy5107
        refine (AllReadyH.cons (List.getElem?_toArray.trans rfl) (fun K hK => ?stp5107_4) AllReadyH.nil)
        case stp5107_4 =>
          go_simp
          go_wp2_with fail
          (refine (CO.out _).mono ?_; rintro e w4 ⟨rfl, hb4⟩; have s4 : w0.heap.size ≤ w4.heap.size := (by have := hb4.size; first | exact this | (simp at this; omega)); first | (have U4 : Blk w4 w0.heap.size #[.int .u64 0, .int .u64 0] 24 := Blk.via hb4 ((Blk.new w0 #[.int .u64 0, .int .u64 0] 24).alloc (.cells #[.int .u64 0, .int .u64 0] 24)) rfl; have V4 : Blk w4 (w0.heap.size + 1) #[.int .u64 0, .int .u64 0] 24 := Blk.via hb4 (Blk.new1 w0 (.cells #[.int .u64 0, .int .u64 0] 24) #[.int .u64 0, .int .u64 0] 24) rfl; obtain ⟨u0, u1, u2, u3, u4⟩ := U4.two; obtain ⟨y0, y1, y2, y3, y4⟩ := V4.two) | (have U4 : Blk w4 w0.heap.size #[.int .u64 0, .int .u64 0] 24 := Blk.via hb4 (Blk.new w0 #[.int .u64 0, .int .u64 0] 24) rfl; obtain ⟨u0, u1, u2, u3, u4⟩ := U4.two) | skip)
          go_wp2_with fail
          refine hK.out _ _ ?hSn5108 (fun hHeld2 => ?rest5108)
          case hSn5108 => (first | with_reducible exact R0.drew | with_reducible exact (R0.alloc _).drew | with_reducible exact ((R0.alloc _).alloc _).drew | with_reducible exact hHeld.below hb4 | with_reducible exact hHeld.below hb5 | with_reducible exact hHeld.alloc _ | with_reducible exact hHeld.far (by omega) _ _ | with_reducible exact K5.alloc _ | with_reducible exact (K5.alloc _).alloc _ | with_reducible exact (K5.alloc _).far (by omega) _ _ | with_reducible exact (K5.far (by omega) _ _).alloc _ | with_reducible exact ((K5.alloc _).alloc _).far (by omega) _ _)
          clear hK K hHeld
          have hHeld := hHeld2
          clear hHeld2
          try simp only [Act.put, List.setIfInBounds_toArray, List.set_cons_zero, List.set_cons_succ]
          refine wpAnyH_ready (rs := [9]) (by kernel_rfl) (by simp) ?rdy5109
          refine (AllReadyH.cons (List.getElem?_toArray.trans rfl) (fun K hK => ?stp5109_9) AllReadyH.nil)
          case stp5109_9 =>
            go_simp
            go_wp2_with fail
            (refine (CA.out _).mono ?_; rintro e w5 ⟨rfl, hb5⟩; have K5 := hHeld.below hb5; have s5 : w4.heap.size ≤ w5.heap.size := (by have := hb5.size; first | exact this | (simp at this; omega)); (first | (have U5 := U4.below hb5; obtain ⟨a0, a1, a2, a3, a4⟩ := U5.two) | (have U5 := Blk.via hb5 (U4.alloc (.cells #[.int .u64 0, .int .u64 0] 24)) rfl; obtain ⟨a0, a1, a2, a3, a4⟩ := U5.two) | (have U5 := Blk.via hb5 ((U4.alloc (.cells #[.int .u64 0, .int .u64 0] 24)).alloc (.cells #[.int .u64 0, .int .u64 0] 24)) rfl; obtain ⟨a0, a1, a2, a3, a4⟩ := U5.two) | skip); (first | (have V5 := V4.below hb5; obtain ⟨b0, b1, b2, b3, b4⟩ := V5.two) | (have V5 := Blk.via hb5 (V4.alloc (.cells #[.int .u64 0, .int .u64 0] 24)) rfl; obtain ⟨b0, b1, b2, b3, b4⟩ := V5.two) | (have V5 := Blk.via hb5 ((V4.alloc (.cells #[.int .u64 0, .int .u64 0] 24)).alloc (.cells #[.int .u64 0, .int .u64 0] 24)) rfl; obtain ⟨b0, b1, b2, b3, b4⟩ := V5.two) | skip); first | (have X5 : Blk w5 w4.heap.size #[.int .u64 0, .int .u64 0] 24 := Blk.via hb5 ((Blk.new w4 #[.int .u64 0, .int .u64 0] 24).alloc (.cells #[.int .u64 0, .int .u64 0] 24)) rfl; have Y5 : Blk w5 (w4.heap.size + 1) #[.int .u64 0, .int .u64 0] 24 := Blk.via hb5 (Blk.new1 w4 (.cells #[.int .u64 0, .int .u64 0] 24) #[.int .u64 0, .int .u64 0] 24) rfl; obtain ⟨p0, p1, p2, p3, p4⟩ := X5.two; obtain ⟨q0, q1, q2, q3, q4⟩ := Y5.two) | (have X5 : Blk w5 w4.heap.size #[.int .u64 0, .int .u64 0] 24 := Blk.via hb5 (Blk.new w4 #[.int .u64 0, .int .u64 0] 24) rfl; obtain ⟨p0, p1, p2, p3, p4⟩ := X5.two) | skip)
            go_wp2_with fail
            refine hK.out _ _ ?hSn5110 (fun hHeld2 => ?rest5110)
            case hSn5110 => (first | with_reducible exact R0.drew | with_reducible exact (R0.alloc _).drew | with_reducible exact ((R0.alloc _).alloc _).drew | with_reducible exact hHeld.below hb4 | with_reducible exact hHeld.below hb5 | with_reducible exact hHeld.alloc _ | with_reducible exact hHeld.far (by omega) _ _ | with_reducible exact K5.alloc _ | with_reducible exact (K5.alloc _).alloc _ | with_reducible exact (K5.alloc _).far (by omega) _ _ | with_reducible exact (K5.far (by omega) _ _).alloc _ | with_reducible exact ((K5.alloc _).alloc _).far (by omega) _ _)
            clear hK K hHeld
            have hHeld := hHeld2
            clear hHeld2
            try simp only [Act.put, List.setIfInBounds_toArray, List.set_cons_zero, List.set_cons_succ]
            refine wpAnyH_ready (rs := [12]) (by kernel_rfl) (by simp) ?rdy5111
            refine (AllReadyH.cons (List.getElem?_toArray.trans rfl) (fun K hK => ?stp5111_12) AllReadyH.nil)
            case stp5111_12 =>
              go_simp
              go_wp2_with fail
              refine hK.out _ _ ?hSn5112 (fun hHeld2 => ?rest5112)
              case hSn5112 => (first | with_reducible exact R0.drew | with_reducible exact (R0.alloc _).drew | with_reducible exact ((R0.alloc _).alloc _).drew | with_reducible exact hHeld.below hb4 | with_reducible exact hHeld.below hb5 | with_reducible exact hHeld.alloc _ | with_reducible exact hHeld.far (by omega) _ _ | with_reducible exact K5.alloc _ | with_reducible exact (K5.alloc _).alloc _ | with_reducible exact (K5.alloc _).far (by omega) _ _ | with_reducible exact (K5.far (by omega) _ _).alloc _ | with_reducible exact ((K5.alloc _).alloc _).far (by omega) _ _)
              clear hK K hHeld
              have hHeld := hHeld2
              clear hHeld2
              try simp only [Act.put, List.setIfInBounds_toArray, List.set_cons_zero, List.set_cons_succ]
              refine wpAnyH_ready (rs := [13]) (by kernel_rfl) (by simp) ?rdy5113
              refine (AllReadyH.cons (List.getElem?_toArray.trans rfl) (fun K hK => ?stp5113_13) AllReadyH.nil)
              case stp5113_13 =>
                go_simp
                go_wp2_with fail
                refine hK.out _ _ ?hSn5114 (fun hHeld2 => ?rest5114)
                case hSn5114 => (first | with_reducible exact R0.drew | with_reducible exact (R0.alloc _).drew | with_reducible exact ((R0.alloc _).alloc _).drew | with_reducible exact hHeld.below hb4 | with_reducible exact hHeld.below hb5 | with_reducible exact hHeld.alloc _ | with_reducible exact hHeld.far (by omega) _ _ | with_reducible exact K5.alloc _ | with_reducible exact (K5.alloc _).alloc _ | with_reducible exact (K5.alloc _).far (by omega) _ _ | with_reducible exact (K5.far (by omega) _ _).alloc _ | with_reducible exact ((K5.alloc _).alloc _).far (by omega) _ _)
                clear hK K hHeld
                have hHeld := hHeld2
                clear hHeld2
                try simp only [Act.put, List.setIfInBounds_toArray, List.set_cons_zero, List.set_cons_succ]
                refine wpAnyH_done (by kernel_rfl) ?_ _
                go_wp2_with fail
                go_meet
                case rel => exact ⟨_, _, rfl, rfl, (by (repeat (first | with_reducible exact Blk.new _ _ _ | with_reducible exact Blk.new1 _ _ _ _ | with_reducible exact Blk.news _ _ _ _ _ _ _ | with_reducible exact U5 | with_reducible exact V5 | with_reducible exact X5 | with_reducible exact Y5 | with_reducible refine Blk.put2 (x := .int .u64 0) (y := .int .u64 0) ?_ _ _ | with_reducible refine Blk.far2 ?_ (by omega) _ _ | with_reducible refine Blk.alloc ?_ _))), (by (repeat (first | with_reducible exact Blk.new _ _ _ | with_reducible exact Blk.new1 _ _ _ _ | with_reducible exact Blk.news _ _ _ _ _ _ _ | with_reducible exact U5 | with_reducible exact V5 | with_reducible exact X5 | with_reducible exact Y5 | with_reducible refine Blk.put2 (x := .int .u64 0) (y := .int .u64 0) ?_ _ _ | with_reducible refine Blk.far2 ?_ (by omega) _ _ | with_reducible refine Blk.alloc ?_ _))), hHeld⟩
  case rest =>
    obtain ⟨P, Q, rfl, rfl, KP, KQ, R⟩ := hcut
    clear R0 CO CA
    have S0 : AK2 w v ah al u bh bl P Q oh ol nh nl wc := AK2.of KP KQ R
    go_wp2_with fail
    refine wp_region_held_drew (S := (AK2 w v ah al u bh bl P Q oh ol nh nl)) (by kernel_rfl) ?hS100 (fun hHeld => ?rest100)
    case hS100 => (first | with_reducible exact S0.drew | with_reducible exact hHeld.below hb6 | with_reducible exact hHeld.below hb7 | with_reducible exact hHeld.below hb8 | with_reducible exact hHeld.below hb9)
    refine wpAnyH_take (i := 0) (oi := _) (v := ?v101) (List.getElem?_toArray.trans rfl) (by kernel_rfl) (by kernel_rfl) (by kernel_rfl) (fun _ _ _ h => h) (Or.inl ⟨by rfl, ?hy101⟩) (by assumption) ?rest101
    case hy101 => (intro wq hSw; (try simp only [Two, AK2] at hSw); go_simp; try with_reducible rfl)
    try simp only [Act.put, List.setIfInBounds_toArray, List.set_cons_zero, List.set_cons_succ]
    refine wpAnyH_take (i := 2) (oi := _) (v := ?v102) (List.getElem?_toArray.trans rfl) (by kernel_rfl) (by kernel_rfl) (by kernel_rfl) (fun _ _ _ h => h) (Or.inl ⟨by rfl, ?hy102⟩) (by assumption) ?rest102
    case hy102 => (intro wq hSw; (try simp only [Two, AK2] at hSw); go_simp; try with_reducible rfl)
    try simp only [Act.put, List.setIfInBounds_toArray, List.set_cons_zero, List.set_cons_succ]
    refine wpAnyH_take (i := 3) (oi := _) (v := ?v103) (List.getElem?_toArray.trans rfl) (by kernel_rfl) (by kernel_rfl) (by kernel_rfl) (fun _ _ _ h => h) (Or.inl ⟨by rfl, ?hy103⟩) (by assumption) ?rest103
    case hy103 => (intro wq hSw; (try simp only [Two, AK2] at hSw); go_simp; try with_reducible rfl)
    try simp only [Act.put, List.setIfInBounds_toArray, List.set_cons_zero, List.set_cons_succ]
    refine wpAnyH_ready (rs := [1]) (by kernel_rfl) (by simp) ?rdy104
    refine AllReadyH.cons (List.getElem?_toArray.trans rfl) (fun K hK => ?stp104) AllReadyH.nil
    go_simp
    go_wp2_with fail
    (refine (CW.out _).mono ?_; rintro e w6 ⟨rfl, hb6⟩)
    go_wp2_with fail
    refine hK.out _ _ ?hSn104 (fun hHeld2 => ?rest104)
    case hSn104 => (first | with_reducible exact S0.drew | with_reducible exact hHeld.below hb6 | with_reducible exact hHeld.below hb7 | with_reducible exact hHeld.below hb8 | with_reducible exact hHeld.below hb9)
    clear hK K hHeld
    have hHeld := hHeld2
    clear hHeld2
    try simp only [Act.put, List.setIfInBounds_toArray, List.set_cons_zero, List.set_cons_succ]
    refine wpAnyH_ready (rs := [4]) (by kernel_rfl) (by simp) ?rdy105
    refine AllReadyH.cons (List.getElem?_toArray.trans rfl) (fun K hK => ?stp105) AllReadyH.nil
    go_simp
    go_wp2_with fail
    (refine (CN.out _).mono ?_; rintro e w7 ⟨rfl, hb7⟩)
    go_wp2_with fail
    refine hK.out _ _ ?hSn105 (fun hHeld2 => ?rest105)
    case hSn105 => (first | with_reducible exact S0.drew | with_reducible exact hHeld.below hb6 | with_reducible exact hHeld.below hb7 | with_reducible exact hHeld.below hb8 | with_reducible exact hHeld.below hb9)
    clear hK K hHeld
    have hHeld := hHeld2
    clear hHeld2
    try simp only [Act.put, List.setIfInBounds_toArray, List.set_cons_zero, List.set_cons_succ]
    refine wpAnyH_ready (rs := [5]) (by kernel_rfl) (by simp) ?rdy106
    refine AllReadyH.cons (List.getElem?_toArray.trans rfl) (fun K hK => ?stp106) AllReadyH.nil
    go_simp
    go_wp2_with fail
    (refine (CX.out _).mono ?_; rintro e w8 ⟨rfl, hb8⟩)
    go_wp2_with fail
    refine hK.out _ _ ?hSn106 (fun hHeld2 => ?rest106)
    case hSn106 => (first | with_reducible exact S0.drew | with_reducible exact hHeld.below hb6 | with_reducible exact hHeld.below hb7 | with_reducible exact hHeld.below hb8 | with_reducible exact hHeld.below hb9)
    clear hK K hHeld
    have hHeld := hHeld2
    clear hHeld2
    try simp only [Act.put, List.setIfInBounds_toArray, List.set_cons_zero, List.set_cons_succ]
    refine wpAnyH_ready (rs := [6]) (by kernel_rfl) (by simp) ?rdy107
    refine AllReadyH.cons (List.getElem?_toArray.trans rfl) (fun K hK => ?stp107) AllReadyH.nil
    go_simp
    go_wp2_with fail
    (refine (CL.out _).mono ?_; rintro e w9 ⟨rfl, hb9⟩)
    go_wp2_with fail
    refine hK.out _ _ ?hSn107 (fun hHeld2 => ?rest107)
    case hSn107 => (first | with_reducible exact S0.drew | with_reducible exact hHeld.below hb6 | with_reducible exact hHeld.below hb7 | with_reducible exact hHeld.below hb8 | with_reducible exact hHeld.below hb9)
    clear hK K hHeld
    have hHeld := hHeld2
    clear hHeld2
    try simp only [Act.put, List.setIfInBounds_toArray, List.set_cons_zero, List.set_cons_succ]
    refine wpAnyH_take (i := 7) (oi := _) (v := ?v108) (List.getElem?_toArray.trans rfl) (by kernel_rfl) (by kernel_rfl) (by kernel_rfl) (fun _ _ _ h => h) (Or.inl ⟨by rfl, ?hy108⟩) (by assumption) ?rest108
    case hy108 => (intro wq hSw; (try simp only [Two, AK2] at hSw); go_simp; try with_reducible rfl)
    try simp only [Act.put, List.setIfInBounds_toArray, List.set_cons_zero, List.set_cons_succ]
    refine wpAnyH_take (i := 8) (oi := _) (v := ?v109) (List.getElem?_toArray.trans rfl) (by kernel_rfl) (by kernel_rfl) (by kernel_rfl) (fun _ _ _ h => h) (Or.inl ⟨by rfl, ?hy109⟩) (by assumption) ?rest109
    case hy109 => (intro wq hSw; (try simp only [Two, AK2] at hSw); go_simp; try with_reducible rfl)
    try simp only [Act.put, List.setIfInBounds_toArray, List.set_cons_zero, List.set_cons_succ]
    refine wpAnyH_done (by kernel_rfl) ?fin100 _
    go_wp2
    go_ret
    exact ⟨by rw [hkL.out]; first | rfl | simp, hHeld.2.2.2.2.2.2⟩
end Go.Proofs.YtmhnfgfdggjdhaaGreatDoor
