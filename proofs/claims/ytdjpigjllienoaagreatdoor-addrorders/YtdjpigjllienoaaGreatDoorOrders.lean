/-
  The walk of AddrOrders.
-/
import Derived.Test.YtdjpigjllienoaaGreatDoorRefO
import Derived.Test.YtdjpigjllienoaaGreatDoorAddrC
import Derived.Test.YtdjpigjllienoaaGreatDoorBlk
import Derived.Test.YtdjpigjllienoaaGreatDoorHex
import Derived.Deep.RegionHeld
namespace Go.Proofs.YtdjpigjllienoaaGreatDoor
open Go.ChangeShapes Go.WideShapes Go.ChangeAt Go.RowKit
set_option linter.unusedVariables false
set_option linter.unusedSimpArgs false

/-- The blocks that the law's last statement reads. -/
def OS (B0 B1 X Y M K : Nat) (v u x : Bool) (ah al bh bl xh xl mh ml : Int) (wx : World) : Prop :=
  ((wx.cell? ⟨B0, 0, none⟩ = some (.bool v) ∧ wx.cell? ⟨B0, 1, none⟩ = some (.int .u64 ah) ∧ wx.cell? ⟨B0, 2, none⟩ = some (.int .u64 al)) ∧ (wx.cell? ⟨B1, 0, none⟩ = some (.bool u) ∧ wx.cell? ⟨B1, 1, none⟩ = some (.int .u64 bh) ∧ wx.cell? ⟨B1, 2, none⟩ = some (.int .u64 bl)) ∧ (wx.cell? ⟨X, 0, none⟩ = some (.bool x) ∧ wx.cell? ⟨X, 1, none⟩ = some (.int .u64 xh) ∧ wx.cell? ⟨X, 2, none⟩ = some (.int .u64 xl)) ∧ (wx.cell? ⟨Y, 0, none⟩ = some (.bool x) ∧ wx.cell? ⟨Y, 1, none⟩ = some (.int .u64 xh) ∧ wx.cell? ⟨Y, 2, none⟩ = some (.int .u64 xl)) ∧ (wx.cell? ⟨M, 0, none⟩ = some (.int .u64 mh) ∧ wx.cell? ⟨M, 1, none⟩ = some (.int .u64 ml)) ∧ (wx.cell? ⟨K, 0, none⟩ = some (.int .u64 mh) ∧ wx.cell? ⟨K, 1, none⟩ = some (.int .u64 ml))) ∧ Blk wx B0 #[.bool v, .int .u64 ah, .int .u64 al] 26 ∧ Blk wx B1 #[.bool u, .int .u64 bh, .int .u64 bl] 26 ∧ Blk wx X #[.bool x, .int .u64 xh, .int .u64 xl] 26 ∧ Blk wx Y #[.bool x, .int .u64 xh, .int .u64 xl] 26 ∧ Blk wx M #[.int .u64 mh, .int .u64 ml] 24 ∧ Blk wx K #[.int .u64 mh, .int .u64 ml] 24

theorem OS.of {B0 B1 X Y M K : Nat} {v u x : Bool} {ah al bh bl xh xl mh ml : Int} {wx : World} (a : Blk wx B0 #[.bool v, .int .u64 ah, .int .u64 al] 26) (b : Blk wx B1 #[.bool u, .int .u64 bh, .int .u64 bl] 26) (c : Blk wx X #[.bool x, .int .u64 xh, .int .u64 xl] 26) (d : Blk wx Y #[.bool x, .int .u64 xh, .int .u64 xl] 26) (e : Blk wx M #[.int .u64 mh, .int .u64 ml] 24) (f : Blk wx K #[.int .u64 mh, .int .u64 ml] 24) : OS B0 B1 X Y M K v u x ah al bh bl xh xl mh ml wx :=
  ⟨⟨⟨a.cell 0, a.cell 1, a.cell 2⟩, ⟨b.cell 0, b.cell 1, b.cell 2⟩, ⟨c.cell 0, c.cell 1, c.cell 2⟩, ⟨d.cell 0, d.cell 1, d.cell 2⟩, ⟨e.cell 0, e.cell 1⟩, ⟨f.cell 0, f.cell 1⟩⟩, a, b, c, d, e, f⟩

theorem OS.drew {B0 B1 X Y M K : Nat} {v u x : Bool} {ah al bh bl xh xl mh ml : Int} {wx : World} (s : OS B0 B1 X Y M K v u x ah al bh bl xh xl mh ml wx) : OS B0 B1 X Y M K v u x ah al bh bl xh xl mh ml wx.drew := s

theorem OS.below {B0 B1 X Y M K : Nat} {v u x : Bool} {ah al bh bl xh xl mh ml : Int} {wx : World} {w1 : World} (s : OS B0 B1 X Y M K v u x ah al bh bl xh xl mh ml wx) (hb : Below wx.heap.size wx w1) : OS B0 B1 X Y M K v u x ah al bh bl xh xl mh ml w1 :=
  OS.of (s.2.1.below hb) (s.2.2.1.below hb) (s.2.2.2.1.below hb) (s.2.2.2.2.1.below hb) (s.2.2.2.2.2.1.below hb) (s.2.2.2.2.2.2.below hb)

/-- What the law keeps. -/
def OK2 (w : World) (v u : Bool) (ah al bh bl nh nl : Int) (wr : World) : Prop :=
  Blk wr w.heap.size #[.bool v, .int .u64 ah, .int .u64 al] 26 ∧ Blk wr (w.heap.size + 1) #[.bool u, .int .u64 bh, .int .u64 bl] 26 ∧ Blk wr (w.heap.size + 2) #[.int .u64 nh, .int .u64 nl] 24 ∧ Below w.heap.size w wr

theorem OK2.below {w W w1 : World} {v u : Bool} {ah al bh bl nh nl : Int} (s : OK2 w v u ah al bh bl nh nl W) (hb : Below W.heap.size W w1) : OK2 w v u ah al bh bl nh nl w1 := ⟨s.1.below hb, s.2.1.below hb, s.2.2.1.below hb, s.2.2.2.trans (hb.mono s.2.2.2.size)⟩

theorem OK2.alloc {w W : World} {v u : Bool} {ah al bh bl nh nl : Int} (s : OK2 w v u ah al bh bl nh nl W) (o : Obj) : OK2 w v u ah al bh bl nh nl (W.alloc o) := ⟨s.1.alloc o, s.2.1.alloc o, s.2.2.1.alloc o, s.2.2.2.alloc (Nat.le_of_lt s.1.lt) o⟩

set_option maxRecDepth 100000 in
set_option maxHeartbeats 3200000 in
theorem orders_walk {v u : Bool} {ah al bh bl nh nl : Int} {a b n : Nat} (ha : IsNum ah al a) (hb : IsNum bh bl b) (hn : IsNum nh nl n) (w : World) (hL : LW w)
    (aw : ∀ w, LW w → Calls Tryz.prog 4 #[] w fun e w' => e = .returned (.bool true) ∧ Below w.heap.size w w') :
    Calls Tryz.prog 3 #[av v ah al, av u bh bl, nv nh nl] w fun e w' => e = .returned (.bool true) ∧ Below w.heap.size w w' := by
  have hz := hL.sz
  have R0 : OK2 w v u ah al bh bl nh nl (((w.alloc (.cells #[.bool v, .int .u64 ah, .int .u64 al] 26)).alloc (.cells #[.bool u, .int .u64 bh, .int .u64 bl] 26)).alloc (.cells #[.int .u64 nh, .int .u64 nl] 24)) :=
    ⟨((Blk.new _ _ _).alloc _).alloc _, Blk.alloc (by simpa using Blk.new (w.alloc (.cells #[.bool v, .int .u64 ah, .int .u64 al] 26)) #[.bool u, .int .u64 bh, .int .u64 bl] 26) _, by simpa using Blk.new ((w.alloc (.cells #[.bool v, .int .u64 ah, .int .u64 al] 26)).alloc (.cells #[.bool u, .int .u64 bh, .int .u64 bl] 26)) #[.int .u64 nh, .int .u64 nl] 24, by repeat (first | with_reducible exact Below.refl _ _ | with_reducible refine Below.drew ?_ | with_reducible refine Below.alloc ?_ (by first | omega | (simp <;> omega)) _ | with_reducible refine Below.setCell ?_ (by first | omega | (simp <;> omega)) _)⟩
  have AW := aw _ (hL.of R0.2.2.2 hz)
  obtain ⟨x, xh, xl, xc, hp⟩ := plusIs_ex v a n
  obtain ⟨mh, ml, mc, hm⟩ := minusIs_ex v u (b := b) ha.lt
  have P1 := fun w' => plus_is ha hn hp w'
  have P2 := fun w' => rplus_is ha hn hp w'
  have M1 := fun w' => minus_is ha hb hm w'
  have M2 := fun w' => rminus_is ha hb hm w'
  obtain ⟨kc, hkc⟩ : ∃ kc, kc = cmpA v u a b := ⟨_, rfl⟩
  have C1 : Hid (∀ w', Calls Tryz.prog 11 #[av v ah al, av u bh bl] w' fun e w1 => e = .returned (.int .i64 kc) ∧ Below w'.heap.size w' w1) := fun w' => by
    refine (acmp_c ha hb w').mono ?_
    rintro e w1 ⟨k, rfl, hk, hb'⟩
    exact ⟨by rw [hk, hkc], hb'⟩
  have C2 : Hid (∀ w', Calls Tryz.prog 12 #[av v ah al, av u bh bl] w' fun e w1 => e = .returned (.int .i64 kc) ∧ Below w'.heap.size w' w1) := fun w' => by
    refine (racmp_c ha hb w').mono ?_
    rintro e w1 ⟨k, rfl, hk, hb'⟩
    exact ⟨by rw [hk, hkc], hb'⟩
  obtain ⟨ok, hok⟩ : ∃ ok, okA v a = ok := ⟨_, rfl⟩
  have Q1 : Hid (∀ w', Calls Tryz.prog 9 #[av v ah al] w' fun e w1 => e = .returned (.bool ok) ∧ Below w'.heap.size w' w1) := fun w' => hok ▸ aright_c ha w'
  have Q2 : Hid (∀ w', Calls Tryz.prog 10 #[av v ah al] w' fun e w1 => e = .returned (.bool ok) ∧ Below w'.heap.size w' w1) := fun w' => hok ▸ rright_c ha w'
  obtain ⟨wd, hwd⟩ : ∃ wd, widthA v = wd := ⟨_, rfl⟩
  have W1 : Hid (∀ w', Calls Tryz.prog 13 #[av v ah al] w' fun e w1 => e = .returned (.int .i64 wd) ∧ Below w'.heap.size w' w1) := fun w' => width_lit v wd hwd ah al w'
  have W2 : Hid (∀ w', Calls Tryz.prog 14 #[av v ah al] w' fun e w1 => e = .returned (.int .i64 wd) ∧ Below w'.heap.size w' w1) := fun w' => rwidth_c v wd hwd ah al w'
  clear ha hb hn hp hm hkc hok hwd hL aw
  go_enter Tryz.func3, Tryz.ntmps3
  go_wp2_with fail
  refine AW.mono ?_
  rintro e w1 ⟨rfl, hb1⟩
  have R1 := R0.below hb1
  clear AW R0 hb1
  obtain ⟨A0, A1, A2, _, _, _, A6⟩ := R1.1.three
  obtain ⟨D0, D1, D2, _, _, _, D6⟩ := R1.2.1.three
  obtain ⟨N0, N1, _, _, N6⟩ := R1.2.2.1.two
  go_wp2_with fail
  refine (P1 _).mono ?_
  rintro e w2 ⟨rfl, hb2⟩
  have R2 := R1.below hb2
  have R2a := R2.alloc (.cells #[.bool x, .int .u64 xh, .int .u64 xl] 26)
  have X2 : Blk (w2.alloc (.cells #[.bool x, .int .u64 xh, .int .u64 xl] 26)) w2.heap.size #[.bool x, .int .u64 xh, .int .u64 xl] 26 := Blk.new _ _ _
  clear P1 R1 hb2 A0 A1 A2 A6 D0 D1 D2 D6 N0 N1 N6
  obtain ⟨A0, A1, A2, _, _, _, A6⟩ := R2.1.three
  obtain ⟨D0, D1, D2, _, _, _, D6⟩ := R2.2.1.three
  obtain ⟨N0, N1, _, _, N6⟩ := R2.2.2.1.two
  go_wp2_with fail
  refine (P2 _).mono ?_
  rintro e w3 ⟨rfl, hb3⟩
  have R3 := R2a.below hb3
  have R3a := R3.alloc (.cells #[.bool x, .int .u64 xh, .int .u64 xl] 26)
  have X3 := (X2.below hb3).alloc (.cells #[.bool x, .int .u64 xh, .int .u64 xl] 26)
  have Y3 : Blk (w3.alloc (.cells #[.bool x, .int .u64 xh, .int .u64 xl] 26)) w3.heap.size #[.bool x, .int .u64 xh, .int .u64 xl] 26 := Blk.new _ _ _
  clear P2 R2 R2a X2 hb3 A0 A1 A2 A6 D0 D1 D2 D6 N0 N1 N6
  obtain ⟨A0, A1, A2, _, _, _, A6⟩ := R3.1.three
  obtain ⟨D0, D1, D2, _, _, _, D6⟩ := R3.2.1.three
  go_wp2_with fail
  refine (M1 _).mono ?_
  rintro e w4 ⟨rfl, hb4⟩
  have R4 := R3a.below hb4
  have R4a := R4.alloc (.cells #[.int .u64 mh, .int .u64 ml] 24)
  have X4 := (X3.below hb4).alloc (.cells #[.int .u64 mh, .int .u64 ml] 24)
  have Y4 := (Y3.below hb4).alloc (.cells #[.int .u64 mh, .int .u64 ml] 24)
  have M4 : Blk (w4.alloc (.cells #[.int .u64 mh, .int .u64 ml] 24)) w4.heap.size #[.int .u64 mh, .int .u64 ml] 24 := Blk.new _ _ _
  clear M1 R3 R3a X3 Y3 hb4 A0 A1 A2 A6 D0 D1 D2 D6
  obtain ⟨A0, A1, A2, _, _, _, A6⟩ := R4.1.three
  obtain ⟨D0, D1, D2, _, _, _, D6⟩ := R4.2.1.three
  go_wp2_with fail
  refine (M2 _).mono ?_
  rintro e w5 ⟨rfl, hb5⟩
  have R5 := (R4a.below hb5).alloc (.cells #[.int .u64 mh, .int .u64 ml] 24)
  have X5 := (X4.below hb5).alloc (.cells #[.int .u64 mh, .int .u64 ml] 24)
  have Y5 := (Y4.below hb5).alloc (.cells #[.int .u64 mh, .int .u64 ml] 24)
  have M5 := (M4.below hb5).alloc (.cells #[.int .u64 mh, .int .u64 ml] 24)
  have K5 : Blk (w5.alloc (.cells #[.int .u64 mh, .int .u64 ml] 24)) w5.heap.size #[.int .u64 mh, .int .u64 ml] 24 := Blk.new _ _ _
  have S0 := OS.of R5.1 R5.2.1 X5 Y5 M5 K5
  have B5 := R5.2.2.2
  clear M2 R4 R4a X4 Y4 M4 hb5 A0 A1 A2 A6 D0 D1 D2 D6 R5 X5 Y5 M5 K5
  go_wp2_with fail
  refine wp_region_held_drew (S := (OS w.heap.size (w.heap.size + 1) w2.heap.size w3.heap.size w4.heap.size w5.heap.size v u x ah al bh bl xh xl mh ml)) (by kernel_rfl) ?hS0 (fun hHeld => ?rest0)
  case hS0 => (first | with_reducible exact S0.drew | exact hHeld.below hb6 | exact hHeld.below hb7 | exact hHeld.below hb8 | exact hHeld.below hb9 | exact hHeld.below hb10 | exact hHeld.below hb11)
  refine wpAnyH_take (i := 0) (oi := _) (v := ?v1) (List.getElem?_toArray.trans rfl) (by kernel_rfl) (by kernel_rfl) (by kernel_rfl) (fun _ _ _ h => h) (Or.inl ⟨by rfl, ?hy1⟩) (by assumption) ?rest1
  case hy1 => (intro wq hSw; (try simp only [Two, OS] at hSw); go_simp; try with_reducible rfl)
  try simp only [Act.put, List.setIfInBounds_toArray, List.set_cons_zero, List.set_cons_succ]
  refine wpAnyH_take (i := 2) (oi := _) (v := ?v2) (List.getElem?_toArray.trans rfl) (by kernel_rfl) (by kernel_rfl) (by kernel_rfl) (fun _ _ _ h => h) (Or.inl ⟨by rfl, ?hy2⟩) (by assumption) ?rest2
  case hy2 => (intro wq hSw; (try simp only [Two, OS] at hSw); go_simp; try with_reducible rfl)
  try simp only [Act.put, List.setIfInBounds_toArray, List.set_cons_zero, List.set_cons_succ]
  refine wpAnyH_ready (rs := [1]) (by kernel_rfl) (by simp) ?rdy3
  refine AllReadyH.cons (List.getElem?_toArray.trans rfl) (fun K hK => ?stp3) AllReadyH.nil
  go_simp
  go_wp2_with fail
  (refine (Q1.out _).mono ?_; rintro e w6 ⟨rfl, hb6⟩; have B6 : Below w.heap.size w w6 := Below.via hb6 B5 (Nat.le_refl _) rfl rfl rfl rfl)
  go_wp2_with fail
  refine hK.out _ _ ?hSn3 (fun hHeld2 => ?rest3)
  case hSn3 => (first | with_reducible exact S0.drew | exact hHeld.below hb6 | exact hHeld.below hb7 | exact hHeld.below hb8 | exact hHeld.below hb9 | exact hHeld.below hb10 | exact hHeld.below hb11)
  clear hK K hHeld
  have hHeld := hHeld2
  clear hHeld2
  try simp only [Act.put, List.setIfInBounds_toArray, List.set_cons_zero, List.set_cons_succ]
  refine wpAnyH_ready (rs := [3]) (by kernel_rfl) (by simp) ?rdy4
  refine AllReadyH.cons (List.getElem?_toArray.trans rfl) (fun K hK => ?stp4) AllReadyH.nil
  go_simp
  go_wp2_with fail
  (refine (Q2.out _).mono ?_; rintro e w7 ⟨rfl, hb7⟩; have B7 : Below w.heap.size w w7 := Below.via hb7 B6 (Nat.le_refl _) rfl rfl rfl rfl)
  go_wp2_with fail
  refine hK.out _ _ ?hSn4 (fun hHeld2 => ?rest4)
  case hSn4 => (first | with_reducible exact S0.drew | exact hHeld.below hb6 | exact hHeld.below hb7 | exact hHeld.below hb8 | exact hHeld.below hb9 | exact hHeld.below hb10 | exact hHeld.below hb11)
  clear hK K hHeld
  have hHeld := hHeld2
  clear hHeld2
  try simp only [Act.put, List.setIfInBounds_toArray, List.set_cons_zero, List.set_cons_succ]
  refine wpAnyH_take (i := 4) (oi := _) (v := ?v5) (List.getElem?_toArray.trans rfl) (by kernel_rfl) (by kernel_rfl) (by kernel_rfl) (fun _ _ _ h => h) (Or.inl ⟨by rfl, ?hy5⟩) (by assumption) ?rest5
  case hy5 => (intro wq hSw; (try simp only [Two, OS] at hSw); go_simp; try with_reducible rfl)
  try simp only [Act.put, List.setIfInBounds_toArray, List.set_cons_zero, List.set_cons_succ]
  refine wpAnyH_take (i := 5) (oi := _) (v := ?v6) (List.getElem?_toArray.trans rfl) (by kernel_rfl) (by kernel_rfl) (by kernel_rfl) (fun _ _ _ h => h) (Or.inl ⟨by rfl, ?hy6⟩) (by assumption) ?rest6
  case hy6 => (intro wq hSw; (try simp only [Two, OS] at hSw); go_simp; try with_reducible rfl)
  try simp only [Act.put, List.setIfInBounds_toArray, List.set_cons_zero, List.set_cons_succ]
  refine wpAnyH_take (i := 6) (oi := _) (v := ?v7) (List.getElem?_toArray.trans rfl) (by kernel_rfl) (by kernel_rfl) (by kernel_rfl) (fun _ _ _ h => h) (Or.inl ⟨by rfl, ?hy7⟩) (by assumption) ?rest7
  case hy7 => (intro wq hSw; (try simp only [Two, OS] at hSw); go_simp; try with_reducible rfl)
  try simp only [Act.put, List.setIfInBounds_toArray, List.set_cons_zero, List.set_cons_succ]
  refine wpAnyH_take (i := 7) (oi := _) (v := ?v8) (List.getElem?_toArray.trans rfl) (by kernel_rfl) (by kernel_rfl) (by kernel_rfl) (fun _ _ _ h => h) (Or.inl ⟨by rfl, ?hy8⟩) (by assumption) ?rest8
  case hy8 => (intro wq hSw; (try simp only [Two, OS] at hSw); go_simp; try with_reducible rfl)
  try simp only [Act.put, List.setIfInBounds_toArray, List.set_cons_zero, List.set_cons_succ]
  refine wpAnyH_take (i := 9) (oi := _) (v := ?v9) (List.getElem?_toArray.trans rfl) (by kernel_rfl) (by kernel_rfl) (by kernel_rfl) (fun _ _ _ h => h) (Or.inl ⟨by rfl, ?hy9⟩) (by assumption) ?rest9
  case hy9 => (intro wq hSw; (try simp only [Two, OS] at hSw); go_simp; try with_reducible rfl)
  try simp only [Act.put, List.setIfInBounds_toArray, List.set_cons_zero, List.set_cons_succ]
  refine wpAnyH_take (i := 10) (oi := _) (v := ?v10) (List.getElem?_toArray.trans rfl) (by kernel_rfl) (by kernel_rfl) (by kernel_rfl) (fun _ _ _ h => h) (Or.inl ⟨by rfl, ?hy10⟩) (by assumption) ?rest10
  case hy10 => (intro wq hSw; (try simp only [Two, OS] at hSw); go_simp; try with_reducible rfl)
  try simp only [Act.put, List.setIfInBounds_toArray, List.set_cons_zero, List.set_cons_succ]
  refine wpAnyH_ready (rs := [8]) (by kernel_rfl) (by simp) ?rdy11
  refine AllReadyH.cons (List.getElem?_toArray.trans rfl) (fun K hK => ?stp11) AllReadyH.nil
  go_simp
  go_wp2_with fail
  (refine (C1.out _).mono ?_; rintro e w8 ⟨rfl, hb8⟩; have B8 : Below w.heap.size w w8 := Below.via hb8 B7 (Nat.le_refl _) rfl rfl rfl rfl)
  go_wp2_with fail
  refine hK.out _ _ ?hSn11 (fun hHeld2 => ?rest11)
  case hSn11 => (first | with_reducible exact S0.drew | exact hHeld.below hb6 | exact hHeld.below hb7 | exact hHeld.below hb8 | exact hHeld.below hb9 | exact hHeld.below hb10 | exact hHeld.below hb11)
  clear hK K hHeld
  have hHeld := hHeld2
  clear hHeld2
  try simp only [Act.put, List.setIfInBounds_toArray, List.set_cons_zero, List.set_cons_succ]
  refine wpAnyH_ready (rs := [11]) (by kernel_rfl) (by simp) ?rdy12
  refine AllReadyH.cons (List.getElem?_toArray.trans rfl) (fun K hK => ?stp12) AllReadyH.nil
  go_simp
  go_wp2_with fail
  (refine (C2.out _).mono ?_; rintro e w9 ⟨rfl, hb9⟩; have B9 : Below w.heap.size w w9 := Below.via hb9 B8 (Nat.le_refl _) rfl rfl rfl rfl)
  go_wp2_with fail
  refine hK.out _ _ ?hSn12 (fun hHeld2 => ?rest12)
  case hSn12 => (first | with_reducible exact S0.drew | exact hHeld.below hb6 | exact hHeld.below hb7 | exact hHeld.below hb8 | exact hHeld.below hb9 | exact hHeld.below hb10 | exact hHeld.below hb11)
  clear hK K hHeld
  have hHeld := hHeld2
  clear hHeld2
  try simp only [Act.put, List.setIfInBounds_toArray, List.set_cons_zero, List.set_cons_succ]
  refine wpAnyH_take (i := 12) (oi := _) (v := ?v13) (List.getElem?_toArray.trans rfl) (by kernel_rfl) (by kernel_rfl) (by kernel_rfl) (fun _ _ _ h => h) (Or.inl ⟨by rfl, ?hy13⟩) (by assumption) ?rest13
  case hy13 => (intro wq hSw; (try simp only [Two, OS] at hSw); go_simp; try with_reducible rfl)
  try simp only [Act.put, List.setIfInBounds_toArray, List.set_cons_zero, List.set_cons_succ]
  refine wpAnyH_take (i := 13) (oi := _) (v := ?v14) (List.getElem?_toArray.trans rfl) (by kernel_rfl) (by kernel_rfl) (by kernel_rfl) (fun _ _ _ h => h) (Or.inl ⟨by rfl, ?hy14⟩) (by assumption) ?rest14
  case hy14 => (intro wq hSw; (try simp only [Two, OS] at hSw); go_simp; try with_reducible rfl)
  try simp only [Act.put, List.setIfInBounds_toArray, List.set_cons_zero, List.set_cons_succ]
  refine wpAnyH_take (i := 14) (oi := _) (v := ?v15) (List.getElem?_toArray.trans rfl) (by kernel_rfl) (by kernel_rfl) (by kernel_rfl) (fun _ _ _ h => h) (Or.inl ⟨by rfl, ?hy15⟩) (by assumption) ?rest15
  case hy15 => (intro wq hSw; (try simp only [Two, OS] at hSw); go_simp; try with_reducible rfl)
  try simp only [Act.put, List.setIfInBounds_toArray, List.set_cons_zero, List.set_cons_succ]
  refine wpAnyH_take (i := 15) (oi := _) (v := ?v16) (List.getElem?_toArray.trans rfl) (by kernel_rfl) (by kernel_rfl) (by kernel_rfl) (fun _ _ _ h => h) (Or.inl ⟨by rfl, ?hy16⟩) (by assumption) ?rest16
  case hy16 => (intro wq hSw; (try simp only [Two, OS] at hSw); go_simp; try with_reducible rfl)
  try simp only [Act.put, List.setIfInBounds_toArray, List.set_cons_zero, List.set_cons_succ]
  refine wpAnyH_take (i := 17) (oi := _) (v := ?v17) (List.getElem?_toArray.trans rfl) (by kernel_rfl) (by kernel_rfl) (by kernel_rfl) (fun _ _ _ h => h) (Or.inl ⟨by rfl, ?hy17⟩) (by assumption) ?rest17
  case hy17 => (intro wq hSw; (try simp only [Two, OS] at hSw); go_simp; try with_reducible rfl)
  try simp only [Act.put, List.setIfInBounds_toArray, List.set_cons_zero, List.set_cons_succ]
  refine wpAnyH_ready (rs := [16]) (by kernel_rfl) (by simp) ?rdy18
  refine AllReadyH.cons (List.getElem?_toArray.trans rfl) (fun K hK => ?stp18) AllReadyH.nil
  go_simp
  go_wp2_with fail
  (refine (W1.out _).mono ?_; rintro e w10 ⟨rfl, hb10⟩; have B10 : Below w.heap.size w w10 := Below.via hb10 B9 (Nat.le_refl _) rfl rfl rfl rfl)
  go_wp2_with fail
  refine hK.out _ _ ?hSn18 (fun hHeld2 => ?rest18)
  case hSn18 => (first | with_reducible exact S0.drew | exact hHeld.below hb6 | exact hHeld.below hb7 | exact hHeld.below hb8 | exact hHeld.below hb9 | exact hHeld.below hb10 | exact hHeld.below hb11)
  clear hK K hHeld
  have hHeld := hHeld2
  clear hHeld2
  try simp only [Act.put, List.setIfInBounds_toArray, List.set_cons_zero, List.set_cons_succ]
  refine wpAnyH_ready (rs := [18]) (by kernel_rfl) (by simp) ?rdy19
  refine AllReadyH.cons (List.getElem?_toArray.trans rfl) (fun K hK => ?stp19) AllReadyH.nil
  go_simp
  go_wp2_with fail
  (refine (W2.out _).mono ?_; rintro e w11 ⟨rfl, hb11⟩; have B11 : Below w.heap.size w w11 := Below.via hb11 B10 (Nat.le_refl _) rfl rfl rfl rfl)
  go_wp2_with fail
  refine hK.out _ _ ?hSn19 (fun hHeld2 => ?rest19)
  case hSn19 => (first | with_reducible exact S0.drew | exact hHeld.below hb6 | exact hHeld.below hb7 | exact hHeld.below hb8 | exact hHeld.below hb9 | exact hHeld.below hb10 | exact hHeld.below hb11)
  clear hK K hHeld
  have hHeld := hHeld2
  clear hHeld2
  try simp only [Act.put, List.setIfInBounds_toArray, List.set_cons_zero, List.set_cons_succ]
  refine wpAnyH_take (i := 19) (oi := _) (v := ?v20) (List.getElem?_toArray.trans rfl) (by kernel_rfl) (by kernel_rfl) (by kernel_rfl) (fun _ _ _ h => h) (Or.inl ⟨by rfl, ?hy20⟩) (by assumption) ?rest20
  case hy20 => (intro wq hSw; (try simp only [Two, OS] at hSw); go_simp; try with_reducible rfl)
  try simp only [Act.put, List.setIfInBounds_toArray, List.set_cons_zero, List.set_cons_succ]
  refine wpAnyH_take (i := 20) (oi := _) (v := ?v21) (List.getElem?_toArray.trans rfl) (by kernel_rfl) (by kernel_rfl) (by kernel_rfl) (fun _ _ _ h => h) (Or.inl ⟨by rfl, ?hy21⟩) (by assumption) ?rest21
  case hy21 => (intro wq hSw; (try simp only [Two, OS] at hSw); go_simp; try with_reducible rfl)
  try simp only [Act.put, List.setIfInBounds_toArray, List.set_cons_zero, List.set_cons_succ]
  refine wpAnyH_take (i := 21) (oi := _) (v := ?v22) (List.getElem?_toArray.trans rfl) (by kernel_rfl) (by kernel_rfl) (by kernel_rfl) (fun _ _ _ h => h) (Or.inl ⟨by rfl, ?hy22⟩) (by assumption) ?rest22
  case hy22 => (intro wq hSw; (try simp only [Two, OS] at hSw); go_simp; try with_reducible rfl)
  try simp only [Act.put, List.setIfInBounds_toArray, List.set_cons_zero, List.set_cons_succ]
  refine wpAnyH_take (i := 22) (oi := _) (v := ?v23) (List.getElem?_toArray.trans rfl) (by kernel_rfl) (by kernel_rfl) (by kernel_rfl) (fun _ _ _ h => h) (Or.inl ⟨by rfl, ?hy23⟩) (by assumption) ?rest23
  case hy23 => (intro wq hSw; (try simp only [Two, OS] at hSw); go_simp; try with_reducible rfl)
  try simp only [Act.put, List.setIfInBounds_toArray, List.set_cons_zero, List.set_cons_succ]
  refine wpAnyH_take (i := 23) (oi := _) (v := ?v24) (List.getElem?_toArray.trans rfl) (by kernel_rfl) (by kernel_rfl) (by kernel_rfl) (fun _ _ _ h => h) (Or.inl ⟨by rfl, ?hy24⟩) (by assumption) ?rest24
  case hy24 => (intro wq hSw; (try simp only [Two, OS] at hSw); go_simp; try with_reducible rfl)
  try simp only [Act.put, List.setIfInBounds_toArray, List.set_cons_zero, List.set_cons_succ]
  refine wpAnyH_take (i := 24) (oi := _) (v := ?v25) (List.getElem?_toArray.trans rfl) (by kernel_rfl) (by kernel_rfl) (by kernel_rfl) (fun _ _ _ h => h) (Or.inl ⟨by rfl, ?hy25⟩) (by assumption) ?rest25
  case hy25 => (intro wq hSw; (try simp only [Two, OS] at hSw); go_simp; try with_reducible rfl)
  try simp only [Act.put, List.setIfInBounds_toArray, List.set_cons_zero, List.set_cons_succ]
  refine wpAnyH_take (i := 25) (oi := _) (v := ?v26) (List.getElem?_toArray.trans rfl) (by kernel_rfl) (by kernel_rfl) (by kernel_rfl) (fun _ _ _ h => h) (Or.inl ⟨by rfl, ?hy26⟩) (by assumption) ?rest26
  case hy26 => (intro wq hSw; (try simp only [Two, OS] at hSw); go_simp; try with_reducible rfl)
  try simp only [Act.put, List.setIfInBounds_toArray, List.set_cons_zero, List.set_cons_succ]
  refine wpAnyH_take (i := 26) (oi := _) (v := ?v27) (List.getElem?_toArray.trans rfl) (by kernel_rfl) (by kernel_rfl) (by kernel_rfl) (fun _ _ _ h => h) (Or.inl ⟨by rfl, ?hy27⟩) (by assumption) ?rest27
  case hy27 => (intro wq hSw; (try simp only [Two, OS] at hSw); go_simp; try with_reducible rfl)
  try simp only [Act.put, List.setIfInBounds_toArray, List.set_cons_zero, List.set_cons_succ]
  refine wpAnyH_take (i := 27) (oi := _) (v := ?v28) (List.getElem?_toArray.trans rfl) (by kernel_rfl) (by kernel_rfl) (by kernel_rfl) (fun _ _ _ h => h) (Or.inl ⟨by rfl, ?hy28⟩) (by assumption) ?rest28
  case hy28 => (intro wq hSw; (try simp only [Two, OS] at hSw); go_simp; try with_reducible rfl)
  try simp only [Act.put, List.setIfInBounds_toArray, List.set_cons_zero, List.set_cons_succ]
  refine wpAnyH_take (i := 28) (oi := _) (v := ?v29) (List.getElem?_toArray.trans rfl) (by kernel_rfl) (by kernel_rfl) (by kernel_rfl) (fun _ _ _ h => h) (Or.inl ⟨by rfl, ?hy29⟩) (by assumption) ?rest29
  case hy29 => (intro wq hSw; (try simp only [Two, OS] at hSw); go_simp; try with_reducible rfl)
  try simp only [Act.put, List.setIfInBounds_toArray, List.set_cons_zero, List.set_cons_succ]
  refine wpAnyH_take (i := 29) (oi := _) (v := ?v30) (List.getElem?_toArray.trans rfl) (by kernel_rfl) (by kernel_rfl) (by kernel_rfl) (fun _ _ _ h => h) (Or.inl ⟨by rfl, ?hy30⟩) (by assumption) ?rest30
  case hy30 => (intro wq hSw; (try simp only [Two, OS] at hSw); go_simp; try with_reducible rfl)
  try simp only [Act.put, List.setIfInBounds_toArray, List.set_cons_zero, List.set_cons_succ]
  refine wpAnyH_take (i := 30) (oi := _) (v := ?v31) (List.getElem?_toArray.trans rfl) (by kernel_rfl) (by kernel_rfl) (by kernel_rfl) (fun _ _ _ h => h) (Or.inl ⟨by rfl, ?hy31⟩) (by assumption) ?rest31
  case hy31 => (intro wq hSw; (try simp only [Two, OS] at hSw); go_simp; try with_reducible rfl)
  try simp only [Act.put, List.setIfInBounds_toArray, List.set_cons_zero, List.set_cons_succ]
  refine wpAnyH_take (i := 31) (oi := _) (v := ?v32) (List.getElem?_toArray.trans rfl) (by kernel_rfl) (by kernel_rfl) (by kernel_rfl) (fun _ _ _ h => h) (Or.inl ⟨by rfl, ?hy32⟩) (by assumption) ?rest32
  case hy32 => (intro wq hSw; (try simp only [Two, OS] at hSw); go_simp; try with_reducible rfl)
  try simp only [Act.put, List.setIfInBounds_toArray, List.set_cons_zero, List.set_cons_succ]
  refine wpAnyH_take (i := 32) (oi := _) (v := ?v33) (List.getElem?_toArray.trans rfl) (by kernel_rfl) (by kernel_rfl) (by kernel_rfl) (fun _ _ _ h => h) (Or.inl ⟨by rfl, ?hy33⟩) (by assumption) ?rest33
  case hy33 => (intro wq hSw; (try simp only [Two, OS] at hSw); go_simp; try with_reducible rfl)
  try simp only [Act.put, List.setIfInBounds_toArray, List.set_cons_zero, List.set_cons_succ]
  refine wpAnyH_take (i := 33) (oi := _) (v := ?v34) (List.getElem?_toArray.trans rfl) (by kernel_rfl) (by kernel_rfl) (by kernel_rfl) (fun _ _ _ h => h) (Or.inl ⟨by rfl, ?hy34⟩) (by assumption) ?rest34
  case hy34 => (intro wq hSw; (try simp only [Two, OS] at hSw); go_simp; try with_reducible rfl)
  try simp only [Act.put, List.setIfInBounds_toArray, List.set_cons_zero, List.set_cons_succ]
  refine wpAnyH_take (i := 34) (oi := _) (v := ?v35) (List.getElem?_toArray.trans rfl) (by kernel_rfl) (by kernel_rfl) (by kernel_rfl) (fun _ _ _ h => h) (Or.inl ⟨by rfl, ?hy35⟩) (by assumption) ?rest35
  case hy35 => (intro wq hSw; (try simp only [Two, OS] at hSw); go_simp; try with_reducible rfl)
  try simp only [Act.put, List.setIfInBounds_toArray, List.set_cons_zero, List.set_cons_succ]
  refine wpAnyH_take (i := 35) (oi := _) (v := ?v36) (List.getElem?_toArray.trans rfl) (by kernel_rfl) (by kernel_rfl) (by kernel_rfl) (fun _ _ _ h => h) (Or.inl ⟨by rfl, ?hy36⟩) (by assumption) ?rest36
  case hy36 => (intro wq hSw; (try simp only [Two, OS] at hSw); go_simp; try with_reducible rfl)
  try simp only [Act.put, List.setIfInBounds_toArray, List.set_cons_zero, List.set_cons_succ]
  refine wpAnyH_take (i := 36) (oi := _) (v := ?v37) (List.getElem?_toArray.trans rfl) (by kernel_rfl) (by kernel_rfl) (by kernel_rfl) (fun _ _ _ h => h) (Or.inl ⟨by rfl, ?hy37⟩) (by assumption) ?rest37
  case hy37 => (intro wq hSw; (try simp only [Two, OS] at hSw); go_simp; try with_reducible rfl)
  try simp only [Act.put, List.setIfInBounds_toArray, List.set_cons_zero, List.set_cons_succ]
  refine wpAnyH_take (i := 37) (oi := _) (v := ?v38) (List.getElem?_toArray.trans rfl) (by kernel_rfl) (by kernel_rfl) (by kernel_rfl) (fun _ _ _ h => h) (Or.inl ⟨by rfl, ?hy38⟩) (by assumption) ?rest38
  case hy38 => (intro wq hSw; (try simp only [Two, OS] at hSw); go_simp; try with_reducible rfl)
  try simp only [Act.put, List.setIfInBounds_toArray, List.set_cons_zero, List.set_cons_succ]
  refine wpAnyH_take (i := 38) (oi := _) (v := ?v39) (List.getElem?_toArray.trans rfl) (by kernel_rfl) (by kernel_rfl) (by kernel_rfl) (fun _ _ _ h => h) (Or.inl ⟨by rfl, ?hy39⟩) (by assumption) ?rest39
  case hy39 => (intro wq hSw; (try simp only [Two, OS] at hSw); go_simp; try with_reducible rfl)
  try simp only [Act.put, List.setIfInBounds_toArray, List.set_cons_zero, List.set_cons_succ]
  refine wpAnyH_take (i := 39) (oi := _) (v := ?v40) (List.getElem?_toArray.trans rfl) (by kernel_rfl) (by kernel_rfl) (by kernel_rfl) (fun _ _ _ h => h) (Or.inl ⟨by rfl, ?hy40⟩) (by assumption) ?rest40
  case hy40 => (intro wq hSw; (try simp only [Two, OS] at hSw); go_simp; try with_reducible rfl)
  try simp only [Act.put, List.setIfInBounds_toArray, List.set_cons_zero, List.set_cons_succ]
  refine wpAnyH_take (i := 40) (oi := _) (v := ?v41) (List.getElem?_toArray.trans rfl) (by kernel_rfl) (by kernel_rfl) (by kernel_rfl) (fun _ _ _ h => h) (Or.inl ⟨by rfl, ?hy41⟩) (by assumption) ?rest41
  case hy41 => (intro wq hSw; (try simp only [Two, OS] at hSw); go_simp; try with_reducible rfl)
  try simp only [Act.put, List.setIfInBounds_toArray, List.set_cons_zero, List.set_cons_succ]
  refine wpAnyH_take (i := 41) (oi := _) (v := ?v42) (List.getElem?_toArray.trans rfl) (by kernel_rfl) (by kernel_rfl) (by kernel_rfl) (fun _ _ _ h => h) (Or.inl ⟨by rfl, ?hy42⟩) (by assumption) ?rest42
  case hy42 => (intro wq hSw; (try simp only [Two, OS] at hSw); go_simp; try with_reducible rfl)
  try simp only [Act.put, List.setIfInBounds_toArray, List.set_cons_zero, List.set_cons_succ]
  refine wpAnyH_done (by kernel_rfl) ?fin _
  go_wp2
  go_ret
  exact ⟨by first | rfl | simp, B11⟩
end Go.Proofs.YtdjpigjllienoaaGreatDoor
