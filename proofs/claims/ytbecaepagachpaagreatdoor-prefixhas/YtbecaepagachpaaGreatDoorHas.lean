/-
  The walk of PrefixHas.
-/
import Derived.Test.YtbecaepagachpaaGreatDoorRef3f
import Derived.Deep.DeepCutAuto
namespace Go.Proofs.YtbecaepagachpaaGreatDoor
open Go.ChangeShapes Go.WideShapes Go.ChangeAt Go.RowKit
set_option linter.unusedVariables false
set_option linter.unusedSimpArgs false

/-- What the law's last statement reads. -/
def HB (w : World) (X Y Z : Nat) (v : Bool) (ph pl b : Int) (u : Bool) (qh ql c : Int) (s : Bool) (ah al : Int) (xv : Bool) (xh xl xb : Int) (fv : Bool) (fh fl : Int) (wx : World) : Prop :=
  (wx.cell? ⟨w.heap.size, 0, none⟩ = some (.bool v) ∧ wx.cell? ⟨w.heap.size, 1, none⟩ = some (.int .u64 ph) ∧ wx.cell? ⟨w.heap.size, 2, none⟩ = some (.int .u64 pl) ∧ wx.cell? ⟨w.heap.size, 3, none⟩ = some (.int .i64 b) ∧ wx.cell? ⟨w.heap.size + 1, 0, none⟩ = some (.bool u) ∧ wx.cell? ⟨w.heap.size + 1, 1, none⟩ = some (.int .u64 qh) ∧ wx.cell? ⟨w.heap.size + 1, 2, none⟩ = some (.int .u64 ql) ∧ wx.cell? ⟨w.heap.size + 1, 3, none⟩ = some (.int .i64 c) ∧ wx.cell? ⟨w.heap.size + 1 + 1, 0, none⟩ = some (.bool s) ∧ wx.cell? ⟨w.heap.size + 1 + 1, 1, none⟩ = some (.int .u64 ah) ∧ wx.cell? ⟨w.heap.size + 1 + 1, 2, none⟩ = some (.int .u64 al) ∧ wx.cell? ⟨X, 0, none⟩ = some (.bool xv) ∧ wx.cell? ⟨X, 1, none⟩ = some (.int .u64 xh) ∧ wx.cell? ⟨X, 2, none⟩ = some (.int .u64 xl) ∧ wx.cell? ⟨X, 3, none⟩ = some (.int .i64 xb) ∧ wx.cell? ⟨Y, 0, none⟩ = some (.bool xv) ∧ wx.cell? ⟨Y, 1, none⟩ = some (.int .u64 xh) ∧ wx.cell? ⟨Y, 2, none⟩ = some (.int .u64 xl) ∧ wx.cell? ⟨Y, 3, none⟩ = some (.int .i64 xb) ∧ wx.cell? ⟨Z, 0, none⟩ = some (.bool fv) ∧ wx.cell? ⟨Z, 1, none⟩ = some (.int .u64 fh) ∧ wx.cell? ⟨Z, 2, none⟩ = some (.int .u64 fl)) ∧ Blk wx w.heap.size #[.bool v, .int .u64 ph, .int .u64 pl, .int .i64 b] 28 ∧ Blk wx (w.heap.size + 1) #[.bool u, .int .u64 qh, .int .u64 ql, .int .i64 c] 28 ∧ Blk wx (w.heap.size + 2) #[.bool s, .int .u64 ah, .int .u64 al] 26 ∧ Blk wx X #[.bool xv, .int .u64 xh, .int .u64 xl, .int .i64 xb] 28 ∧ Blk wx Y #[.bool xv, .int .u64 xh, .int .u64 xl, .int .i64 xb] 28 ∧ Blk wx Z #[.bool fv, .int .u64 fh, .int .u64 fl] 26 ∧ Below w.heap.size w wx

theorem HB.of {w : World} {X Y Z : Nat} {v : Bool} {ph pl b : Int} {u : Bool} {qh ql c : Int} {s : Bool} {ah al : Int} {xv : Bool} {xh xl xb : Int} {fv : Bool} {fh fl : Int} {wx : World} (k0 : Blk wx w.heap.size #[.bool v, .int .u64 ph, .int .u64 pl, .int .i64 b] 28) (k1 : Blk wx (w.heap.size + 1) #[.bool u, .int .u64 qh, .int .u64 ql, .int .i64 c] 28) (k2 : Blk wx (w.heap.size + 2) #[.bool s, .int .u64 ah, .int .u64 al] 26) (k3 : Blk wx X #[.bool xv, .int .u64 xh, .int .u64 xl, .int .i64 xb] 28) (k4 : Blk wx Y #[.bool xv, .int .u64 xh, .int .u64 xl, .int .i64 xb] 28) (k5 : Blk wx Z #[.bool fv, .int .u64 fh, .int .u64 fl] 26) (y : Below w.heap.size w wx) : HB w X Y Z v ph pl b u qh ql c s ah al xv xh xl xb fv fh fl wx :=
  ⟨⟨k0.cell 0, k0.cell 1, k0.cell 2, k0.cell 3, k1.cell 0, k1.cell 1, k1.cell 2, k1.cell 3, k2.cell 0, k2.cell 1, k2.cell 2, k3.cell 0, k3.cell 1, k3.cell 2, k3.cell 3, k4.cell 0, k4.cell 1, k4.cell 2, k4.cell 3, k5.cell 0, k5.cell 1, k5.cell 2⟩, k0, k1, k2, k3, k4, k5, y⟩

theorem HB.drew {w : World} {X Y Z : Nat} {v : Bool} {ph pl b : Int} {u : Bool} {qh ql c : Int} {s : Bool} {ah al : Int} {xv : Bool} {xh xl xb : Int} {fv : Bool} {fh fl : Int} {wx : World} (k : HB w X Y Z v ph pl b u qh ql c s ah al xv xh xl xb fv fh fl wx) : HB w X Y Z v ph pl b u qh ql c s ah al xv xh xl xb fv fh fl wx.drew := HB.of k.2.1 k.2.2.1 k.2.2.2.1 k.2.2.2.2.1 k.2.2.2.2.2.1 k.2.2.2.2.2.2.1 k.2.2.2.2.2.2.2.drew

theorem HB.below {w : World} {X Y Z : Nat} {v : Bool} {ph pl b : Int} {u : Bool} {qh ql c : Int} {s : Bool} {ah al : Int} {xv : Bool} {xh xl xb : Int} {fv : Bool} {fh fl : Int} {wx w1 : World} (k : HB w X Y Z v ph pl b u qh ql c s ah al xv xh xl xb fv fh fl wx) (e : Below wx.heap.size wx w1) : HB w X Y Z v ph pl b u qh ql c s ah al xv xh xl xb fv fh fl w1 :=
  HB.of (k.2.1.below e) (k.2.2.1.below e) (k.2.2.2.1.below e) (k.2.2.2.2.1.below e) (k.2.2.2.2.2.1.below e) (k.2.2.2.2.2.2.1.below e) (k.2.2.2.2.2.2.2.trans (e.mono k.2.2.2.2.2.2.2.size))

theorem HB.last {w : World} {X Y Z : Nat} {v : Bool} {ph pl b : Int} {u : Bool} {qh ql c : Int} {s : Bool} {ah al : Int} {xv : Bool} {xh xl xb : Int} {fv : Bool} {fh fl : Int} {wx : World} (k : HB w X Y Z v ph pl b u qh ql c s ah al xv xh xl xb fv fh fl wx) : Below w.heap.size w wx := k.2.2.2.2.2.2.2

theorem NK.alloc {w W : World} {v : Bool} {ph pl b : Int} {u : Bool} {qh ql c : Int} {s : Bool} {ah al : Int} (k : NK w v ph pl b u qh ql c s ah al W) (o : Obj) : NK w v ph pl b u qh ql c s ah al (W.alloc o) := ⟨k.1.alloc o, k.2.1.alloc o, k.2.2.1.alloc o, k.2.2.2.alloc (Nat.le_of_lt k.1.lt) o⟩

set_option maxRecDepth 100000 in
set_option maxHeartbeats 3200000 in
theorem has_walk_no {v u s : Bool} {ph pl b qh ql c ah al k : Int} {n m a : Nat} (hp : IsNum ph pl n) (hq : IsNum qh ql m) (ha : IsNum ah al a) (hk : okP v n b = false) (w : World) (hL : LW w)
    (aw : ∀ w, LW w → Calls Tryz.prog 7 #[] w fun e w' => e = .returned (.bool true) ∧ Below w.heap.size w w') :
    Calls Tryz.prog 3 #[pv v ph pl b, pv u qh ql c, av s ah al, .int .i64 k] w fun e w' => e = .returned (.bool true) ∧ Below w.heap.size w w' := by
  have hz := hL.sz
  have R0 : NK w v ph pl b u qh ql c s ah al (((w.alloc (.cells #[.bool v, .int .u64 ph, .int .u64 pl, .int .i64 b] 28)).alloc (.cells #[.bool u, .int .u64 qh, .int .u64 ql, .int .i64 c] 28)).alloc (.cells #[.bool s, .int .u64 ah, .int .u64 al] 26)) :=
    ⟨((Blk.new _ _ _).alloc _).alloc _, Blk.alloc (by simpa using Blk.new (w.alloc (.cells #[.bool v, .int .u64 ph, .int .u64 pl, .int .i64 b] 28)) #[.bool u, .int .u64 qh, .int .u64 ql, .int .i64 c] 28) _, by simpa using Blk.new ((w.alloc (.cells #[.bool v, .int .u64 ph, .int .u64 pl, .int .i64 b] 28)).alloc (.cells #[.bool u, .int .u64 qh, .int .u64 ql, .int .i64 c] 28)) #[.bool s, .int .u64 ah, .int .u64 al] 26, by repeat (first | with_reducible exact Below.refl _ _ | with_reducible refine Below.drew ?_ | with_reducible refine Below.alloc ?_ (by first | omega | (simp <;> omega)) _ | with_reducible refine Below.setCell ?_ (by first | omega | (simp <;> omega)) _)⟩
  have AW := aw _ (hL.of R0.2.2.2 hz)
  obtain ⟨xv, xh, xl, xb, xc, OF, RO⟩ : ∃ (xv : Bool) (xh xl xb xc : Int), Hid (∀ w', Calls Tryz.prog 8 #[av s ah al, .int .i64 k] w' fun e w1 => e = .returned (.tuple #[pv xv xh xl xb, .int .i64 xc]) ∧ Below w'.heap.size w' w1) ∧ Hid (∀ w', Calls Tryz.prog 9 #[av s ah al, .int .i64 k] w' fun e w1 => e = .returned (.tuple #[pv xv xh xl xb, .int .i64 xc]) ∧ Below w'.heap.size w' w1) := by
    cases hf : fitsB s a k
    · exact ⟨_, _, _, _, _, fun w' => of_no ha hf w', fun w' => rof_no ha hf w'⟩
    · obtain ⟨rh, rl, hr⟩ := IsNum.ex (n := ofN s a k) (Nat.lt_of_le_of_lt (ofN_le _ _ _) ha.lt)
      exact ⟨_, _, _, _, _, fun w' => of_ok ha hf hr w', fun w' => rof_ok ha hf hr w'⟩
  obtain ⟨x1, hx1⟩ : ∃ x, hasB v n b s a = x := ⟨_, rfl⟩
  obtain ⟨x2, hx2⟩ : ∃ x, withinB v n b u m c = x := ⟨_, rfl⟩
  obtain ⟨x3, hx3⟩ : ∃ x, overB v n b u m c = x := ⟨_, rfl⟩
  have R1 : Hid (∀ w', Calls Tryz.prog 11 #[pv v ph pl b] w' fun e w1 => e = .returned (.bool false) ∧ Below w'.heap.size w' w1) := fun w' => hk ▸ pright_c hp w'
  have R2 : Hid (∀ w', Calls Tryz.prog 10 #[pv v ph pl b] w' fun e w1 => e = .returned (.bool false) ∧ Below w'.heap.size w' w1) := fun w' => hk ▸ rpright_c hp w'
  have FI : Hid (∀ w', Calls Tryz.prog 12 #[pv v ph pl b] w' fun e w1 => e = .returned (av false 0 0) ∧ Below w'.heap.size w' w1) := fun w' => first_c hp (Or.inr ⟨hk, rfl, rfl, rfl⟩) w'
  have LA : Hid (∀ w', Calls Tryz.prog 13 #[pv v ph pl b] w' fun e w1 => e = .returned (av false 0 0) ∧ Below w'.heap.size w' w1) := fun w' => last_no hp hk w'
  have RL : Hid (∀ w', Calls Tryz.prog 14 #[pv v ph pl b] w' fun e w1 => e = .returned (av false 0 0) ∧ Below w'.heap.size w' w1) := fun w' => rlast_c hp (Or.inr ⟨hk, rfl, rfl, rfl⟩) w'
  have H1 : Hid (∀ w', Calls Tryz.prog 15 #[pv v ph pl b, av s ah al] w' fun e w1 => e = .returned (.bool x1) ∧ Below w'.heap.size w' w1) := fun w' => hx1 ▸ has_c hp ha w'
  have H2 : Hid (∀ w', Calls Tryz.prog 16 #[pv v ph pl b, av s ah al] w' fun e w1 => e = .returned (.bool x1) ∧ Below w'.heap.size w' w1) := fun w' => hx1 ▸ rhas_c hp ha w'
  have W1 : Hid (∀ w', Calls Tryz.prog 17 #[pv v ph pl b, pv u qh ql c] w' fun e w1 => e = .returned (.bool x2) ∧ Below w'.heap.size w' w1) := fun w' => hx2 ▸ within_c hp hq w'
  have W2 : Hid (∀ w', Calls Tryz.prog 18 #[pv v ph pl b, pv u qh ql c] w' fun e w1 => e = .returned (.bool x2) ∧ Below w'.heap.size w' w1) := fun w' => hx2 ▸ rwithin_c hp hq w'
  have O1 : Hid (∀ w', Calls Tryz.prog 19 #[pv v ph pl b, pv u qh ql c] w' fun e w1 => e = .returned (.bool x3) ∧ Below w'.heap.size w' w1) := fun w' => hx3 ▸ over_c hp hq w'
  have O2 : Hid (∀ w', Calls Tryz.prog 20 #[pv v ph pl b, pv u qh ql c] w' fun e w1 => e = .returned (.bool x3) ∧ Below w'.heap.size w' w1) := fun w' => hx3 ▸ rover_c hp hq w'
  clear hp hq ha hk hL aw hx1 hx2 hx3
  go_enter Tryz.func3, Tryz.ntmps3
  go_wp2_with fail
  refine AW.mono ?_
  rintro e w1 ⟨rfl, hb⟩
  have R := R0.below hb
  have F := R.cells
  clear hb R0 AW
  go_wp2_with fail
  refine (OF.out _).mono ?_
  rintro e w2 ⟨rfl, hb⟩
  have n1 := (R.below hb).2.2.1.lt
  replace R := (R.below hb).alloc (.cells #[.bool xv, .int .u64 xh, .int .u64 xl, .int .i64 xb] 28)
  have X2 : Blk (w2.alloc (.cells #[.bool xv, .int .u64 xh, .int .u64 xl, .int .i64 xb] 28)) w2.heap.size #[.bool xv, .int .u64 xh, .int .u64 xl, .int .i64 xb] 28 := Blk.new _ _ _
  replace F := R.cells
  clear hb OF
  go_wp2_with fail
  refine (RO.out _).mono ?_
  rintro e w3 ⟨rfl, hb⟩
  have n2 := (X2.below hb).lt
  replace R := ((R.below hb).alloc (.cells #[.bool xv, .int .u64 xh, .int .u64 xl, .int .i64 xb] 28)).alloc (.cells #[.bool false, .int .u64 0, .int .u64 0] 26)
  have X3 := ((X2.below hb).alloc (.cells #[.bool xv, .int .u64 xh, .int .u64 xl, .int .i64 xb] 28)).alloc (.cells #[.bool false, .int .u64 0, .int .u64 0] 26)
  have Y3 : Blk ((w3.alloc (.cells #[.bool xv, .int .u64 xh, .int .u64 xl, .int .i64 xb] 28)).alloc (.cells #[.bool false, .int .u64 0, .int .u64 0] 26)) w3.heap.size #[.bool xv, .int .u64 xh, .int .u64 xl, .int .i64 xb] 28 := (Blk.new _ _ _).alloc _
  have Z3 : Blk ((w3.alloc (.cells #[.bool xv, .int .u64 xh, .int .u64 xl, .int .i64 xb] 28)).alloc (.cells #[.bool false, .int .u64 0, .int .u64 0] 26)) (w3.heap.size + 1) #[.bool false, .int .u64 0, .int .u64 0] 26 := by simpa using Blk.new (w3.alloc (.cells #[.bool xv, .int .u64 xh, .int .u64 xl, .int .i64 xb] 28)) #[.bool false, .int .u64 0, .int .u64 0] 26
  replace F := R.cells
  clear hb RO X2
  go_wp2_with fail
  refine (R2.out _).mono ?_
  rintro e w4 ⟨rfl, hb⟩
  replace R := R.below hb
  have X4 := X3.below hb
  have Y4 := Y3.below hb
  have Z4 := Z3.below hb
  replace F := R.cells
  clear hb X3 Y3 Z3
  have R5 : HB w w2.heap.size w3.heap.size (w3.heap.size + 1) v ph pl b u qh ql c s ah al xv xh xl xb false 0 0 w4 := HB.of R.1 R.2.1 R.2.2.1 X4 Y4 Z4 R.2.2.2
  clear F R X4 Y4 Z4
  have R := R5
  clear R5
  go_wp2_with fail
  refine wp_region_held_drew (S := (HB w w2.heap.size w3.heap.size (w3.heap.size + 1) v ph pl b u qh ql c s ah al xv xh xl xb false 0 0)) (by kernel_rfl) ?hS100 (fun hHeld => ?rest100)
  case hS100 => (first | with_reducible exact R.drew | with_reducible exact hHeld.below hb20 | with_reducible exact hHeld.below hb21 | with_reducible exact hHeld.below hb22 | with_reducible exact hHeld.below hb23 | with_reducible exact hHeld.below hb24 | with_reducible exact hHeld.below hb25 | with_reducible exact hHeld.below hb26 | with_reducible exact hHeld.below hb27 | with_reducible exact hHeld.below hb28 | with_reducible exact hHeld.below hb29 | with_reducible exact hHeld.below hb30)
  refine wpAnyH_take (i := 0) (oi := _) (v := ?v101) (List.getElem?_toArray.trans rfl) (by kernel_rfl) (by kernel_rfl) (by kernel_rfl) (fun _ _ _ h => h) (Or.inl ⟨by rfl, ?hy101⟩) (by assumption) ?rest101
  case hy101 => (intro wq hSw; (try simp only [Two, HB] at hSw); go_simp; try with_reducible rfl)
  try simp only [Act.put, List.setIfInBounds_toArray, List.set_cons_zero, List.set_cons_succ]
  refine wpAnyH_take (i := 1) (oi := _) (v := ?v102) (List.getElem?_toArray.trans rfl) (by kernel_rfl) (by kernel_rfl) (by kernel_rfl) (fun _ _ _ h => h) (Or.inl ⟨by rfl, ?hy102⟩) (by assumption) ?rest102
  case hy102 => (intro wq hSw; (try simp only [Two, HB] at hSw); go_simp; try with_reducible rfl)
  try simp only [Act.put, List.setIfInBounds_toArray, List.set_cons_zero, List.set_cons_succ]
  refine wpAnyH_take (i := 2) (oi := _) (v := ?v103) (List.getElem?_toArray.trans rfl) (by kernel_rfl) (by kernel_rfl) (by kernel_rfl) (fun _ _ _ h => h) (Or.inl ⟨by rfl, ?hy103⟩) (by assumption) ?rest103
  case hy103 => (intro wq hSw; (try simp only [Two, HB] at hSw); go_simp; try with_reducible rfl)
  try simp only [Act.put, List.setIfInBounds_toArray, List.set_cons_zero, List.set_cons_succ]
  refine wpAnyH_take (i := 3) (oi := _) (v := ?v104) (List.getElem?_toArray.trans rfl) (by kernel_rfl) (by kernel_rfl) (by kernel_rfl) (fun _ _ _ h => h) (Or.inl ⟨by rfl, ?hy104⟩) (by assumption) ?rest104
  case hy104 => (intro wq hSw; (try simp only [Two, HB] at hSw); go_simp; try with_reducible rfl)
  try simp only [Act.put, List.setIfInBounds_toArray, List.set_cons_zero, List.set_cons_succ]
  refine wpAnyH_take (i := 4) (oi := _) (v := ?v105) (List.getElem?_toArray.trans rfl) (by kernel_rfl) (by kernel_rfl) (by kernel_rfl) (fun _ _ _ h => h) (Or.inl ⟨by rfl, ?hy105⟩) (by assumption) ?rest105
  case hy105 => (intro wq hSw; (try simp only [Two, HB] at hSw); go_simp; try with_reducible rfl)
  try simp only [Act.put, List.setIfInBounds_toArray, List.set_cons_zero, List.set_cons_succ]
  refine wpAnyH_take (i := 5) (oi := _) (v := ?v106) (List.getElem?_toArray.trans rfl) (by kernel_rfl) (by kernel_rfl) (by kernel_rfl) (fun _ _ _ h => h) (Or.inl ⟨by rfl, ?hy106⟩) (by assumption) ?rest106
  case hy106 => (intro wq hSw; (try simp only [Two, HB] at hSw); go_simp; try with_reducible rfl)
  try simp only [Act.put, List.setIfInBounds_toArray, List.set_cons_zero, List.set_cons_succ]
  refine wpAnyH_take (i := 6) (oi := _) (v := ?v107) (List.getElem?_toArray.trans rfl) (by kernel_rfl) (by kernel_rfl) (by kernel_rfl) (fun _ _ _ h => h) (Or.inl ⟨by rfl, ?hy107⟩) (by assumption) ?rest107
  case hy107 => (intro wq hSw; (try simp only [Two, HB] at hSw); go_simp; try with_reducible rfl)
  try simp only [Act.put, List.setIfInBounds_toArray, List.set_cons_zero, List.set_cons_succ]
  refine wpAnyH_take (i := 7) (oi := _) (v := ?v108) (List.getElem?_toArray.trans rfl) (by kernel_rfl) (by kernel_rfl) (by kernel_rfl) (fun _ _ _ h => h) (Or.inl ⟨by rfl, ?hy108⟩) (by assumption) ?rest108
  case hy108 => (intro wq hSw; (try simp only [Two, HB] at hSw); go_simp; try with_reducible rfl)
  try simp only [Act.put, List.setIfInBounds_toArray, List.set_cons_zero, List.set_cons_succ]
  refine wpAnyH_take (i := 8) (oi := _) (v := ?v109) (List.getElem?_toArray.trans rfl) (by kernel_rfl) (by kernel_rfl) (by kernel_rfl) (fun _ _ _ h => h) (Or.inl ⟨by rfl, ?hy109⟩) (by assumption) ?rest109
  case hy109 => (intro wq hSw; (try simp only [Two, HB] at hSw); go_simp; try with_reducible rfl)
  try simp only [Act.put, List.setIfInBounds_toArray, List.set_cons_zero, List.set_cons_succ]
  refine wpAnyH_take (i := 9) (oi := _) (v := ?v110) (List.getElem?_toArray.trans rfl) (by kernel_rfl) (by kernel_rfl) (by kernel_rfl) (fun _ _ _ h => h) (Or.inl ⟨by rfl, ?hy110⟩) (by assumption) ?rest110
  case hy110 => (intro wq hSw; (try simp only [Two, HB] at hSw); go_simp; try with_reducible rfl)
  try simp only [Act.put, List.setIfInBounds_toArray, List.set_cons_zero, List.set_cons_succ]
  refine wpAnyH_take (i := 11) (oi := _) (v := ?v111) (List.getElem?_toArray.trans rfl) (by kernel_rfl) (by kernel_rfl) (by kernel_rfl) (fun _ _ _ h => h) (Or.inl ⟨by rfl, ?hy111⟩) (by assumption) ?rest111
  case hy111 => (intro wq hSw; (try simp only [Two, HB] at hSw); go_simp; try with_reducible rfl)
  try simp only [Act.put, List.setIfInBounds_toArray, List.set_cons_zero, List.set_cons_succ]
  refine wpAnyH_ready (rs := [10]) (by kernel_rfl) (by simp) ?rdy112
  refine AllReadyH.cons (List.getElem?_toArray.trans rfl) (fun K hK => ?stp112) AllReadyH.nil
  go_simp
  go_wp2_with fail
  (refine (R1.out _).mono ?_; rintro e w20 ⟨rfl, hb20⟩)
  go_wp2_with fail
  refine hK.out _ _ ?hSn112 (fun hHeld2 => ?rest112)
  case hSn112 => (first | with_reducible exact R.drew | with_reducible exact hHeld.below hb20 | with_reducible exact hHeld.below hb21 | with_reducible exact hHeld.below hb22 | with_reducible exact hHeld.below hb23 | with_reducible exact hHeld.below hb24 | with_reducible exact hHeld.below hb25 | with_reducible exact hHeld.below hb26 | with_reducible exact hHeld.below hb27 | with_reducible exact hHeld.below hb28 | with_reducible exact hHeld.below hb29 | with_reducible exact hHeld.below hb30)
  clear hK K hHeld
  have hHeld := hHeld2
  clear hHeld2
  try simp only [Act.put, List.setIfInBounds_toArray, List.set_cons_zero, List.set_cons_succ]
  refine wpAnyH_ready (rs := [12]) (by kernel_rfl) (by simp) ?rdy113
  refine AllReadyH.cons (List.getElem?_toArray.trans rfl) (fun K hK => ?stp113) AllReadyH.nil
  go_simp
  go_wp2_with fail
  (refine (R2.out _).mono ?_; rintro e w21 ⟨rfl, hb21⟩)
  go_wp2_with fail
  refine hK.out _ _ ?hSn113 (fun hHeld2 => ?rest113)
  case hSn113 => (first | with_reducible exact R.drew | with_reducible exact hHeld.below hb20 | with_reducible exact hHeld.below hb21 | with_reducible exact hHeld.below hb22 | with_reducible exact hHeld.below hb23 | with_reducible exact hHeld.below hb24 | with_reducible exact hHeld.below hb25 | with_reducible exact hHeld.below hb26 | with_reducible exact hHeld.below hb27 | with_reducible exact hHeld.below hb28 | with_reducible exact hHeld.below hb29 | with_reducible exact hHeld.below hb30)
  clear hK K hHeld
  have hHeld := hHeld2
  clear hHeld2
  try simp only [Act.put, List.setIfInBounds_toArray, List.set_cons_zero, List.set_cons_succ]
  refine wpAnyH_take (i := 13) (oi := _) (v := ?v114) (List.getElem?_toArray.trans rfl) (by kernel_rfl) (by kernel_rfl) (by kernel_rfl) (fun _ _ _ h => h) (Or.inl ⟨by rfl, ?hy114⟩) (by assumption) ?rest114
  case hy114 => (intro wq hSw; (try simp only [Two, HB] at hSw); go_simp; try with_reducible rfl)
  try simp only [Act.put, List.setIfInBounds_toArray, List.set_cons_zero, List.set_cons_succ]
  refine wpAnyH_take (i := 14) (oi := _) (v := ?v115) (List.getElem?_toArray.trans rfl) (by kernel_rfl) (by kernel_rfl) (by kernel_rfl) (fun _ _ _ h => h) (Or.inl ⟨by rfl, ?hy115⟩) (by assumption) ?rest115
  case hy115 => (intro wq hSw; (try simp only [Two, HB] at hSw); go_simp; try with_reducible rfl)
  try simp only [Act.put, List.setIfInBounds_toArray, List.set_cons_zero, List.set_cons_succ]
  refine wpAnyH_take (i := 15) (oi := _) (v := ?v116) (List.getElem?_toArray.trans rfl) (by kernel_rfl) (by kernel_rfl) (by kernel_rfl) (fun _ _ _ h => h) (Or.inl ⟨by rfl, ?hy116⟩) (by assumption) ?rest116
  case hy116 => (intro wq hSw; (try simp only [Two, HB] at hSw); go_simp; try with_reducible rfl)
  try simp only [Act.put, List.setIfInBounds_toArray, List.set_cons_zero, List.set_cons_succ]
  refine wpAnyH_take (i := 16) (oi := _) (v := ?v117) (List.getElem?_toArray.trans rfl) (by kernel_rfl) (by kernel_rfl) (by kernel_rfl) (fun _ _ _ h => h) (Or.inl ⟨by rfl, ?hy117⟩) (by assumption) ?rest117
  case hy117 => (intro wq hSw; (try simp only [Two, HB] at hSw); go_simp; try with_reducible rfl)
  try simp only [Act.put, List.setIfInBounds_toArray, List.set_cons_zero, List.set_cons_succ]
  refine wpAnyH_take (i := 18) (oi := _) (v := ?v118) (List.getElem?_toArray.trans rfl) (by kernel_rfl) (by kernel_rfl) (by kernel_rfl) (fun _ _ _ h => h) (Or.inl ⟨by rfl, ?hy118⟩) (by assumption) ?rest118
  case hy118 => (intro wq hSw; (try simp only [Two, HB] at hSw); go_simp; try with_reducible rfl)
  try simp only [Act.put, List.setIfInBounds_toArray, List.set_cons_zero, List.set_cons_succ]
  refine wpAnyH_ready (rs := [17]) (by kernel_rfl) (by simp) ?rdy119
  refine AllReadyH.cons (List.getElem?_toArray.trans rfl) (fun K hK => ?stp119) AllReadyH.nil
  go_simp
  go_wp2_with fail
  (refine (FI.out _).mono ?_; rintro e w22 ⟨rfl, hb22⟩)
  go_wp2_with fail
  refine hK.out _ _ ?hSn119 (fun hHeld2 => ?rest119)
  case hSn119 => (first | with_reducible exact R.drew | with_reducible exact hHeld.below hb20 | with_reducible exact hHeld.below hb21 | with_reducible exact hHeld.below hb22 | with_reducible exact hHeld.below hb23 | with_reducible exact hHeld.below hb24 | with_reducible exact hHeld.below hb25 | with_reducible exact hHeld.below hb26 | with_reducible exact hHeld.below hb27 | with_reducible exact hHeld.below hb28 | with_reducible exact hHeld.below hb29 | with_reducible exact hHeld.below hb30)
  clear hK K hHeld
  have hHeld := hHeld2
  clear hHeld2
  try simp only [Act.put, List.setIfInBounds_toArray, List.set_cons_zero, List.set_cons_succ]
  refine wpAnyH_take (i := 19) (oi := _) (v := ?v120) (List.getElem?_toArray.trans rfl) (by kernel_rfl) (by kernel_rfl) (by kernel_rfl) (fun _ _ _ h => h) (Or.inl ⟨by rfl, ?hy120⟩) (by assumption) ?rest120
  case hy120 => (intro wq hSw; (try simp only [Two, HB] at hSw); go_simp; try with_reducible rfl)
  try simp only [Act.put, List.setIfInBounds_toArray, List.set_cons_zero, List.set_cons_succ]
  refine wpAnyH_take (i := 20) (oi := _) (v := ?v121) (List.getElem?_toArray.trans rfl) (by kernel_rfl) (by kernel_rfl) (by kernel_rfl) (fun _ _ _ h => h) (Or.inl ⟨by rfl, ?hy121⟩) (by assumption) ?rest121
  case hy121 => (intro wq hSw; (try simp only [Two, HB] at hSw); go_simp; try with_reducible rfl)
  try simp only [Act.put, List.setIfInBounds_toArray, List.set_cons_zero, List.set_cons_succ]
  refine wpAnyH_take (i := 21) (oi := _) (v := ?v122) (List.getElem?_toArray.trans rfl) (by kernel_rfl) (by kernel_rfl) (by kernel_rfl) (fun _ _ _ h => h) (Or.inl ⟨by rfl, ?hy122⟩) (by assumption) ?rest122
  case hy122 => (intro wq hSw; (try simp only [Two, HB] at hSw); go_simp; try with_reducible rfl)
  try simp only [Act.put, List.setIfInBounds_toArray, List.set_cons_zero, List.set_cons_succ]
  refine wpAnyH_take (i := 22) (oi := _) (v := ?v123) (List.getElem?_toArray.trans rfl) (by kernel_rfl) (by kernel_rfl) (by kernel_rfl) (fun _ _ _ h => h) (Or.inl ⟨by rfl, ?hy123⟩) (by assumption) ?rest123
  case hy123 => (intro wq hSw; (try simp only [Two, HB] at hSw); go_simp; try with_reducible rfl)
  try simp only [Act.put, List.setIfInBounds_toArray, List.set_cons_zero, List.set_cons_succ]
  refine wpAnyH_take (i := 24) (oi := _) (v := ?v124) (List.getElem?_toArray.trans rfl) (by kernel_rfl) (by kernel_rfl) (by kernel_rfl) (fun _ _ _ h => h) (Or.inl ⟨by rfl, ?hy124⟩) (by assumption) ?rest124
  case hy124 => (intro wq hSw; (try simp only [Two, HB] at hSw); go_simp; try with_reducible rfl)
  try simp only [Act.put, List.setIfInBounds_toArray, List.set_cons_zero, List.set_cons_succ]
  refine wpAnyH_ready (rs := [23]) (by kernel_rfl) (by simp) ?rdy125
  refine AllReadyH.cons (List.getElem?_toArray.trans rfl) (fun K hK => ?stp125) AllReadyH.nil
  go_simp
  go_wp2_with fail
  (refine (LA.out _).mono ?_; rintro e w23 ⟨rfl, hb23⟩)
  go_wp2_with fail
  refine hK.out _ _ ?hSn125 (fun hHeld2 => ?rest125)
  case hSn125 => (first | with_reducible exact R.drew | with_reducible exact hHeld.below hb20 | with_reducible exact hHeld.below hb21 | with_reducible exact hHeld.below hb22 | with_reducible exact hHeld.below hb23 | with_reducible exact hHeld.below hb24 | with_reducible exact hHeld.below hb25 | with_reducible exact hHeld.below hb26 | with_reducible exact hHeld.below hb27 | with_reducible exact hHeld.below hb28 | with_reducible exact hHeld.below hb29 | with_reducible exact hHeld.below hb30)
  clear hK K hHeld
  have hHeld := hHeld2
  clear hHeld2
  try simp only [Act.put, List.setIfInBounds_toArray, List.set_cons_zero, List.set_cons_succ]
  refine wpAnyH_ready (rs := [25]) (by kernel_rfl) (by simp) ?rdy126
  refine AllReadyH.cons (List.getElem?_toArray.trans rfl) (fun K hK => ?stp126) AllReadyH.nil
  go_simp
  go_wp2_with fail
  (refine (RL.out _).mono ?_; rintro e w24 ⟨rfl, hb24⟩)
  go_wp2_with fail
  refine hK.out _ _ ?hSn126 (fun hHeld2 => ?rest126)
  case hSn126 => (first | with_reducible exact R.drew | with_reducible exact hHeld.below hb20 | with_reducible exact hHeld.below hb21 | with_reducible exact hHeld.below hb22 | with_reducible exact hHeld.below hb23 | with_reducible exact hHeld.below hb24 | with_reducible exact hHeld.below hb25 | with_reducible exact hHeld.below hb26 | with_reducible exact hHeld.below hb27 | with_reducible exact hHeld.below hb28 | with_reducible exact hHeld.below hb29 | with_reducible exact hHeld.below hb30)
  clear hK K hHeld
  have hHeld := hHeld2
  clear hHeld2
  try simp only [Act.put, List.setIfInBounds_toArray, List.set_cons_zero, List.set_cons_succ]
  refine wpAnyH_take (i := 26) (oi := _) (v := ?v127) (List.getElem?_toArray.trans rfl) (by kernel_rfl) (by kernel_rfl) (by kernel_rfl) (fun _ _ _ h => h) (Or.inl ⟨by rfl, ?hy127⟩) (by assumption) ?rest127
  case hy127 => (intro wq hSw; (try simp only [Two, HB] at hSw); go_simp; try with_reducible rfl)
  try simp only [Act.put, List.setIfInBounds_toArray, List.set_cons_zero, List.set_cons_succ]
  refine wpAnyH_take (i := 27) (oi := _) (v := ?v128) (List.getElem?_toArray.trans rfl) (by kernel_rfl) (by kernel_rfl) (by kernel_rfl) (fun _ _ _ h => h) (Or.inl ⟨by rfl, ?hy128⟩) (by assumption) ?rest128
  case hy128 => (intro wq hSw; (try simp only [Two, HB] at hSw); go_simp; try with_reducible rfl)
  try simp only [Act.put, List.setIfInBounds_toArray, List.set_cons_zero, List.set_cons_succ]
  refine wpAnyH_take (i := 28) (oi := _) (v := ?v129) (List.getElem?_toArray.trans rfl) (by kernel_rfl) (by kernel_rfl) (by kernel_rfl) (fun _ _ _ h => h) (Or.inl ⟨by rfl, ?hy129⟩) (by assumption) ?rest129
  case hy129 => (intro wq hSw; (try simp only [Two, HB] at hSw); go_simp; try with_reducible rfl)
  try simp only [Act.put, List.setIfInBounds_toArray, List.set_cons_zero, List.set_cons_succ]
  refine wpAnyH_take (i := 29) (oi := _) (v := ?v130) (List.getElem?_toArray.trans rfl) (by kernel_rfl) (by kernel_rfl) (by kernel_rfl) (fun _ _ _ h => h) (Or.inl ⟨by rfl, ?hy130⟩) (by assumption) ?rest130
  case hy130 => (intro wq hSw; (try simp only [Two, HB] at hSw); go_simp; try with_reducible rfl)
  try simp only [Act.put, List.setIfInBounds_toArray, List.set_cons_zero, List.set_cons_succ]
  refine wpAnyH_take (i := 30) (oi := _) (v := ?v131) (List.getElem?_toArray.trans rfl) (by kernel_rfl) (by kernel_rfl) (by kernel_rfl) (fun _ _ _ h => h) (Or.inl ⟨by rfl, ?hy131⟩) (by assumption) ?rest131
  case hy131 => (intro wq hSw; (try simp only [Two, HB] at hSw); go_simp; try with_reducible rfl)
  try simp only [Act.put, List.setIfInBounds_toArray, List.set_cons_zero, List.set_cons_succ]
  refine wpAnyH_take (i := 32) (oi := _) (v := ?v132) (List.getElem?_toArray.trans rfl) (by kernel_rfl) (by kernel_rfl) (by kernel_rfl) (fun _ _ _ h => h) (Or.inl ⟨by rfl, ?hy132⟩) (by assumption) ?rest132
  case hy132 => (intro wq hSw; (try simp only [Two, HB] at hSw); go_simp; try with_reducible rfl)
  try simp only [Act.put, List.setIfInBounds_toArray, List.set_cons_zero, List.set_cons_succ]
  refine wpAnyH_take (i := 33) (oi := _) (v := ?v133) (List.getElem?_toArray.trans rfl) (by kernel_rfl) (by kernel_rfl) (by kernel_rfl) (fun _ _ _ h => h) (Or.inl ⟨by rfl, ?hy133⟩) (by assumption) ?rest133
  case hy133 => (intro wq hSw; (try simp only [Two, HB] at hSw); go_simp; try with_reducible rfl)
  try simp only [Act.put, List.setIfInBounds_toArray, List.set_cons_zero, List.set_cons_succ]
  refine wpAnyH_ready (rs := [31]) (by kernel_rfl) (by simp) ?rdy134
  refine AllReadyH.cons (List.getElem?_toArray.trans rfl) (fun K hK => ?stp134) AllReadyH.nil
  go_simp
  go_wp2_with fail
  (refine (H1.out _).mono ?_; rintro e w25 ⟨rfl, hb25⟩)
  go_wp2_with fail
  refine hK.out _ _ ?hSn134 (fun hHeld2 => ?rest134)
  case hSn134 => (first | with_reducible exact R.drew | with_reducible exact hHeld.below hb20 | with_reducible exact hHeld.below hb21 | with_reducible exact hHeld.below hb22 | with_reducible exact hHeld.below hb23 | with_reducible exact hHeld.below hb24 | with_reducible exact hHeld.below hb25 | with_reducible exact hHeld.below hb26 | with_reducible exact hHeld.below hb27 | with_reducible exact hHeld.below hb28 | with_reducible exact hHeld.below hb29 | with_reducible exact hHeld.below hb30)
  clear hK K hHeld
  have hHeld := hHeld2
  clear hHeld2
  try simp only [Act.put, List.setIfInBounds_toArray, List.set_cons_zero, List.set_cons_succ]
  refine wpAnyH_ready (rs := [34]) (by kernel_rfl) (by simp) ?rdy135
  refine AllReadyH.cons (List.getElem?_toArray.trans rfl) (fun K hK => ?stp135) AllReadyH.nil
  go_simp
  go_wp2_with fail
  (refine (H2.out _).mono ?_; rintro e w26 ⟨rfl, hb26⟩)
  go_wp2_with fail
  refine hK.out _ _ ?hSn135 (fun hHeld2 => ?rest135)
  case hSn135 => (first | with_reducible exact R.drew | with_reducible exact hHeld.below hb20 | with_reducible exact hHeld.below hb21 | with_reducible exact hHeld.below hb22 | with_reducible exact hHeld.below hb23 | with_reducible exact hHeld.below hb24 | with_reducible exact hHeld.below hb25 | with_reducible exact hHeld.below hb26 | with_reducible exact hHeld.below hb27 | with_reducible exact hHeld.below hb28 | with_reducible exact hHeld.below hb29 | with_reducible exact hHeld.below hb30)
  clear hK K hHeld
  have hHeld := hHeld2
  clear hHeld2
  try simp only [Act.put, List.setIfInBounds_toArray, List.set_cons_zero, List.set_cons_succ]
  refine wpAnyH_take (i := 35) (oi := _) (v := ?v136) (List.getElem?_toArray.trans rfl) (by kernel_rfl) (by kernel_rfl) (by kernel_rfl) (fun _ _ _ h => h) (Or.inl ⟨by rfl, ?hy136⟩) (by assumption) ?rest136
  case hy136 => (intro wq hSw; (try simp only [Two, HB] at hSw); go_simp; try with_reducible rfl)
  try simp only [Act.put, List.setIfInBounds_toArray, List.set_cons_zero, List.set_cons_succ]
  refine wpAnyH_take (i := 36) (oi := _) (v := ?v137) (List.getElem?_toArray.trans rfl) (by kernel_rfl) (by kernel_rfl) (by kernel_rfl) (fun _ _ _ h => h) (Or.inl ⟨by rfl, ?hy137⟩) (by assumption) ?rest137
  case hy137 => (intro wq hSw; (try simp only [Two, HB] at hSw); go_simp; try with_reducible rfl)
  try simp only [Act.put, List.setIfInBounds_toArray, List.set_cons_zero, List.set_cons_succ]
  refine wpAnyH_take (i := 37) (oi := _) (v := ?v138) (List.getElem?_toArray.trans rfl) (by kernel_rfl) (by kernel_rfl) (by kernel_rfl) (fun _ _ _ h => h) (Or.inl ⟨by rfl, ?hy138⟩) (by assumption) ?rest138
  case hy138 => (intro wq hSw; (try simp only [Two, HB] at hSw); go_simp; try with_reducible rfl)
  try simp only [Act.put, List.setIfInBounds_toArray, List.set_cons_zero, List.set_cons_succ]
  refine wpAnyH_take (i := 38) (oi := _) (v := ?v139) (List.getElem?_toArray.trans rfl) (by kernel_rfl) (by kernel_rfl) (by kernel_rfl) (fun _ _ _ h => h) (Or.inl ⟨by rfl, ?hy139⟩) (by assumption) ?rest139
  case hy139 => (intro wq hSw; (try simp only [Two, HB] at hSw); go_simp; try with_reducible rfl)
  try simp only [Act.put, List.setIfInBounds_toArray, List.set_cons_zero, List.set_cons_succ]
  refine wpAnyH_take (i := 39) (oi := _) (v := ?v140) (List.getElem?_toArray.trans rfl) (by kernel_rfl) (by kernel_rfl) (by kernel_rfl) (fun _ _ _ h => h) (Or.inl ⟨by rfl, ?hy140⟩) (by assumption) ?rest140
  case hy140 => (intro wq hSw; (try simp only [Two, HB] at hSw); go_simp; try with_reducible rfl)
  try simp only [Act.put, List.setIfInBounds_toArray, List.set_cons_zero, List.set_cons_succ]
  refine wpAnyH_take (i := 41) (oi := _) (v := ?v141) (List.getElem?_toArray.trans rfl) (by kernel_rfl) (by kernel_rfl) (by kernel_rfl) (fun _ _ _ h => h) (Or.inl ⟨by rfl, ?hy141⟩) (by assumption) ?rest141
  case hy141 => (intro wq hSw; (try simp only [Two, HB] at hSw); go_simp; try with_reducible rfl)
  try simp only [Act.put, List.setIfInBounds_toArray, List.set_cons_zero, List.set_cons_succ]
  refine wpAnyH_take (i := 42) (oi := _) (v := ?v142) (List.getElem?_toArray.trans rfl) (by kernel_rfl) (by kernel_rfl) (by kernel_rfl) (fun _ _ _ h => h) (Or.inl ⟨by rfl, ?hy142⟩) (by assumption) ?rest142
  case hy142 => (intro wq hSw; (try simp only [Two, HB] at hSw); go_simp; try with_reducible rfl)
  try simp only [Act.put, List.setIfInBounds_toArray, List.set_cons_zero, List.set_cons_succ]
  refine wpAnyH_ready (rs := [40]) (by kernel_rfl) (by simp) ?rdy143
  refine AllReadyH.cons (List.getElem?_toArray.trans rfl) (fun K hK => ?stp143) AllReadyH.nil
  go_simp
  go_wp2_with fail
  (refine (W1.out _).mono ?_; rintro e w27 ⟨rfl, hb27⟩)
  go_wp2_with fail
  refine hK.out _ _ ?hSn143 (fun hHeld2 => ?rest143)
  case hSn143 => (first | with_reducible exact R.drew | with_reducible exact hHeld.below hb20 | with_reducible exact hHeld.below hb21 | with_reducible exact hHeld.below hb22 | with_reducible exact hHeld.below hb23 | with_reducible exact hHeld.below hb24 | with_reducible exact hHeld.below hb25 | with_reducible exact hHeld.below hb26 | with_reducible exact hHeld.below hb27 | with_reducible exact hHeld.below hb28 | with_reducible exact hHeld.below hb29 | with_reducible exact hHeld.below hb30)
  clear hK K hHeld
  have hHeld := hHeld2
  clear hHeld2
  try simp only [Act.put, List.setIfInBounds_toArray, List.set_cons_zero, List.set_cons_succ]
  refine wpAnyH_ready (rs := [43]) (by kernel_rfl) (by simp) ?rdy144
  refine AllReadyH.cons (List.getElem?_toArray.trans rfl) (fun K hK => ?stp144) AllReadyH.nil
  go_simp
  go_wp2_with fail
  (refine (W2.out _).mono ?_; rintro e w28 ⟨rfl, hb28⟩)
  go_wp2_with fail
  refine hK.out _ _ ?hSn144 (fun hHeld2 => ?rest144)
  case hSn144 => (first | with_reducible exact R.drew | with_reducible exact hHeld.below hb20 | with_reducible exact hHeld.below hb21 | with_reducible exact hHeld.below hb22 | with_reducible exact hHeld.below hb23 | with_reducible exact hHeld.below hb24 | with_reducible exact hHeld.below hb25 | with_reducible exact hHeld.below hb26 | with_reducible exact hHeld.below hb27 | with_reducible exact hHeld.below hb28 | with_reducible exact hHeld.below hb29 | with_reducible exact hHeld.below hb30)
  clear hK K hHeld
  have hHeld := hHeld2
  clear hHeld2
  try simp only [Act.put, List.setIfInBounds_toArray, List.set_cons_zero, List.set_cons_succ]
  refine wpAnyH_take (i := 44) (oi := _) (v := ?v145) (List.getElem?_toArray.trans rfl) (by kernel_rfl) (by kernel_rfl) (by kernel_rfl) (fun _ _ _ h => h) (Or.inl ⟨by rfl, ?hy145⟩) (by assumption) ?rest145
  case hy145 => (intro wq hSw; (try simp only [Two, HB] at hSw); go_simp; try with_reducible rfl)
  try simp only [Act.put, List.setIfInBounds_toArray, List.set_cons_zero, List.set_cons_succ]
  refine wpAnyH_take (i := 45) (oi := _) (v := ?v146) (List.getElem?_toArray.trans rfl) (by kernel_rfl) (by kernel_rfl) (by kernel_rfl) (fun _ _ _ h => h) (Or.inl ⟨by rfl, ?hy146⟩) (by assumption) ?rest146
  case hy146 => (intro wq hSw; (try simp only [Two, HB] at hSw); go_simp; try with_reducible rfl)
  try simp only [Act.put, List.setIfInBounds_toArray, List.set_cons_zero, List.set_cons_succ]
  refine wpAnyH_take (i := 46) (oi := _) (v := ?v147) (List.getElem?_toArray.trans rfl) (by kernel_rfl) (by kernel_rfl) (by kernel_rfl) (fun _ _ _ h => h) (Or.inl ⟨by rfl, ?hy147⟩) (by assumption) ?rest147
  case hy147 => (intro wq hSw; (try simp only [Two, HB] at hSw); go_simp; try with_reducible rfl)
  try simp only [Act.put, List.setIfInBounds_toArray, List.set_cons_zero, List.set_cons_succ]
  refine wpAnyH_take (i := 47) (oi := _) (v := ?v148) (List.getElem?_toArray.trans rfl) (by kernel_rfl) (by kernel_rfl) (by kernel_rfl) (fun _ _ _ h => h) (Or.inl ⟨by rfl, ?hy148⟩) (by assumption) ?rest148
  case hy148 => (intro wq hSw; (try simp only [Two, HB] at hSw); go_simp; try with_reducible rfl)
  try simp only [Act.put, List.setIfInBounds_toArray, List.set_cons_zero, List.set_cons_succ]
  refine wpAnyH_take (i := 48) (oi := _) (v := ?v149) (List.getElem?_toArray.trans rfl) (by kernel_rfl) (by kernel_rfl) (by kernel_rfl) (fun _ _ _ h => h) (Or.inl ⟨by rfl, ?hy149⟩) (by assumption) ?rest149
  case hy149 => (intro wq hSw; (try simp only [Two, HB] at hSw); go_simp; try with_reducible rfl)
  try simp only [Act.put, List.setIfInBounds_toArray, List.set_cons_zero, List.set_cons_succ]
  refine wpAnyH_take (i := 50) (oi := _) (v := ?v150) (List.getElem?_toArray.trans rfl) (by kernel_rfl) (by kernel_rfl) (by kernel_rfl) (fun _ _ _ h => h) (Or.inl ⟨by rfl, ?hy150⟩) (by assumption) ?rest150
  case hy150 => (intro wq hSw; (try simp only [Two, HB] at hSw); go_simp; try with_reducible rfl)
  try simp only [Act.put, List.setIfInBounds_toArray, List.set_cons_zero, List.set_cons_succ]
  refine wpAnyH_take (i := 51) (oi := _) (v := ?v151) (List.getElem?_toArray.trans rfl) (by kernel_rfl) (by kernel_rfl) (by kernel_rfl) (fun _ _ _ h => h) (Or.inl ⟨by rfl, ?hy151⟩) (by assumption) ?rest151
  case hy151 => (intro wq hSw; (try simp only [Two, HB] at hSw); go_simp; try with_reducible rfl)
  try simp only [Act.put, List.setIfInBounds_toArray, List.set_cons_zero, List.set_cons_succ]
  refine wpAnyH_ready (rs := [49]) (by kernel_rfl) (by simp) ?rdy152
  refine AllReadyH.cons (List.getElem?_toArray.trans rfl) (fun K hK => ?stp152) AllReadyH.nil
  go_simp
  go_wp2_with fail
  (refine (O1.out _).mono ?_; rintro e w29 ⟨rfl, hb29⟩)
  go_wp2_with fail
  refine hK.out _ _ ?hSn152 (fun hHeld2 => ?rest152)
  case hSn152 => (first | with_reducible exact R.drew | with_reducible exact hHeld.below hb20 | with_reducible exact hHeld.below hb21 | with_reducible exact hHeld.below hb22 | with_reducible exact hHeld.below hb23 | with_reducible exact hHeld.below hb24 | with_reducible exact hHeld.below hb25 | with_reducible exact hHeld.below hb26 | with_reducible exact hHeld.below hb27 | with_reducible exact hHeld.below hb28 | with_reducible exact hHeld.below hb29 | with_reducible exact hHeld.below hb30)
  clear hK K hHeld
  have hHeld := hHeld2
  clear hHeld2
  try simp only [Act.put, List.setIfInBounds_toArray, List.set_cons_zero, List.set_cons_succ]
  refine wpAnyH_ready (rs := [52]) (by kernel_rfl) (by simp) ?rdy153
  refine AllReadyH.cons (List.getElem?_toArray.trans rfl) (fun K hK => ?stp153) AllReadyH.nil
  go_simp
  go_wp2_with fail
  (refine (O2.out _).mono ?_; rintro e w30 ⟨rfl, hb30⟩)
  go_wp2_with fail
  refine hK.out _ _ ?hSn153 (fun hHeld2 => ?rest153)
  case hSn153 => (first | with_reducible exact R.drew | with_reducible exact hHeld.below hb20 | with_reducible exact hHeld.below hb21 | with_reducible exact hHeld.below hb22 | with_reducible exact hHeld.below hb23 | with_reducible exact hHeld.below hb24 | with_reducible exact hHeld.below hb25 | with_reducible exact hHeld.below hb26 | with_reducible exact hHeld.below hb27 | with_reducible exact hHeld.below hb28 | with_reducible exact hHeld.below hb29 | with_reducible exact hHeld.below hb30)
  clear hK K hHeld
  have hHeld := hHeld2
  clear hHeld2
  try simp only [Act.put, List.setIfInBounds_toArray, List.set_cons_zero, List.set_cons_succ]
  refine wpAnyH_take (i := 53) (oi := _) (v := ?v154) (List.getElem?_toArray.trans rfl) (by kernel_rfl) (by kernel_rfl) (by kernel_rfl) (fun _ _ _ h => h) (Or.inl ⟨by rfl, ?hy154⟩) (by assumption) ?rest154
  case hy154 => (intro wq hSw; (try simp only [Two, HB] at hSw); go_simp; try with_reducible rfl)
  try simp only [Act.put, List.setIfInBounds_toArray, List.set_cons_zero, List.set_cons_succ]
  refine wpAnyH_take (i := 54) (oi := _) (v := ?v155) (List.getElem?_toArray.trans rfl) (by kernel_rfl) (by kernel_rfl) (by kernel_rfl) (fun _ _ _ h => h) (Or.inl ⟨by rfl, ?hy155⟩) (by assumption) ?rest155
  case hy155 => (intro wq hSw; (try simp only [Two, HB] at hSw); go_simp; try with_reducible rfl)
  try simp only [Act.put, List.setIfInBounds_toArray, List.set_cons_zero, List.set_cons_succ]
  refine wpAnyH_take (i := 55) (oi := _) (v := ?v156) (List.getElem?_toArray.trans rfl) (by kernel_rfl) (by kernel_rfl) (by kernel_rfl) (fun _ _ _ h => h) (Or.inl ⟨by rfl, ?hy156⟩) (by assumption) ?rest156
  case hy156 => (intro wq hSw; (try simp only [Two, HB] at hSw); go_simp; try with_reducible rfl)
  try simp only [Act.put, List.setIfInBounds_toArray, List.set_cons_zero, List.set_cons_succ]
  refine wpAnyH_done (by kernel_rfl) ?fin100 _
  go_wp2
  go_ret
  exact ⟨by first | rfl | simp, hHeld.last⟩

set_option maxRecDepth 100000 in
set_option maxHeartbeats 3200000 in
theorem has_walk_ok {v u s : Bool} {ph pl b qh ql c ah al k : Int} {n m a : Nat} (hp : IsNum ph pl n) (hq : IsNum qh ql m) (ha : IsNum ah al a) (hk : okP v n b = true) (w : World) (hL : LW w)
    (aw : ∀ w, LW w → Calls Tryz.prog 7 #[] w fun e w' => e = .returned (.bool true) ∧ Below w.heap.size w w') :
    Calls Tryz.prog 3 #[pv v ph pl b, pv u qh ql c, av s ah al, .int .i64 k] w fun e w' => e = .returned (.bool true) ∧ Below w.heap.size w w' := by
  have hz := hL.sz
  have R0 : NK w v ph pl b u qh ql c s ah al (((w.alloc (.cells #[.bool v, .int .u64 ph, .int .u64 pl, .int .i64 b] 28)).alloc (.cells #[.bool u, .int .u64 qh, .int .u64 ql, .int .i64 c] 28)).alloc (.cells #[.bool s, .int .u64 ah, .int .u64 al] 26)) :=
    ⟨((Blk.new _ _ _).alloc _).alloc _, Blk.alloc (by simpa using Blk.new (w.alloc (.cells #[.bool v, .int .u64 ph, .int .u64 pl, .int .i64 b] 28)) #[.bool u, .int .u64 qh, .int .u64 ql, .int .i64 c] 28) _, by simpa using Blk.new ((w.alloc (.cells #[.bool v, .int .u64 ph, .int .u64 pl, .int .i64 b] 28)).alloc (.cells #[.bool u, .int .u64 qh, .int .u64 ql, .int .i64 c] 28)) #[.bool s, .int .u64 ah, .int .u64 al] 26, by repeat (first | with_reducible exact Below.refl _ _ | with_reducible refine Below.drew ?_ | with_reducible refine Below.alloc ?_ (by first | omega | (simp <;> omega)) _ | with_reducible refine Below.setCell ?_ (by first | omega | (simp <;> omega)) _)⟩
  have AW := aw _ (hL.of R0.2.2.2 hz)
  obtain ⟨xv, xh, xl, xb, xc, OF, RO⟩ : ∃ (xv : Bool) (xh xl xb xc : Int), Hid (∀ w', Calls Tryz.prog 8 #[av s ah al, .int .i64 k] w' fun e w1 => e = .returned (.tuple #[pv xv xh xl xb, .int .i64 xc]) ∧ Below w'.heap.size w' w1) ∧ Hid (∀ w', Calls Tryz.prog 9 #[av s ah al, .int .i64 k] w' fun e w1 => e = .returned (.tuple #[pv xv xh xl xb, .int .i64 xc]) ∧ Below w'.heap.size w' w1) := by
    cases hf : fitsB s a k
    · exact ⟨_, _, _, _, _, fun w' => of_no ha hf w', fun w' => rof_no ha hf w'⟩
    · obtain ⟨rh, rl, hr⟩ := IsNum.ex (n := ofN s a k) (Nat.lt_of_le_of_lt (ofN_le _ _ _) ha.lt)
      exact ⟨_, _, _, _, _, fun w' => of_ok ha hf hr w', fun w' => rof_ok ha hf hr w'⟩
  obtain ⟨x1, hx1⟩ : ∃ x, hasB v n b s a = x := ⟨_, rfl⟩
  obtain ⟨x2, hx2⟩ : ∃ x, withinB v n b u m c = x := ⟨_, rfl⟩
  obtain ⟨x3, hx3⟩ : ∃ x, overB v n b u m c = x := ⟨_, rfl⟩
  obtain ⟨l1, l2⟩ := lastN_small hk hp.lt
  obtain ⟨lh, ll, hl⟩ := IsNum.ex l1
  have R1 : Hid (∀ w', Calls Tryz.prog 11 #[pv v ph pl b] w' fun e w1 => e = .returned (.bool true) ∧ Below w'.heap.size w' w1) := fun w' => hk ▸ pright_c hp w'
  have R2 : Hid (∀ w', Calls Tryz.prog 10 #[pv v ph pl b] w' fun e w1 => e = .returned (.bool true) ∧ Below w'.heap.size w' w1) := fun w' => hk ▸ rpright_c hp w'
  have FI : Hid (∀ w', Calls Tryz.prog 12 #[pv v ph pl b] w' fun e w1 => e = .returned (av v ph pl) ∧ Below w'.heap.size w' w1) := fun w' => first_c hp (Or.inl ⟨hk, rfl, rfl, rfl⟩) w'
  have LA : Hid (∀ w', Calls Tryz.prog 13 #[pv v ph pl b] w' fun e w1 => e = .returned (av v lh ll) ∧ Below w'.heap.size w' w1) := fun w' => last_ok hp hk hl w'
  have RL : Hid (∀ w', Calls Tryz.prog 14 #[pv v ph pl b] w' fun e w1 => e = .returned (av v lh ll) ∧ Below w'.heap.size w' w1) := fun w' => rlast_c hp (Or.inl ⟨hk, rfl, hl⟩) w'
  have H1 : Hid (∀ w', Calls Tryz.prog 15 #[pv v ph pl b, av s ah al] w' fun e w1 => e = .returned (.bool x1) ∧ Below w'.heap.size w' w1) := fun w' => hx1 ▸ has_c hp ha w'
  have H2 : Hid (∀ w', Calls Tryz.prog 16 #[pv v ph pl b, av s ah al] w' fun e w1 => e = .returned (.bool x1) ∧ Below w'.heap.size w' w1) := fun w' => hx1 ▸ rhas_c hp ha w'
  have W1 : Hid (∀ w', Calls Tryz.prog 17 #[pv v ph pl b, pv u qh ql c] w' fun e w1 => e = .returned (.bool x2) ∧ Below w'.heap.size w' w1) := fun w' => hx2 ▸ within_c hp hq w'
  have W2 : Hid (∀ w', Calls Tryz.prog 18 #[pv v ph pl b, pv u qh ql c] w' fun e w1 => e = .returned (.bool x2) ∧ Below w'.heap.size w' w1) := fun w' => hx2 ▸ rwithin_c hp hq w'
  have O1 : Hid (∀ w', Calls Tryz.prog 19 #[pv v ph pl b, pv u qh ql c] w' fun e w1 => e = .returned (.bool x3) ∧ Below w'.heap.size w' w1) := fun w' => hx3 ▸ over_c hp hq w'
  have O2 : Hid (∀ w', Calls Tryz.prog 20 #[pv v ph pl b, pv u qh ql c] w' fun e w1 => e = .returned (.bool x3) ∧ Below w'.heap.size w' w1) := fun w' => hx3 ▸ rover_c hp hq w'
  clear hp hq ha hk hL aw hx1 hx2 hx3 hl l1 l2
  go_enter Tryz.func3, Tryz.ntmps3
  go_wp2_with fail
  refine AW.mono ?_
  rintro e w1 ⟨rfl, hb⟩
  have R := R0.below hb
  have F := R.cells
  clear hb R0 AW
  go_wp2_with fail
  refine (OF.out _).mono ?_
  rintro e w2 ⟨rfl, hb⟩
  have n1 := (R.below hb).2.2.1.lt
  replace R := (R.below hb).alloc (.cells #[.bool xv, .int .u64 xh, .int .u64 xl, .int .i64 xb] 28)
  have X2 : Blk (w2.alloc (.cells #[.bool xv, .int .u64 xh, .int .u64 xl, .int .i64 xb] 28)) w2.heap.size #[.bool xv, .int .u64 xh, .int .u64 xl, .int .i64 xb] 28 := Blk.new _ _ _
  replace F := R.cells
  clear hb OF
  go_wp2_with fail
  refine (RO.out _).mono ?_
  rintro e w3 ⟨rfl, hb⟩
  have n2 := (X2.below hb).lt
  replace R := ((R.below hb).alloc (.cells #[.bool xv, .int .u64 xh, .int .u64 xl, .int .i64 xb] 28)).alloc (.cells #[.bool false, .int .u64 0, .int .u64 0] 26)
  have X3 := ((X2.below hb).alloc (.cells #[.bool xv, .int .u64 xh, .int .u64 xl, .int .i64 xb] 28)).alloc (.cells #[.bool false, .int .u64 0, .int .u64 0] 26)
  have Y3 : Blk ((w3.alloc (.cells #[.bool xv, .int .u64 xh, .int .u64 xl, .int .i64 xb] 28)).alloc (.cells #[.bool false, .int .u64 0, .int .u64 0] 26)) w3.heap.size #[.bool xv, .int .u64 xh, .int .u64 xl, .int .i64 xb] 28 := (Blk.new _ _ _).alloc _
  have Z3 : Blk ((w3.alloc (.cells #[.bool xv, .int .u64 xh, .int .u64 xl, .int .i64 xb] 28)).alloc (.cells #[.bool false, .int .u64 0, .int .u64 0] 26)) (w3.heap.size + 1) #[.bool false, .int .u64 0, .int .u64 0] 26 := by simpa using Blk.new (w3.alloc (.cells #[.bool xv, .int .u64 xh, .int .u64 xl, .int .i64 xb] 28)) #[.bool false, .int .u64 0, .int .u64 0] 26
  replace F := R.cells
  clear hb RO X2
  go_wp2_with fail
  refine (R2.out _).mono ?_
  rintro e w4 ⟨rfl, hb⟩
  replace R := R.below hb
  have X4 := X3.below hb
  have Y4 := Y3.below hb
  have Z4 := Z3.below hb
  replace F := R.cells
  clear hb X3 Y3 Z3
  obtain ⟨z0, z1, z2, z3, z4, z5, z6⟩ := Z4.three
  have R5 : HB w w2.heap.size w3.heap.size (w3.heap.size + 1) v ph pl b u qh ql c s ah al xv xh xl xb v ph pl (((w4.setCell ⟨w3.heap.size + 1, 0, none⟩ (.bool v)).setCell ⟨w3.heap.size + 1, 1, none⟩ (.int .u64 ph)).setCell ⟨w3.heap.size + 1, 2, none⟩ (.int .u64 pl)) :=
    HB.of (R.1.far3 (by omega) _ _ _) (R.2.1.far3 (by omega) _ _ _) (R.2.2.1.far3 (by omega) _ _ _) (X4.far3 (by omega) _ _ _) (Y4.far3 (by omega) _ _ _) (Z4.put3 _ _ _) (((R.2.2.2.setCell (by simp; omega) _).setCell (by simp; omega) _).setCell (by simp; omega) _)
  go_upto_region 8 with fail
  clear F R X4 Y4 Z4 z0 z1 z2 z3 z4 z5 z6 n1 n2
  have R := R5
  clear R5
  go_wp2_with fail
  refine wp_region_held_drew (S := (HB w w2.heap.size w3.heap.size (w3.heap.size + 1) v ph pl b u qh ql c s ah al xv xh xl xb v ph pl)) (by kernel_rfl) ?hS200 (fun hHeld => ?rest200)
  case hS200 => (first | with_reducible exact R.drew | with_reducible exact hHeld.below hb20 | with_reducible exact hHeld.below hb21 | with_reducible exact hHeld.below hb22 | with_reducible exact hHeld.below hb23 | with_reducible exact hHeld.below hb24 | with_reducible exact hHeld.below hb25 | with_reducible exact hHeld.below hb26 | with_reducible exact hHeld.below hb27 | with_reducible exact hHeld.below hb28 | with_reducible exact hHeld.below hb29 | with_reducible exact hHeld.below hb30)
  refine wpAnyH_take (i := 0) (oi := _) (v := ?v201) (List.getElem?_toArray.trans rfl) (by kernel_rfl) (by kernel_rfl) (by kernel_rfl) (fun _ _ _ h => h) (Or.inl ⟨by rfl, ?hy201⟩) (by assumption) ?rest201
  case hy201 => (intro wq hSw; (try simp only [Two, HB] at hSw); go_simp; try with_reducible rfl)
  try simp only [Act.put, List.setIfInBounds_toArray, List.set_cons_zero, List.set_cons_succ]
  refine wpAnyH_take (i := 1) (oi := _) (v := ?v202) (List.getElem?_toArray.trans rfl) (by kernel_rfl) (by kernel_rfl) (by kernel_rfl) (fun _ _ _ h => h) (Or.inl ⟨by rfl, ?hy202⟩) (by assumption) ?rest202
  case hy202 => (intro wq hSw; (try simp only [Two, HB] at hSw); go_simp; try with_reducible rfl)
  try simp only [Act.put, List.setIfInBounds_toArray, List.set_cons_zero, List.set_cons_succ]
  refine wpAnyH_take (i := 2) (oi := _) (v := ?v203) (List.getElem?_toArray.trans rfl) (by kernel_rfl) (by kernel_rfl) (by kernel_rfl) (fun _ _ _ h => h) (Or.inl ⟨by rfl, ?hy203⟩) (by assumption) ?rest203
  case hy203 => (intro wq hSw; (try simp only [Two, HB] at hSw); go_simp; try with_reducible rfl)
  try simp only [Act.put, List.setIfInBounds_toArray, List.set_cons_zero, List.set_cons_succ]
  refine wpAnyH_take (i := 3) (oi := _) (v := ?v204) (List.getElem?_toArray.trans rfl) (by kernel_rfl) (by kernel_rfl) (by kernel_rfl) (fun _ _ _ h => h) (Or.inl ⟨by rfl, ?hy204⟩) (by assumption) ?rest204
  case hy204 => (intro wq hSw; (try simp only [Two, HB] at hSw); go_simp; try with_reducible rfl)
  try simp only [Act.put, List.setIfInBounds_toArray, List.set_cons_zero, List.set_cons_succ]
  refine wpAnyH_take (i := 4) (oi := _) (v := ?v205) (List.getElem?_toArray.trans rfl) (by kernel_rfl) (by kernel_rfl) (by kernel_rfl) (fun _ _ _ h => h) (Or.inl ⟨by rfl, ?hy205⟩) (by assumption) ?rest205
  case hy205 => (intro wq hSw; (try simp only [Two, HB] at hSw); go_simp; try with_reducible rfl)
  try simp only [Act.put, List.setIfInBounds_toArray, List.set_cons_zero, List.set_cons_succ]
  refine wpAnyH_take (i := 5) (oi := _) (v := ?v206) (List.getElem?_toArray.trans rfl) (by kernel_rfl) (by kernel_rfl) (by kernel_rfl) (fun _ _ _ h => h) (Or.inl ⟨by rfl, ?hy206⟩) (by assumption) ?rest206
  case hy206 => (intro wq hSw; (try simp only [Two, HB] at hSw); go_simp; try with_reducible rfl)
  try simp only [Act.put, List.setIfInBounds_toArray, List.set_cons_zero, List.set_cons_succ]
  refine wpAnyH_take (i := 6) (oi := _) (v := ?v207) (List.getElem?_toArray.trans rfl) (by kernel_rfl) (by kernel_rfl) (by kernel_rfl) (fun _ _ _ h => h) (Or.inl ⟨by rfl, ?hy207⟩) (by assumption) ?rest207
  case hy207 => (intro wq hSw; (try simp only [Two, HB] at hSw); go_simp; try with_reducible rfl)
  try simp only [Act.put, List.setIfInBounds_toArray, List.set_cons_zero, List.set_cons_succ]
  refine wpAnyH_take (i := 7) (oi := _) (v := ?v208) (List.getElem?_toArray.trans rfl) (by kernel_rfl) (by kernel_rfl) (by kernel_rfl) (fun _ _ _ h => h) (Or.inl ⟨by rfl, ?hy208⟩) (by assumption) ?rest208
  case hy208 => (intro wq hSw; (try simp only [Two, HB] at hSw); go_simp; try with_reducible rfl)
  try simp only [Act.put, List.setIfInBounds_toArray, List.set_cons_zero, List.set_cons_succ]
  refine wpAnyH_take (i := 8) (oi := _) (v := ?v209) (List.getElem?_toArray.trans rfl) (by kernel_rfl) (by kernel_rfl) (by kernel_rfl) (fun _ _ _ h => h) (Or.inl ⟨by rfl, ?hy209⟩) (by assumption) ?rest209
  case hy209 => (intro wq hSw; (try simp only [Two, HB] at hSw); go_simp; try with_reducible rfl)
  try simp only [Act.put, List.setIfInBounds_toArray, List.set_cons_zero, List.set_cons_succ]
  refine wpAnyH_take (i := 9) (oi := _) (v := ?v210) (List.getElem?_toArray.trans rfl) (by kernel_rfl) (by kernel_rfl) (by kernel_rfl) (fun _ _ _ h => h) (Or.inl ⟨by rfl, ?hy210⟩) (by assumption) ?rest210
  case hy210 => (intro wq hSw; (try simp only [Two, HB] at hSw); go_simp; try with_reducible rfl)
  try simp only [Act.put, List.setIfInBounds_toArray, List.set_cons_zero, List.set_cons_succ]
  refine wpAnyH_take (i := 11) (oi := _) (v := ?v211) (List.getElem?_toArray.trans rfl) (by kernel_rfl) (by kernel_rfl) (by kernel_rfl) (fun _ _ _ h => h) (Or.inl ⟨by rfl, ?hy211⟩) (by assumption) ?rest211
  case hy211 => (intro wq hSw; (try simp only [Two, HB] at hSw); go_simp; try with_reducible rfl)
  try simp only [Act.put, List.setIfInBounds_toArray, List.set_cons_zero, List.set_cons_succ]
  refine wpAnyH_ready (rs := [10]) (by kernel_rfl) (by simp) ?rdy212
  refine AllReadyH.cons (List.getElem?_toArray.trans rfl) (fun K hK => ?stp212) AllReadyH.nil
  go_simp
  go_wp2_with fail
  (refine (R1.out _).mono ?_; rintro e w20 ⟨rfl, hb20⟩)
  go_wp2_with fail
  refine hK.out _ _ ?hSn212 (fun hHeld2 => ?rest212)
  case hSn212 => (first | with_reducible exact R.drew | with_reducible exact hHeld.below hb20 | with_reducible exact hHeld.below hb21 | with_reducible exact hHeld.below hb22 | with_reducible exact hHeld.below hb23 | with_reducible exact hHeld.below hb24 | with_reducible exact hHeld.below hb25 | with_reducible exact hHeld.below hb26 | with_reducible exact hHeld.below hb27 | with_reducible exact hHeld.below hb28 | with_reducible exact hHeld.below hb29 | with_reducible exact hHeld.below hb30)
  clear hK K hHeld
  have hHeld := hHeld2
  clear hHeld2
  try simp only [Act.put, List.setIfInBounds_toArray, List.set_cons_zero, List.set_cons_succ]
  refine wpAnyH_ready (rs := [12]) (by kernel_rfl) (by simp) ?rdy213
  refine AllReadyH.cons (List.getElem?_toArray.trans rfl) (fun K hK => ?stp213) AllReadyH.nil
  go_simp
  go_wp2_with fail
  (refine (R2.out _).mono ?_; rintro e w21 ⟨rfl, hb21⟩)
  go_wp2_with fail
  refine hK.out _ _ ?hSn213 (fun hHeld2 => ?rest213)
  case hSn213 => (first | with_reducible exact R.drew | with_reducible exact hHeld.below hb20 | with_reducible exact hHeld.below hb21 | with_reducible exact hHeld.below hb22 | with_reducible exact hHeld.below hb23 | with_reducible exact hHeld.below hb24 | with_reducible exact hHeld.below hb25 | with_reducible exact hHeld.below hb26 | with_reducible exact hHeld.below hb27 | with_reducible exact hHeld.below hb28 | with_reducible exact hHeld.below hb29 | with_reducible exact hHeld.below hb30)
  clear hK K hHeld
  have hHeld := hHeld2
  clear hHeld2
  try simp only [Act.put, List.setIfInBounds_toArray, List.set_cons_zero, List.set_cons_succ]
  refine wpAnyH_take (i := 13) (oi := _) (v := ?v214) (List.getElem?_toArray.trans rfl) (by kernel_rfl) (by kernel_rfl) (by kernel_rfl) (fun _ _ _ h => h) (Or.inl ⟨by rfl, ?hy214⟩) (by assumption) ?rest214
  case hy214 => (intro wq hSw; (try simp only [Two, HB] at hSw); go_simp; try with_reducible rfl)
  try simp only [Act.put, List.setIfInBounds_toArray, List.set_cons_zero, List.set_cons_succ]
  refine wpAnyH_take (i := 14) (oi := _) (v := ?v215) (List.getElem?_toArray.trans rfl) (by kernel_rfl) (by kernel_rfl) (by kernel_rfl) (fun _ _ _ h => h) (Or.inl ⟨by rfl, ?hy215⟩) (by assumption) ?rest215
  case hy215 => (intro wq hSw; (try simp only [Two, HB] at hSw); go_simp; try with_reducible rfl)
  try simp only [Act.put, List.setIfInBounds_toArray, List.set_cons_zero, List.set_cons_succ]
  refine wpAnyH_take (i := 15) (oi := _) (v := ?v216) (List.getElem?_toArray.trans rfl) (by kernel_rfl) (by kernel_rfl) (by kernel_rfl) (fun _ _ _ h => h) (Or.inl ⟨by rfl, ?hy216⟩) (by assumption) ?rest216
  case hy216 => (intro wq hSw; (try simp only [Two, HB] at hSw); go_simp; try with_reducible rfl)
  try simp only [Act.put, List.setIfInBounds_toArray, List.set_cons_zero, List.set_cons_succ]
  refine wpAnyH_take (i := 16) (oi := _) (v := ?v217) (List.getElem?_toArray.trans rfl) (by kernel_rfl) (by kernel_rfl) (by kernel_rfl) (fun _ _ _ h => h) (Or.inl ⟨by rfl, ?hy217⟩) (by assumption) ?rest217
  case hy217 => (intro wq hSw; (try simp only [Two, HB] at hSw); go_simp; try with_reducible rfl)
  try simp only [Act.put, List.setIfInBounds_toArray, List.set_cons_zero, List.set_cons_succ]
  refine wpAnyH_take (i := 18) (oi := _) (v := ?v218) (List.getElem?_toArray.trans rfl) (by kernel_rfl) (by kernel_rfl) (by kernel_rfl) (fun _ _ _ h => h) (Or.inl ⟨by rfl, ?hy218⟩) (by assumption) ?rest218
  case hy218 => (intro wq hSw; (try simp only [Two, HB] at hSw); go_simp; try with_reducible rfl)
  try simp only [Act.put, List.setIfInBounds_toArray, List.set_cons_zero, List.set_cons_succ]
  refine wpAnyH_ready (rs := [17]) (by kernel_rfl) (by simp) ?rdy219
  refine AllReadyH.cons (List.getElem?_toArray.trans rfl) (fun K hK => ?stp219) AllReadyH.nil
  go_simp
  go_wp2_with fail
  (refine (FI.out _).mono ?_; rintro e w22 ⟨rfl, hb22⟩)
  go_wp2_with fail
  refine hK.out _ _ ?hSn219 (fun hHeld2 => ?rest219)
  case hSn219 => (first | with_reducible exact R.drew | with_reducible exact hHeld.below hb20 | with_reducible exact hHeld.below hb21 | with_reducible exact hHeld.below hb22 | with_reducible exact hHeld.below hb23 | with_reducible exact hHeld.below hb24 | with_reducible exact hHeld.below hb25 | with_reducible exact hHeld.below hb26 | with_reducible exact hHeld.below hb27 | with_reducible exact hHeld.below hb28 | with_reducible exact hHeld.below hb29 | with_reducible exact hHeld.below hb30)
  clear hK K hHeld
  have hHeld := hHeld2
  clear hHeld2
  try simp only [Act.put, List.setIfInBounds_toArray, List.set_cons_zero, List.set_cons_succ]
  refine wpAnyH_take (i := 19) (oi := _) (v := ?v220) (List.getElem?_toArray.trans rfl) (by kernel_rfl) (by kernel_rfl) (by kernel_rfl) (fun _ _ _ h => h) (Or.inl ⟨by rfl, ?hy220⟩) (by assumption) ?rest220
  case hy220 => (intro wq hSw; (try simp only [Two, HB] at hSw); go_simp; try with_reducible rfl)
  try simp only [Act.put, List.setIfInBounds_toArray, List.set_cons_zero, List.set_cons_succ]
  refine wpAnyH_take (i := 20) (oi := _) (v := ?v221) (List.getElem?_toArray.trans rfl) (by kernel_rfl) (by kernel_rfl) (by kernel_rfl) (fun _ _ _ h => h) (Or.inl ⟨by rfl, ?hy221⟩) (by assumption) ?rest221
  case hy221 => (intro wq hSw; (try simp only [Two, HB] at hSw); go_simp; try with_reducible rfl)
  try simp only [Act.put, List.setIfInBounds_toArray, List.set_cons_zero, List.set_cons_succ]
  refine wpAnyH_take (i := 21) (oi := _) (v := ?v222) (List.getElem?_toArray.trans rfl) (by kernel_rfl) (by kernel_rfl) (by kernel_rfl) (fun _ _ _ h => h) (Or.inl ⟨by rfl, ?hy222⟩) (by assumption) ?rest222
  case hy222 => (intro wq hSw; (try simp only [Two, HB] at hSw); go_simp; try with_reducible rfl)
  try simp only [Act.put, List.setIfInBounds_toArray, List.set_cons_zero, List.set_cons_succ]
  refine wpAnyH_take (i := 22) (oi := _) (v := ?v223) (List.getElem?_toArray.trans rfl) (by kernel_rfl) (by kernel_rfl) (by kernel_rfl) (fun _ _ _ h => h) (Or.inl ⟨by rfl, ?hy223⟩) (by assumption) ?rest223
  case hy223 => (intro wq hSw; (try simp only [Two, HB] at hSw); go_simp; try with_reducible rfl)
  try simp only [Act.put, List.setIfInBounds_toArray, List.set_cons_zero, List.set_cons_succ]
  refine wpAnyH_take (i := 24) (oi := _) (v := ?v224) (List.getElem?_toArray.trans rfl) (by kernel_rfl) (by kernel_rfl) (by kernel_rfl) (fun _ _ _ h => h) (Or.inl ⟨by rfl, ?hy224⟩) (by assumption) ?rest224
  case hy224 => (intro wq hSw; (try simp only [Two, HB] at hSw); go_simp; try with_reducible rfl)
  try simp only [Act.put, List.setIfInBounds_toArray, List.set_cons_zero, List.set_cons_succ]
  refine wpAnyH_ready (rs := [23]) (by kernel_rfl) (by simp) ?rdy225
  refine AllReadyH.cons (List.getElem?_toArray.trans rfl) (fun K hK => ?stp225) AllReadyH.nil
  go_simp
  go_wp2_with fail
  (refine (LA.out _).mono ?_; rintro e w23 ⟨rfl, hb23⟩)
  go_wp2_with fail
  refine hK.out _ _ ?hSn225 (fun hHeld2 => ?rest225)
  case hSn225 => (first | with_reducible exact R.drew | with_reducible exact hHeld.below hb20 | with_reducible exact hHeld.below hb21 | with_reducible exact hHeld.below hb22 | with_reducible exact hHeld.below hb23 | with_reducible exact hHeld.below hb24 | with_reducible exact hHeld.below hb25 | with_reducible exact hHeld.below hb26 | with_reducible exact hHeld.below hb27 | with_reducible exact hHeld.below hb28 | with_reducible exact hHeld.below hb29 | with_reducible exact hHeld.below hb30)
  clear hK K hHeld
  have hHeld := hHeld2
  clear hHeld2
  try simp only [Act.put, List.setIfInBounds_toArray, List.set_cons_zero, List.set_cons_succ]
  refine wpAnyH_ready (rs := [25]) (by kernel_rfl) (by simp) ?rdy226
  refine AllReadyH.cons (List.getElem?_toArray.trans rfl) (fun K hK => ?stp226) AllReadyH.nil
  go_simp
  go_wp2_with fail
  (refine (RL.out _).mono ?_; rintro e w24 ⟨rfl, hb24⟩)
  go_wp2_with fail
  refine hK.out _ _ ?hSn226 (fun hHeld2 => ?rest226)
  case hSn226 => (first | with_reducible exact R.drew | with_reducible exact hHeld.below hb20 | with_reducible exact hHeld.below hb21 | with_reducible exact hHeld.below hb22 | with_reducible exact hHeld.below hb23 | with_reducible exact hHeld.below hb24 | with_reducible exact hHeld.below hb25 | with_reducible exact hHeld.below hb26 | with_reducible exact hHeld.below hb27 | with_reducible exact hHeld.below hb28 | with_reducible exact hHeld.below hb29 | with_reducible exact hHeld.below hb30)
  clear hK K hHeld
  have hHeld := hHeld2
  clear hHeld2
  try simp only [Act.put, List.setIfInBounds_toArray, List.set_cons_zero, List.set_cons_succ]
  refine wpAnyH_take (i := 26) (oi := _) (v := ?v227) (List.getElem?_toArray.trans rfl) (by kernel_rfl) (by kernel_rfl) (by kernel_rfl) (fun _ _ _ h => h) (Or.inl ⟨by rfl, ?hy227⟩) (by assumption) ?rest227
  case hy227 => (intro wq hSw; (try simp only [Two, HB] at hSw); go_simp; try with_reducible rfl)
  try simp only [Act.put, List.setIfInBounds_toArray, List.set_cons_zero, List.set_cons_succ]
  refine wpAnyH_take (i := 27) (oi := _) (v := ?v228) (List.getElem?_toArray.trans rfl) (by kernel_rfl) (by kernel_rfl) (by kernel_rfl) (fun _ _ _ h => h) (Or.inl ⟨by rfl, ?hy228⟩) (by assumption) ?rest228
  case hy228 => (intro wq hSw; (try simp only [Two, HB] at hSw); go_simp; try with_reducible rfl)
  try simp only [Act.put, List.setIfInBounds_toArray, List.set_cons_zero, List.set_cons_succ]
  refine wpAnyH_take (i := 28) (oi := _) (v := ?v229) (List.getElem?_toArray.trans rfl) (by kernel_rfl) (by kernel_rfl) (by kernel_rfl) (fun _ _ _ h => h) (Or.inl ⟨by rfl, ?hy229⟩) (by assumption) ?rest229
  case hy229 => (intro wq hSw; (try simp only [Two, HB] at hSw); go_simp; try with_reducible rfl)
  try simp only [Act.put, List.setIfInBounds_toArray, List.set_cons_zero, List.set_cons_succ]
  refine wpAnyH_take (i := 29) (oi := _) (v := ?v230) (List.getElem?_toArray.trans rfl) (by kernel_rfl) (by kernel_rfl) (by kernel_rfl) (fun _ _ _ h => h) (Or.inl ⟨by rfl, ?hy230⟩) (by assumption) ?rest230
  case hy230 => (intro wq hSw; (try simp only [Two, HB] at hSw); go_simp; try with_reducible rfl)
  try simp only [Act.put, List.setIfInBounds_toArray, List.set_cons_zero, List.set_cons_succ]
  refine wpAnyH_take (i := 30) (oi := _) (v := ?v231) (List.getElem?_toArray.trans rfl) (by kernel_rfl) (by kernel_rfl) (by kernel_rfl) (fun _ _ _ h => h) (Or.inl ⟨by rfl, ?hy231⟩) (by assumption) ?rest231
  case hy231 => (intro wq hSw; (try simp only [Two, HB] at hSw); go_simp; try with_reducible rfl)
  try simp only [Act.put, List.setIfInBounds_toArray, List.set_cons_zero, List.set_cons_succ]
  refine wpAnyH_take (i := 32) (oi := _) (v := ?v232) (List.getElem?_toArray.trans rfl) (by kernel_rfl) (by kernel_rfl) (by kernel_rfl) (fun _ _ _ h => h) (Or.inl ⟨by rfl, ?hy232⟩) (by assumption) ?rest232
  case hy232 => (intro wq hSw; (try simp only [Two, HB] at hSw); go_simp; try with_reducible rfl)
  try simp only [Act.put, List.setIfInBounds_toArray, List.set_cons_zero, List.set_cons_succ]
  refine wpAnyH_take (i := 33) (oi := _) (v := ?v233) (List.getElem?_toArray.trans rfl) (by kernel_rfl) (by kernel_rfl) (by kernel_rfl) (fun _ _ _ h => h) (Or.inl ⟨by rfl, ?hy233⟩) (by assumption) ?rest233
  case hy233 => (intro wq hSw; (try simp only [Two, HB] at hSw); go_simp; try with_reducible rfl)
  try simp only [Act.put, List.setIfInBounds_toArray, List.set_cons_zero, List.set_cons_succ]
  refine wpAnyH_ready (rs := [31]) (by kernel_rfl) (by simp) ?rdy234
  refine AllReadyH.cons (List.getElem?_toArray.trans rfl) (fun K hK => ?stp234) AllReadyH.nil
  go_simp
  go_wp2_with fail
  (refine (H1.out _).mono ?_; rintro e w25 ⟨rfl, hb25⟩)
  go_wp2_with fail
  refine hK.out _ _ ?hSn234 (fun hHeld2 => ?rest234)
  case hSn234 => (first | with_reducible exact R.drew | with_reducible exact hHeld.below hb20 | with_reducible exact hHeld.below hb21 | with_reducible exact hHeld.below hb22 | with_reducible exact hHeld.below hb23 | with_reducible exact hHeld.below hb24 | with_reducible exact hHeld.below hb25 | with_reducible exact hHeld.below hb26 | with_reducible exact hHeld.below hb27 | with_reducible exact hHeld.below hb28 | with_reducible exact hHeld.below hb29 | with_reducible exact hHeld.below hb30)
  clear hK K hHeld
  have hHeld := hHeld2
  clear hHeld2
  try simp only [Act.put, List.setIfInBounds_toArray, List.set_cons_zero, List.set_cons_succ]
  refine wpAnyH_ready (rs := [34]) (by kernel_rfl) (by simp) ?rdy235
  refine AllReadyH.cons (List.getElem?_toArray.trans rfl) (fun K hK => ?stp235) AllReadyH.nil
  go_simp
  go_wp2_with fail
  (refine (H2.out _).mono ?_; rintro e w26 ⟨rfl, hb26⟩)
  go_wp2_with fail
  refine hK.out _ _ ?hSn235 (fun hHeld2 => ?rest235)
  case hSn235 => (first | with_reducible exact R.drew | with_reducible exact hHeld.below hb20 | with_reducible exact hHeld.below hb21 | with_reducible exact hHeld.below hb22 | with_reducible exact hHeld.below hb23 | with_reducible exact hHeld.below hb24 | with_reducible exact hHeld.below hb25 | with_reducible exact hHeld.below hb26 | with_reducible exact hHeld.below hb27 | with_reducible exact hHeld.below hb28 | with_reducible exact hHeld.below hb29 | with_reducible exact hHeld.below hb30)
  clear hK K hHeld
  have hHeld := hHeld2
  clear hHeld2
  try simp only [Act.put, List.setIfInBounds_toArray, List.set_cons_zero, List.set_cons_succ]
  refine wpAnyH_take (i := 35) (oi := _) (v := ?v236) (List.getElem?_toArray.trans rfl) (by kernel_rfl) (by kernel_rfl) (by kernel_rfl) (fun _ _ _ h => h) (Or.inl ⟨by rfl, ?hy236⟩) (by assumption) ?rest236
  case hy236 => (intro wq hSw; (try simp only [Two, HB] at hSw); go_simp; try with_reducible rfl)
  try simp only [Act.put, List.setIfInBounds_toArray, List.set_cons_zero, List.set_cons_succ]
  refine wpAnyH_take (i := 36) (oi := _) (v := ?v237) (List.getElem?_toArray.trans rfl) (by kernel_rfl) (by kernel_rfl) (by kernel_rfl) (fun _ _ _ h => h) (Or.inl ⟨by rfl, ?hy237⟩) (by assumption) ?rest237
  case hy237 => (intro wq hSw; (try simp only [Two, HB] at hSw); go_simp; try with_reducible rfl)
  try simp only [Act.put, List.setIfInBounds_toArray, List.set_cons_zero, List.set_cons_succ]
  refine wpAnyH_take (i := 37) (oi := _) (v := ?v238) (List.getElem?_toArray.trans rfl) (by kernel_rfl) (by kernel_rfl) (by kernel_rfl) (fun _ _ _ h => h) (Or.inl ⟨by rfl, ?hy238⟩) (by assumption) ?rest238
  case hy238 => (intro wq hSw; (try simp only [Two, HB] at hSw); go_simp; try with_reducible rfl)
  try simp only [Act.put, List.setIfInBounds_toArray, List.set_cons_zero, List.set_cons_succ]
  refine wpAnyH_take (i := 38) (oi := _) (v := ?v239) (List.getElem?_toArray.trans rfl) (by kernel_rfl) (by kernel_rfl) (by kernel_rfl) (fun _ _ _ h => h) (Or.inl ⟨by rfl, ?hy239⟩) (by assumption) ?rest239
  case hy239 => (intro wq hSw; (try simp only [Two, HB] at hSw); go_simp; try with_reducible rfl)
  try simp only [Act.put, List.setIfInBounds_toArray, List.set_cons_zero, List.set_cons_succ]
  refine wpAnyH_take (i := 39) (oi := _) (v := ?v240) (List.getElem?_toArray.trans rfl) (by kernel_rfl) (by kernel_rfl) (by kernel_rfl) (fun _ _ _ h => h) (Or.inl ⟨by rfl, ?hy240⟩) (by assumption) ?rest240
  case hy240 => (intro wq hSw; (try simp only [Two, HB] at hSw); go_simp; try with_reducible rfl)
  try simp only [Act.put, List.setIfInBounds_toArray, List.set_cons_zero, List.set_cons_succ]
  refine wpAnyH_take (i := 41) (oi := _) (v := ?v241) (List.getElem?_toArray.trans rfl) (by kernel_rfl) (by kernel_rfl) (by kernel_rfl) (fun _ _ _ h => h) (Or.inl ⟨by rfl, ?hy241⟩) (by assumption) ?rest241
  case hy241 => (intro wq hSw; (try simp only [Two, HB] at hSw); go_simp; try with_reducible rfl)
  try simp only [Act.put, List.setIfInBounds_toArray, List.set_cons_zero, List.set_cons_succ]
  refine wpAnyH_take (i := 42) (oi := _) (v := ?v242) (List.getElem?_toArray.trans rfl) (by kernel_rfl) (by kernel_rfl) (by kernel_rfl) (fun _ _ _ h => h) (Or.inl ⟨by rfl, ?hy242⟩) (by assumption) ?rest242
  case hy242 => (intro wq hSw; (try simp only [Two, HB] at hSw); go_simp; try with_reducible rfl)
  try simp only [Act.put, List.setIfInBounds_toArray, List.set_cons_zero, List.set_cons_succ]
  refine wpAnyH_ready (rs := [40]) (by kernel_rfl) (by simp) ?rdy243
  refine AllReadyH.cons (List.getElem?_toArray.trans rfl) (fun K hK => ?stp243) AllReadyH.nil
  go_simp
  go_wp2_with fail
  (refine (W1.out _).mono ?_; rintro e w27 ⟨rfl, hb27⟩)
  go_wp2_with fail
  refine hK.out _ _ ?hSn243 (fun hHeld2 => ?rest243)
  case hSn243 => (first | with_reducible exact R.drew | with_reducible exact hHeld.below hb20 | with_reducible exact hHeld.below hb21 | with_reducible exact hHeld.below hb22 | with_reducible exact hHeld.below hb23 | with_reducible exact hHeld.below hb24 | with_reducible exact hHeld.below hb25 | with_reducible exact hHeld.below hb26 | with_reducible exact hHeld.below hb27 | with_reducible exact hHeld.below hb28 | with_reducible exact hHeld.below hb29 | with_reducible exact hHeld.below hb30)
  clear hK K hHeld
  have hHeld := hHeld2
  clear hHeld2
  try simp only [Act.put, List.setIfInBounds_toArray, List.set_cons_zero, List.set_cons_succ]
  refine wpAnyH_ready (rs := [43]) (by kernel_rfl) (by simp) ?rdy244
  refine AllReadyH.cons (List.getElem?_toArray.trans rfl) (fun K hK => ?stp244) AllReadyH.nil
  go_simp
  go_wp2_with fail
  (refine (W2.out _).mono ?_; rintro e w28 ⟨rfl, hb28⟩)
  go_wp2_with fail
  refine hK.out _ _ ?hSn244 (fun hHeld2 => ?rest244)
  case hSn244 => (first | with_reducible exact R.drew | with_reducible exact hHeld.below hb20 | with_reducible exact hHeld.below hb21 | with_reducible exact hHeld.below hb22 | with_reducible exact hHeld.below hb23 | with_reducible exact hHeld.below hb24 | with_reducible exact hHeld.below hb25 | with_reducible exact hHeld.below hb26 | with_reducible exact hHeld.below hb27 | with_reducible exact hHeld.below hb28 | with_reducible exact hHeld.below hb29 | with_reducible exact hHeld.below hb30)
  clear hK K hHeld
  have hHeld := hHeld2
  clear hHeld2
  try simp only [Act.put, List.setIfInBounds_toArray, List.set_cons_zero, List.set_cons_succ]
  refine wpAnyH_take (i := 44) (oi := _) (v := ?v245) (List.getElem?_toArray.trans rfl) (by kernel_rfl) (by kernel_rfl) (by kernel_rfl) (fun _ _ _ h => h) (Or.inl ⟨by rfl, ?hy245⟩) (by assumption) ?rest245
  case hy245 => (intro wq hSw; (try simp only [Two, HB] at hSw); go_simp; try with_reducible rfl)
  try simp only [Act.put, List.setIfInBounds_toArray, List.set_cons_zero, List.set_cons_succ]
  refine wpAnyH_take (i := 45) (oi := _) (v := ?v246) (List.getElem?_toArray.trans rfl) (by kernel_rfl) (by kernel_rfl) (by kernel_rfl) (fun _ _ _ h => h) (Or.inl ⟨by rfl, ?hy246⟩) (by assumption) ?rest246
  case hy246 => (intro wq hSw; (try simp only [Two, HB] at hSw); go_simp; try with_reducible rfl)
  try simp only [Act.put, List.setIfInBounds_toArray, List.set_cons_zero, List.set_cons_succ]
  refine wpAnyH_take (i := 46) (oi := _) (v := ?v247) (List.getElem?_toArray.trans rfl) (by kernel_rfl) (by kernel_rfl) (by kernel_rfl) (fun _ _ _ h => h) (Or.inl ⟨by rfl, ?hy247⟩) (by assumption) ?rest247
  case hy247 => (intro wq hSw; (try simp only [Two, HB] at hSw); go_simp; try with_reducible rfl)
  try simp only [Act.put, List.setIfInBounds_toArray, List.set_cons_zero, List.set_cons_succ]
  refine wpAnyH_take (i := 47) (oi := _) (v := ?v248) (List.getElem?_toArray.trans rfl) (by kernel_rfl) (by kernel_rfl) (by kernel_rfl) (fun _ _ _ h => h) (Or.inl ⟨by rfl, ?hy248⟩) (by assumption) ?rest248
  case hy248 => (intro wq hSw; (try simp only [Two, HB] at hSw); go_simp; try with_reducible rfl)
  try simp only [Act.put, List.setIfInBounds_toArray, List.set_cons_zero, List.set_cons_succ]
  refine wpAnyH_take (i := 48) (oi := _) (v := ?v249) (List.getElem?_toArray.trans rfl) (by kernel_rfl) (by kernel_rfl) (by kernel_rfl) (fun _ _ _ h => h) (Or.inl ⟨by rfl, ?hy249⟩) (by assumption) ?rest249
  case hy249 => (intro wq hSw; (try simp only [Two, HB] at hSw); go_simp; try with_reducible rfl)
  try simp only [Act.put, List.setIfInBounds_toArray, List.set_cons_zero, List.set_cons_succ]
  refine wpAnyH_take (i := 50) (oi := _) (v := ?v250) (List.getElem?_toArray.trans rfl) (by kernel_rfl) (by kernel_rfl) (by kernel_rfl) (fun _ _ _ h => h) (Or.inl ⟨by rfl, ?hy250⟩) (by assumption) ?rest250
  case hy250 => (intro wq hSw; (try simp only [Two, HB] at hSw); go_simp; try with_reducible rfl)
  try simp only [Act.put, List.setIfInBounds_toArray, List.set_cons_zero, List.set_cons_succ]
  refine wpAnyH_take (i := 51) (oi := _) (v := ?v251) (List.getElem?_toArray.trans rfl) (by kernel_rfl) (by kernel_rfl) (by kernel_rfl) (fun _ _ _ h => h) (Or.inl ⟨by rfl, ?hy251⟩) (by assumption) ?rest251
  case hy251 => (intro wq hSw; (try simp only [Two, HB] at hSw); go_simp; try with_reducible rfl)
  try simp only [Act.put, List.setIfInBounds_toArray, List.set_cons_zero, List.set_cons_succ]
  refine wpAnyH_ready (rs := [49]) (by kernel_rfl) (by simp) ?rdy252
  refine AllReadyH.cons (List.getElem?_toArray.trans rfl) (fun K hK => ?stp252) AllReadyH.nil
  go_simp
  go_wp2_with fail
  (refine (O1.out _).mono ?_; rintro e w29 ⟨rfl, hb29⟩)
  go_wp2_with fail
  refine hK.out _ _ ?hSn252 (fun hHeld2 => ?rest252)
  case hSn252 => (first | with_reducible exact R.drew | with_reducible exact hHeld.below hb20 | with_reducible exact hHeld.below hb21 | with_reducible exact hHeld.below hb22 | with_reducible exact hHeld.below hb23 | with_reducible exact hHeld.below hb24 | with_reducible exact hHeld.below hb25 | with_reducible exact hHeld.below hb26 | with_reducible exact hHeld.below hb27 | with_reducible exact hHeld.below hb28 | with_reducible exact hHeld.below hb29 | with_reducible exact hHeld.below hb30)
  clear hK K hHeld
  have hHeld := hHeld2
  clear hHeld2
  try simp only [Act.put, List.setIfInBounds_toArray, List.set_cons_zero, List.set_cons_succ]
  refine wpAnyH_ready (rs := [52]) (by kernel_rfl) (by simp) ?rdy253
  refine AllReadyH.cons (List.getElem?_toArray.trans rfl) (fun K hK => ?stp253) AllReadyH.nil
  go_simp
  go_wp2_with fail
  (refine (O2.out _).mono ?_; rintro e w30 ⟨rfl, hb30⟩)
  go_wp2_with fail
  refine hK.out _ _ ?hSn253 (fun hHeld2 => ?rest253)
  case hSn253 => (first | with_reducible exact R.drew | with_reducible exact hHeld.below hb20 | with_reducible exact hHeld.below hb21 | with_reducible exact hHeld.below hb22 | with_reducible exact hHeld.below hb23 | with_reducible exact hHeld.below hb24 | with_reducible exact hHeld.below hb25 | with_reducible exact hHeld.below hb26 | with_reducible exact hHeld.below hb27 | with_reducible exact hHeld.below hb28 | with_reducible exact hHeld.below hb29 | with_reducible exact hHeld.below hb30)
  clear hK K hHeld
  have hHeld := hHeld2
  clear hHeld2
  try simp only [Act.put, List.setIfInBounds_toArray, List.set_cons_zero, List.set_cons_succ]
  refine wpAnyH_take (i := 53) (oi := _) (v := ?v254) (List.getElem?_toArray.trans rfl) (by kernel_rfl) (by kernel_rfl) (by kernel_rfl) (fun _ _ _ h => h) (Or.inl ⟨by rfl, ?hy254⟩) (by assumption) ?rest254
  case hy254 => (intro wq hSw; (try simp only [Two, HB] at hSw); go_simp; try with_reducible rfl)
  try simp only [Act.put, List.setIfInBounds_toArray, List.set_cons_zero, List.set_cons_succ]
  refine wpAnyH_take (i := 54) (oi := _) (v := ?v255) (List.getElem?_toArray.trans rfl) (by kernel_rfl) (by kernel_rfl) (by kernel_rfl) (fun _ _ _ h => h) (Or.inl ⟨by rfl, ?hy255⟩) (by assumption) ?rest255
  case hy255 => (intro wq hSw; (try simp only [Two, HB] at hSw); go_simp; try with_reducible rfl)
  try simp only [Act.put, List.setIfInBounds_toArray, List.set_cons_zero, List.set_cons_succ]
  refine wpAnyH_take (i := 55) (oi := _) (v := ?v256) (List.getElem?_toArray.trans rfl) (by kernel_rfl) (by kernel_rfl) (by kernel_rfl) (fun _ _ _ h => h) (Or.inl ⟨by rfl, ?hy256⟩) (by assumption) ?rest256
  case hy256 => (intro wq hSw; (try simp only [Two, HB] at hSw); go_simp; try with_reducible rfl)
  try simp only [Act.put, List.setIfInBounds_toArray, List.set_cons_zero, List.set_cons_succ]
  refine wpAnyH_done (by kernel_rfl) ?fin200 _
  go_wp2
  go_ret
  exact ⟨by first | rfl | simp, hHeld.last⟩

theorem has_walk {v u s : Bool} {ph pl b qh ql c ah al k : Int} {n m a : Nat} (hp : IsNum ph pl n) (hq : IsNum qh ql m) (ha : IsNum ah al a) (w : World) (hL : LW w)
    (aw : ∀ w, LW w → Calls Tryz.prog 7 #[] w fun e w' => e = .returned (.bool true) ∧ Below w.heap.size w w') :
    Calls Tryz.prog 3 #[pv v ph pl b, pv u qh ql c, av s ah al, .int .i64 k] w fun e w' => e = .returned (.bool true) ∧ Below w.heap.size w w' := by
  cases hk : okP v n b
  · exact has_walk_no hp hq ha hk w hL aw
  · exact has_walk_ok hp hq ha hk w hL aw
end Go.Proofs.YtbecaepagachpaaGreatDoor
