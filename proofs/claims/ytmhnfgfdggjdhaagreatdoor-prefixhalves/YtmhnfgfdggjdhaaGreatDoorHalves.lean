/-
  The walk of PrefixHalves.
-/
import Derived.Test.YtmhnfgfdggjdhaaGreatDoorPfx8
import Derived.Test.YtmhnfgfdggjdhaaGreatDoorRef3d
namespace Go.Proofs.YtmhnfgfdggjdhaaGreatDoor
open Go.ChangeShapes Go.WideShapes Go.ChangeAt Go.RowKit
set_option linter.unusedVariables false
set_option linter.unusedSimpArgs false

/-- What the law keeps: the prefix, the address, the halves. -/
def HV (w : World) (B : Nat) (v : Bool) (ph pl b : Int) (s : Bool) (ah al : Int) (lv : Bool) (lh ll lb : Int) (hv : Bool) (hh hl hb : Int) (wx : World) : Prop :=
  (wx.cell? ⟨w.heap.size, 0, none⟩ = some (.bool v) ∧ wx.cell? ⟨w.heap.size, 1, none⟩ = some (.int .u64 ph) ∧ wx.cell? ⟨w.heap.size, 2, none⟩ = some (.int .u64 pl) ∧ wx.cell? ⟨w.heap.size, 3, none⟩ = some (.int .i64 b) ∧ wx.cell? ⟨w.heap.size + 1, 0, none⟩ = some (.bool s) ∧ wx.cell? ⟨w.heap.size + 1, 1, none⟩ = some (.int .u64 ah) ∧ wx.cell? ⟨w.heap.size + 1, 2, none⟩ = some (.int .u64 al) ∧ wx.cell? ⟨B, 0, none⟩ = some (.bool lv) ∧ wx.cell? ⟨B, 1, none⟩ = some (.int .u64 lh) ∧ wx.cell? ⟨B, 2, none⟩ = some (.int .u64 ll) ∧ wx.cell? ⟨B, 3, none⟩ = some (.int .i64 lb) ∧ wx.cell? ⟨B + 1, 0, none⟩ = some (.bool hv) ∧ wx.cell? ⟨B + 1, 1, none⟩ = some (.int .u64 hh) ∧ wx.cell? ⟨B + 1, 2, none⟩ = some (.int .u64 hl) ∧ wx.cell? ⟨B + 1, 3, none⟩ = some (.int .i64 hb)) ∧ Blk wx w.heap.size #[.bool v, .int .u64 ph, .int .u64 pl, .int .i64 b] 28 ∧ Blk wx (w.heap.size + 1) #[.bool s, .int .u64 ah, .int .u64 al] 26 ∧ Blk wx B #[.bool lv, .int .u64 lh, .int .u64 ll, .int .i64 lb] 28 ∧ Blk wx (B + 1) #[.bool hv, .int .u64 hh, .int .u64 hl, .int .i64 hb] 28 ∧ Below w.heap.size w wx

theorem HV.of {w : World} {B : Nat} {v : Bool} {ph pl b : Int} {s : Bool} {ah al : Int} {lv : Bool} {lh ll lb : Int} {hv : Bool} {hh hl hb : Int} {wx : World} (x : Blk wx w.heap.size #[.bool v, .int .u64 ph, .int .u64 pl, .int .i64 b] 28 ∧ Blk wx (w.heap.size + 1) #[.bool s, .int .u64 ah, .int .u64 al] 26 ∧ Blk wx B #[.bool lv, .int .u64 lh, .int .u64 ll, .int .i64 lb] 28 ∧ Blk wx (B + 1) #[.bool hv, .int .u64 hh, .int .u64 hl, .int .i64 hb] 28) (y : Below w.heap.size w wx) : HV w B v ph pl b s ah al lv lh ll lb hv hh hl hb wx :=
  ⟨⟨x.1.cell 0, x.1.cell 1, x.1.cell 2, x.1.cell 3, x.2.1.cell 0, x.2.1.cell 1, x.2.1.cell 2, x.2.2.1.cell 0, x.2.2.1.cell 1, x.2.2.1.cell 2, x.2.2.1.cell 3, x.2.2.2.cell 0, x.2.2.2.cell 1, x.2.2.2.cell 2, x.2.2.2.cell 3⟩, x.1, x.2.1, x.2.2.1, x.2.2.2, y⟩

theorem HV.drew {w : World} {B : Nat} {v : Bool} {ph pl b : Int} {s : Bool} {ah al : Int} {lv : Bool} {lh ll lb : Int} {hv : Bool} {hh hl hb : Int} {wx : World} (k : HV w B v ph pl b s ah al lv lh ll lb hv hh hl hb wx) : HV w B v ph pl b s ah al lv lh ll lb hv hh hl hb wx.drew := ⟨k.1, k.2.1, k.2.2.1, k.2.2.2.1, k.2.2.2.2.1, k.2.2.2.2.2.drew⟩

theorem HV.below {w : World} {B : Nat} {v : Bool} {ph pl b : Int} {s : Bool} {ah al : Int} {lv : Bool} {lh ll lb : Int} {hv : Bool} {hh hl hb : Int} {wx w1 : World} (k : HV w B v ph pl b s ah al lv lh ll lb hv hh hl hb wx) (e : Below wx.heap.size wx w1) : HV w B v ph pl b s ah al lv lh ll lb hv hh hl hb w1 :=
  HV.of ⟨k.2.1.below e, k.2.2.1.below e, k.2.2.2.1.below e, k.2.2.2.2.1.below e⟩ (k.2.2.2.2.2.trans (e.mono k.2.2.2.2.2.size))

/-- The law's arguments. -/
def HA (w : World) (v : Bool) (ph pl b : Int) (s : Bool) (ah al : Int) (wx : World) : Prop := Blk wx w.heap.size #[.bool v, .int .u64 ph, .int .u64 pl, .int .i64 b] 28 ∧ Blk wx (w.heap.size + 1) #[.bool s, .int .u64 ah, .int .u64 al] 26 ∧ Below w.heap.size w wx

theorem HA.below {w : World} {v : Bool} {ph pl b : Int} {s : Bool} {ah al : Int} {wx w1 : World} (k : HA w v ph pl b s ah al wx) (e : Below wx.heap.size wx w1) : HA w v ph pl b s ah al w1 := ⟨k.1.below e, k.2.1.below e, k.2.2.trans (e.mono k.2.2.size)⟩

theorem HA.start (w : World) (v : Bool) (ph pl b : Int) (s : Bool) (ah al : Int) : HA w v ph pl b s ah al ((w.alloc (.cells #[.bool v, .int .u64 ph, .int .u64 pl, .int .i64 b] 28)).alloc (.cells #[.bool s, .int .u64 ah, .int .u64 al] 26)) :=
  ⟨(Blk.new _ _ _).alloc _, by simpa using Blk.new (w.alloc (.cells #[.bool v, .int .u64 ph, .int .u64 pl, .int .i64 b] 28)) #[.bool s, .int .u64 ah, .int .u64 al] 26, by repeat (first | with_reducible exact Below.refl _ _ | with_reducible refine Below.drew ?_ | with_reducible refine Below.alloc ?_ (by first | omega | (simp <;> omega)) _ | with_reducible refine Below.setCell ?_ (by first | omega | (simp <;> omega)) _)⟩

theorem HA.halves {w : World} {v : Bool} {ph pl b : Int} {s : Bool} {ah al : Int} {wx : World} (k : HA w v ph pl b s ah al wx) (lv : Bool) (lh ll lb : Int) (hv : Bool) (hh hl hb : Int) : HV w wx.heap.size v ph pl b s ah al lv lh ll lb hv hh hl hb ((wx.alloc (.cells #[.bool lv, .int .u64 lh, .int .u64 ll, .int .i64 lb] 28)).alloc (.cells #[.bool hv, .int .u64 hh, .int .u64 hl, .int .i64 hb] 28)) :=
  HV.of ⟨(k.1.alloc _).alloc _, (k.2.1.alloc _).alloc _, (Blk.new _ _ _).alloc _, by simpa using Blk.new (wx.alloc (.cells #[.bool lv, .int .u64 lh, .int .u64 ll, .int .i64 lb] 28)) #[.bool hv, .int .u64 hh, .int .u64 hl, .int .i64 hb] 28⟩ ((k.2.2.alloc (Nat.le_of_lt k.1.lt) _).alloc (by have := k.1.lt; simp; omega) _)

set_option maxRecDepth 100000 in
set_option maxHeartbeats 1600000 in
theorem halves_wrong {v s : Bool} {ph pl b ah al : Int} {n a : Nat} (hp : IsNum ph pl n) (ha : IsNum ah al a) (hk : okP v n b = false) (w : World) (hL : LW w)
    (aw : ∀ w, LW w → Calls Tryz.prog 11 #[] w fun e w' => e = .returned (.bool true) ∧ Below w.heap.size w w') :
    Calls Tryz.prog 3 #[pv v ph pl b, av s ah al] w fun e w' => e = .returned (.bool true) ∧ Below w.heap.size w w' := by
  have hz := hL.sz
  have R0 := HA.start w v ph pl b s ah al
  have AW := aw _ (hL.of R0.2.2 hz)
  have CH : Hid (∀ w', Calls Tryz.prog 12 #[pv v ph pl b] w' fun e w1 => e = .returned (.tuple #[pv false 0 0 0, pv false 0 0 0, .int .i64 1]) ∧ Below w'.heap.size w' w1) := fun w' => half_arg hp hk w'
  have CR : Hid (∀ w', Calls Tryz.prog 13 #[pv v ph pl b] w' fun e w1 => e = .returned (.bool false) ∧ Below w'.heap.size w' w1) := fun w' => hk ▸ rpright_c hp w'
  clear hp ha hk hL aw
  go_enter Tryz.func3, Tryz.ntmps3
  go_wp2_with fail
  refine AW.mono ?_
  rintro e w1 ⟨rfl, hb1⟩
  have R1 := R0.below hb1
  obtain ⟨p0, p1, p2, p3, p4, p5, p6, p7, p8⟩ := R1.1.four
  clear AW R0 hb1
  go_wp2_with fail
  refine (CH.out _).mono ?_
  rintro e w2 ⟨rfl, hb2⟩
  have R := (R1.below hb2).halves false 0 0 0 false 0 0 0
  have F := R.1
  clear R1 hb2 CH p0 p1 p2 p3 p4 p5 p6 p7 p8
  go_wp2_with fail
  refine (CR.out _).mono ?_
  rintro e w3 ⟨rfl, hb3⟩
  replace R := R.below hb3
  replace F := R.1
  clear hb3 CR
  go_wp2
  go_ret
  exact ⟨by first | rfl | simp, R.2.2.2.2.2⟩

set_option maxRecDepth 100000 in
set_option maxHeartbeats 1600000 in
theorem halves_full {v s : Bool} {ph pl b ah al : Int} {n a : Nat} (hp : IsNum ph pl n) (ha : IsNum ah al a) (hk : okP v n b = true) (hW : widthA v = b) (w : World) (hL : LW w)
    (aw : ∀ w, LW w → Calls Tryz.prog 11 #[] w fun e w' => e = .returned (.bool true) ∧ Below w.heap.size w w') :
    Calls Tryz.prog 3 #[pv v ph pl b, av s ah al] w fun e w' => e = .returned (.bool true) ∧ Below w.heap.size w w' := by
  have hz := hL.sz
  have R0 := HA.start w v ph pl b s ah al
  have AW := aw _ (hL.of R0.2.2 hz)
  have CH : Hid (∀ w', Calls Tryz.prog 12 #[pv v ph pl b] w' fun e w1 => e = .returned (.tuple #[pv false 0 0 0, pv false 0 0 0, .int .i64 11]) ∧ Below w'.heap.size w' w1) := fun w' => half_over hp hk hW w'
  have CR : Hid (∀ w', Calls Tryz.prog 13 #[pv v ph pl b] w' fun e w1 => e = .returned (.bool true) ∧ Below w'.heap.size w' w1) := fun w' => hk ▸ rpright_c hp w'
  obtain ⟨ok, hok⟩ : ∃ ok, okA s a = ok := ⟨_, rfl⟩
  obtain ⟨hx, hhx⟩ : ∃ hx, hasB v n b s a = hx := ⟨_, rfl⟩
  obtain ⟨l1, l2⟩ := lastN_small hk hp.lt
  obtain ⟨zh, zl, hzl⟩ := IsNum.ex l1
  obtain ⟨k1, hk1⟩ : ∃ k1, k1 = cmpA v s n a := ⟨_, rfl⟩
  obtain ⟨k2, hk2⟩ : ∃ k2, k2 = cmpA s v a (lastN v n b) := ⟨_, rfl⟩
  have CA : Hid (∀ w', Calls Tryz.prog 14 #[av s ah al] w' fun e w1 => e = .returned (.bool ok) ∧ Below w'.heap.size w' w1) := fun w' => hok ▸ aright_c ha w'
  have CF : Hid (∀ w', Calls Tryz.prog 16 #[pv v ph pl b] w' fun e w1 => e = .returned (av v ph pl) ∧ Below w'.heap.size w' w1) := fun w' => first_c hp (Or.inl ⟨hk, rfl, rfl, rfl⟩) w'
  have CL : Hid (∀ w', Calls Tryz.prog 17 #[pv v ph pl b] w' fun e w1 => e = .returned (av v zh zl) ∧ Below w'.heap.size w' w1) := fun w' => last_ok hp hk hzl w'
  have CC1 : Hid (∀ w', Calls Tryz.prog 15 #[av v ph pl, av s ah al] w' fun e w1 => e = .returned (.int .i64 k1) ∧ Below w'.heap.size w' w1) := fun w' => by
    refine (acmp_c hp ha w').mono ?_
    rintro e w1 ⟨k', rfl, hk', hb'⟩
    exact ⟨by rw [hk', hk1], hb'⟩
  have CC2 : Hid (∀ w', Calls Tryz.prog 15 #[av s ah al, av v zh zl] w' fun e w1 => e = .returned (.int .i64 k2) ∧ Below w'.heap.size w' w1) := fun w' => by
    refine (acmp_c ha hzl w').mono ?_
    rintro e w1 ⟨k', rfl, hk', hb'⟩
    exact ⟨by rw [hk', hk2], hb'⟩
  have CX : Hid (∀ w', Calls Tryz.prog 18 #[pv v ph pl b, av s ah al] w' fun e w1 => e = .returned (.bool hx) ∧ Below w'.heap.size w' w1) := fun w' => hhx ▸ has_c hp ha w'
  have bh := between_has (s := s) (a := a) hk
  rw [hhx, hok, ← hk1, ← hk2] at bh
  have CS : Hid ((ok = false ∧ hx = false) ∨ (ok = true ∧ decide (k1 ≤ 0) = false ∧ hx = false) ∨ (ok = true ∧ decide (k1 ≤ 0) = true ∧ hx = decide (k2 ≤ 0))) := by
    cases ok
    · exact Or.inl ⟨rfl, bh⟩
    · cases hd : decide (k1 ≤ 0)
      · rw [hd] at bh; exact Or.inr (Or.inl ⟨rfl, rfl, bh⟩)
      · rw [hd] at bh; exact Or.inr (Or.inr ⟨rfl, rfl, bh⟩)
  have CW : Hid (∀ w', Calls Tryz.prog 19 #[av v ph pl] w' fun e w1 => e = .returned (.int .i64 b) ∧ Below w'.heap.size w' w1) := fun w' => width_lit v b hW ph pl w'
  clear hp ha hk hL aw hok hhx hk1 hk2 bh hW hzl l1 l2
  go_enter Tryz.func3, Tryz.ntmps3
  go_wp2_with fail
  refine AW.mono ?_
  rintro e w1 ⟨rfl, hb1⟩
  have R1 := R0.below hb1
  obtain ⟨p0, p1, p2, p3, p4, p5, p6, p7, p8⟩ := R1.1.four
  clear AW R0 hb1
  go_wp2_with fail
  refine (CH.out _).mono ?_
  rintro e w2 ⟨rfl, hb2⟩
  have R := (R1.below hb2).halves false 0 0 0 false 0 0 0
  have F := R.1
  clear R1 hb2 CH p0 p1 p2 p3 p4 p5 p6 p7 p8
  go_wp2_with fail
  refine (CR.out _).mono ?_
  rintro e w3 ⟨rfl, hb3⟩
  replace R := R.below hb3
  replace F := R.1
  clear hb3 CR
  go_upto_region 6 with fail
  go_cut [8] (fun t wc => t = .bool hx ∧ HV w w2.heap.size v ph pl b s ah al false 0 0 0 false 0 0 0 wc)
  case first =>
    rcases CS.out with ⟨rfl, rfl⟩ | ⟨rfl, hk1, rfl⟩ | ⟨rfl, hk1, hk2⟩
    · clear CF CC1 CL CC2
      refine wp_region_held_drew (S := (HV w w2.heap.size v ph pl b s ah al false 0 0 0 false 0 0 0)) (by kernel_rfl) ?hS100 (fun hHeld => ?rest100)
      case hS100 => (first | with_reducible exact R.drew | with_reducible exact hHeld.below hb4 | with_reducible exact hHeld.below hb5 | with_reducible exact hHeld.below hb6 | with_reducible exact hHeld.below hb7 | with_reducible exact hHeld.below hb8)
      refine wpAnyH_take (i := 0) (oi := _) (v := ?v101) (List.getElem?_toArray.trans rfl) (by kernel_rfl) (by kernel_rfl) (by kernel_rfl) (fun _ _ _ h => h) (Or.inl ⟨by rfl, ?hy101⟩) (by assumption) ?rest101
      case hy101 => (intro wq hSw; (try simp only [Two, HV] at hSw); go_simp; try with_reducible rfl)
      try simp only [Act.put, List.setIfInBounds_toArray, List.set_cons_zero, List.set_cons_succ]
      refine wpAnyH_ready (rs := [1]) (by kernel_rfl) (by simp) ?rdy102
      refine AllReadyH.cons (List.getElem?_toArray.trans rfl) (fun K hK => ?stp102) AllReadyH.nil
      go_simp
      go_wp2_with fail
      (refine (CA.out _).mono ?_; rintro e w4 ⟨rfl, hb4⟩)
      go_wp2_with fail
      refine hK.out _ _ ?hSn102 (fun hHeld2 => ?rest102)
      case hSn102 => (first | with_reducible exact R.drew | with_reducible exact hHeld.below hb4 | with_reducible exact hHeld.below hb5 | with_reducible exact hHeld.below hb6 | with_reducible exact hHeld.below hb7 | with_reducible exact hHeld.below hb8)
      clear hK K hHeld
      have hHeld := hHeld2
      clear hHeld2
      try simp only [Act.put, List.setIfInBounds_toArray, List.set_cons_zero, List.set_cons_succ]
      refine wpAnyH_take (i := 2) (oi := _) (v := ?v103) (List.getElem?_toArray.trans rfl) (by kernel_rfl) (by kernel_rfl) (by kernel_rfl) (fun _ _ _ h => h) (Or.inl ⟨by rfl, ?hy103⟩) (by assumption) ?rest103
      case hy103 => (intro wq hSw; (try simp only [Two, HV] at hSw); go_simp; try with_reducible rfl)
      try simp only [Act.put, List.setIfInBounds_toArray, List.set_cons_zero, List.set_cons_succ]
      refine wpAnyH_take (i := 3) (oi := _) (v := undef) (List.getElem?_toArray.trans rfl) (by kernel_rfl) (by kernel_rfl) (by kernel_rfl) (fun _ _ _ h => h) (Or.inr ⟨by rfl, rfl⟩) (by assumption) ?rest104
      try simp only [Act.put, List.setIfInBounds_toArray, List.set_cons_zero, List.set_cons_succ]
      refine wpAnyH_take (i := 4) (oi := _) (v := undef) (List.getElem?_toArray.trans rfl) (by kernel_rfl) (by kernel_rfl) (by kernel_rfl) (fun _ _ _ h => h) (Or.inr ⟨by rfl, rfl⟩) (by assumption) ?rest105
      try simp only [Act.put, List.setIfInBounds_toArray, List.set_cons_zero, List.set_cons_succ]
      refine wpAnyH_take (i := 5) (oi := _) (v := undef) (List.getElem?_toArray.trans rfl) (by kernel_rfl) (by kernel_rfl) (by kernel_rfl) (fun _ _ _ h => h) (Or.inr ⟨by rfl, rfl⟩) (by assumption) ?rest106
      try simp only [Act.put, List.setIfInBounds_toArray, List.set_cons_zero, List.set_cons_succ]
      refine wpAnyH_take (i := 6) (oi := _) (v := undef) (List.getElem?_toArray.trans rfl) (by kernel_rfl) (by kernel_rfl) (by kernel_rfl) (fun _ _ _ h => h) (Or.inr ⟨by rfl, rfl⟩) (by assumption) ?rest107
      try simp only [Act.put, List.setIfInBounds_toArray, List.set_cons_zero, List.set_cons_succ]
      refine wpAnyH_take (i := 7) (oi := _) (v := undef) (List.getElem?_toArray.trans rfl) (by kernel_rfl) (by kernel_rfl) (by kernel_rfl) (fun _ _ _ h => h) (Or.inr ⟨by rfl, rfl⟩) (by assumption) ?rest108
      try simp only [Act.put, List.setIfInBounds_toArray, List.set_cons_zero, List.set_cons_succ]
      refine wpAnyH_take (i := 8) (oi := _) (v := ?v109) (List.getElem?_toArray.trans rfl) (by kernel_rfl) (by kernel_rfl) (by kernel_rfl) (fun _ _ _ h => h) (Or.inl ⟨by rfl, ?hy109⟩) (by assumption) ?rest109
      case hy109 => (intro wq hSw; (try simp only [Two, HV] at hSw); go_simp; try with_reducible rfl)
      try simp only [Act.put, List.setIfInBounds_toArray, List.set_cons_zero, List.set_cons_succ]
      refine wpAnyH_take (i := 9) (oi := _) (v := ?v110) (List.getElem?_toArray.trans rfl) (by kernel_rfl) (by kernel_rfl) (by kernel_rfl) (fun _ _ _ h => h) (Or.inl ⟨by rfl, ?hy110⟩) (by assumption) ?rest110
      case hy110 => (intro wq hSw; (try simp only [Two, HV] at hSw); go_simp; try with_reducible rfl)
      try simp only [Act.put, List.setIfInBounds_toArray, List.set_cons_zero, List.set_cons_succ]
      refine wpAnyH_take (i := 10) (oi := _) (v := undef) (List.getElem?_toArray.trans rfl) (by kernel_rfl) (by kernel_rfl) (by kernel_rfl) (fun _ _ _ h => h) (Or.inr ⟨by rfl, rfl⟩) (by assumption) ?rest111
      try simp only [Act.put, List.setIfInBounds_toArray, List.set_cons_zero, List.set_cons_succ]
      refine wpAnyH_take (i := 11) (oi := _) (v := undef) (List.getElem?_toArray.trans rfl) (by kernel_rfl) (by kernel_rfl) (by kernel_rfl) (fun _ _ _ h => h) (Or.inr ⟨by rfl, rfl⟩) (by assumption) ?rest112
      try simp only [Act.put, List.setIfInBounds_toArray, List.set_cons_zero, List.set_cons_succ]
      refine wpAnyH_take (i := 12) (oi := _) (v := undef) (List.getElem?_toArray.trans rfl) (by kernel_rfl) (by kernel_rfl) (by kernel_rfl) (fun _ _ _ h => h) (Or.inr ⟨by rfl, rfl⟩) (by assumption) ?rest113
      try simp only [Act.put, List.setIfInBounds_toArray, List.set_cons_zero, List.set_cons_succ]
      refine wpAnyH_take (i := 13) (oi := _) (v := undef) (List.getElem?_toArray.trans rfl) (by kernel_rfl) (by kernel_rfl) (by kernel_rfl) (fun _ _ _ h => h) (Or.inr ⟨by rfl, rfl⟩) (by assumption) ?rest114
      try simp only [Act.put, List.setIfInBounds_toArray, List.set_cons_zero, List.set_cons_succ]
      refine wpAnyH_take (i := 14) (oi := _) (v := undef) (List.getElem?_toArray.trans rfl) (by kernel_rfl) (by kernel_rfl) (by kernel_rfl) (fun _ _ _ h => h) (Or.inr ⟨by rfl, rfl⟩) (by assumption) ?rest115
      try simp only [Act.put, List.setIfInBounds_toArray, List.set_cons_zero, List.set_cons_succ]
      refine wpAnyH_take (i := 15) (oi := _) (v := ?v116) (List.getElem?_toArray.trans rfl) (by kernel_rfl) (by kernel_rfl) (by kernel_rfl) (fun _ _ _ h => h) (Or.inl ⟨by rfl, ?hy116⟩) (by assumption) ?rest116
      case hy116 => (intro wq hSw; (try simp only [Two, HV] at hSw); go_simp; try with_reducible rfl)
      try simp only [Act.put, List.setIfInBounds_toArray, List.set_cons_zero, List.set_cons_succ]
      refine wpAnyH_take (i := 16) (oi := _) (v := ?v117) (List.getElem?_toArray.trans rfl) (by kernel_rfl) (by kernel_rfl) (by kernel_rfl) (fun _ _ _ h => h) (Or.inl ⟨by rfl, ?hy117⟩) (by assumption) ?rest117
      case hy117 => (intro wq hSw; (try simp only [Two, HV] at hSw); go_simp; try with_reducible rfl)
      try simp only [Act.put, List.setIfInBounds_toArray, List.set_cons_zero, List.set_cons_succ]
      refine wpAnyH_done (by kernel_rfl) ?fin100 _
      go_wp2_with fail
      go_meet
      case rel => exact ⟨by first | rfl | simp, hHeld⟩
    · clear CL CC2
      refine wp_region_held_drew (S := (HV w w2.heap.size v ph pl b s ah al false 0 0 0 false 0 0 0)) (by kernel_rfl) ?hS200 (fun hHeld => ?rest200)
      case hS200 => (first | with_reducible exact R.drew | with_reducible exact hHeld.below hb4 | with_reducible exact hHeld.below hb5 | with_reducible exact hHeld.below hb6 | with_reducible exact hHeld.below hb7 | with_reducible exact hHeld.below hb8)
      refine wpAnyH_take (i := 0) (oi := _) (v := ?v201) (List.getElem?_toArray.trans rfl) (by kernel_rfl) (by kernel_rfl) (by kernel_rfl) (fun _ _ _ h => h) (Or.inl ⟨by rfl, ?hy201⟩) (by assumption) ?rest201
      case hy201 => (intro wq hSw; (try simp only [Two, HV] at hSw); go_simp; try with_reducible rfl)
      try simp only [Act.put, List.setIfInBounds_toArray, List.set_cons_zero, List.set_cons_succ]
      refine wpAnyH_ready (rs := [1]) (by kernel_rfl) (by simp) ?rdy202
      refine AllReadyH.cons (List.getElem?_toArray.trans rfl) (fun K hK => ?stp202) AllReadyH.nil
      go_simp
      go_wp2_with fail
      (refine (CA.out _).mono ?_; rintro e w4 ⟨rfl, hb4⟩)
      go_wp2_with fail
      refine hK.out _ _ ?hSn202 (fun hHeld2 => ?rest202)
      case hSn202 => (first | with_reducible exact R.drew | with_reducible exact hHeld.below hb4 | with_reducible exact hHeld.below hb5 | with_reducible exact hHeld.below hb6 | with_reducible exact hHeld.below hb7 | with_reducible exact hHeld.below hb8)
      clear hK K hHeld
      have hHeld := hHeld2
      clear hHeld2
      try simp only [Act.put, List.setIfInBounds_toArray, List.set_cons_zero, List.set_cons_succ]
      refine wpAnyH_take (i := 2) (oi := _) (v := ?v203) (List.getElem?_toArray.trans rfl) (by kernel_rfl) (by kernel_rfl) (by kernel_rfl) (fun _ _ _ h => h) (Or.inl ⟨by rfl, ?hy203⟩) (by assumption) ?rest203
      case hy203 => (intro wq hSw; (try simp only [Two, HV] at hSw); go_simp; try with_reducible rfl)
      try simp only [Act.put, List.setIfInBounds_toArray, List.set_cons_zero, List.set_cons_succ]
      refine wpAnyH_take (i := 3) (oi := _) (v := ?v204) (List.getElem?_toArray.trans rfl) (by kernel_rfl) (by kernel_rfl) (by kernel_rfl) (fun _ _ _ h => h) (Or.inl ⟨by rfl, ?hy204⟩) (by assumption) ?rest204
      case hy204 => (intro wq hSw; (try simp only [Two, HV] at hSw); go_simp; try with_reducible rfl)
      try simp only [Act.put, List.setIfInBounds_toArray, List.set_cons_zero, List.set_cons_succ]
      refine wpAnyH_take (i := 5) (oi := _) (v := ?v205) (List.getElem?_toArray.trans rfl) (by kernel_rfl) (by kernel_rfl) (by kernel_rfl) (fun _ _ _ h => h) (Or.inl ⟨by rfl, ?hy205⟩) (by assumption) ?rest205
      case hy205 => (intro wq hSw; (try simp only [Two, HV] at hSw); go_simp; try with_reducible rfl)
      try simp only [Act.put, List.setIfInBounds_toArray, List.set_cons_zero, List.set_cons_succ]
      refine wpAnyH_ready (rs := [4]) (by kernel_rfl) (by simp) ?rdy206
      refine AllReadyH.cons (List.getElem?_toArray.trans rfl) (fun K hK => ?stp206) AllReadyH.nil
      go_simp
      go_wp2_with fail
      (refine (CF.out _).mono ?_; rintro e w5 ⟨rfl, hb5⟩)
      go_wp2_with fail
      refine hK.out _ _ ?hSn206 (fun hHeld2 => ?rest206)
      case hSn206 => (first | with_reducible exact R.drew | with_reducible exact hHeld.below hb4 | with_reducible exact hHeld.below hb5 | with_reducible exact hHeld.below hb6 | with_reducible exact hHeld.below hb7 | with_reducible exact hHeld.below hb8)
      clear hK K hHeld
      have hHeld := hHeld2
      clear hHeld2
      try simp only [Act.put, List.setIfInBounds_toArray, List.set_cons_zero, List.set_cons_succ]
      refine wpAnyH_ready (rs := [6]) (by kernel_rfl) (by simp) ?rdy207
      refine AllReadyH.cons (List.getElem?_toArray.trans rfl) (fun K hK => ?stp207) AllReadyH.nil
      go_simp
      go_wp2_with fail
      (refine (CC1.out _).mono ?_; rintro e w6 ⟨rfl, hb6⟩)
      go_wp2_with fail
      refine hK.out _ _ ?hSn207 (fun hHeld2 => ?rest207)
      case hSn207 => (first | with_reducible exact R.drew | with_reducible exact hHeld.below hb4 | with_reducible exact hHeld.below hb5 | with_reducible exact hHeld.below hb6 | with_reducible exact hHeld.below hb7 | with_reducible exact hHeld.below hb8)
      clear hK K hHeld
      have hHeld := hHeld2
      clear hHeld2
      try simp only [Act.put, List.setIfInBounds_toArray, List.set_cons_zero, List.set_cons_succ]
      refine wpAnyH_take (i := 7) (oi := _) (v := ?v208) (List.getElem?_toArray.trans rfl) (by kernel_rfl) (by kernel_rfl) (by kernel_rfl) (fun _ _ _ h => h) (Or.inl ⟨by rfl, ?hy208⟩) (by assumption) ?rest208
      case hy208 => (intro wq hSw; (try simp only [Two, HV] at hSw); go_simp; try with_reducible rfl)
      try simp only [Act.put, List.setIfInBounds_toArray, List.set_cons_zero, List.set_cons_succ]
      refine wpAnyH_take (i := 8) (oi := _) (v := ?v209) (List.getElem?_toArray.trans rfl) (by kernel_rfl) (by kernel_rfl) (by kernel_rfl) (fun _ _ _ h => h) (Or.inl ⟨by rfl, ?hy209⟩) (by assumption) ?rest209
      case hy209 => (intro wq hSw; (try simp only [Two, HV] at hSw); go_simp; try with_reducible rfl)
      try simp only [Act.put, List.setIfInBounds_toArray, List.set_cons_zero, List.set_cons_succ]
      refine wpAnyH_take (i := 9) (oi := _) (v := ?v210) (List.getElem?_toArray.trans rfl) (by kernel_rfl) (by kernel_rfl) (by kernel_rfl) (fun _ _ _ h => h) (Or.inl ⟨by rfl, ?hy210⟩) (by assumption) ?rest210
      case hy210 => (intro wq hSw; (try simp only [Two, HV] at hSw); go_simp; try with_reducible rfl)
      try simp only [Act.put, List.setIfInBounds_toArray, List.set_cons_zero, List.set_cons_succ]
      refine wpAnyH_take (i := 10) (oi := _) (v := undef) (List.getElem?_toArray.trans rfl) (by kernel_rfl) (by kernel_rfl) (by kernel_rfl) (fun _ _ _ h => h) (Or.inr ⟨by rfl, rfl⟩) (by assumption) ?rest211
      try simp only [Act.put, List.setIfInBounds_toArray, List.set_cons_zero, List.set_cons_succ]
      refine wpAnyH_take (i := 11) (oi := _) (v := undef) (List.getElem?_toArray.trans rfl) (by kernel_rfl) (by kernel_rfl) (by kernel_rfl) (fun _ _ _ h => h) (Or.inr ⟨by rfl, rfl⟩) (by assumption) ?rest212
      try simp only [Act.put, List.setIfInBounds_toArray, List.set_cons_zero, List.set_cons_succ]
      refine wpAnyH_take (i := 12) (oi := _) (v := undef) (List.getElem?_toArray.trans rfl) (by kernel_rfl) (by kernel_rfl) (by kernel_rfl) (fun _ _ _ h => h) (Or.inr ⟨by rfl, rfl⟩) (by assumption) ?rest213
      try simp only [Act.put, List.setIfInBounds_toArray, List.set_cons_zero, List.set_cons_succ]
      refine wpAnyH_take (i := 13) (oi := _) (v := undef) (List.getElem?_toArray.trans rfl) (by kernel_rfl) (by kernel_rfl) (by kernel_rfl) (fun _ _ _ h => h) (Or.inr ⟨by rfl, rfl⟩) (by assumption) ?rest214
      try simp only [Act.put, List.setIfInBounds_toArray, List.set_cons_zero, List.set_cons_succ]
      refine wpAnyH_take (i := 14) (oi := _) (v := undef) (List.getElem?_toArray.trans rfl) (by kernel_rfl) (by kernel_rfl) (by kernel_rfl) (fun _ _ _ h => h) (Or.inr ⟨by rfl, rfl⟩) (by assumption) ?rest215
      try simp only [Act.put, List.setIfInBounds_toArray, List.set_cons_zero, List.set_cons_succ]
      refine wpAnyH_take (i := 15) (oi := _) (v := ?v216) (List.getElem?_toArray.trans rfl) (by kernel_rfl) (by kernel_rfl) (by kernel_rfl) (fun _ _ _ h => h) (Or.inl ⟨by rfl, ?hy216⟩) (by assumption) ?rest216
      case hy216 => (intro wq hSw; (try simp only [Two, HV] at hSw); go_simp; try with_reducible rfl)
      try simp only [Act.put, List.setIfInBounds_toArray, List.set_cons_zero, List.set_cons_succ]
      refine wpAnyH_take (i := 16) (oi := _) (v := ?v217) (List.getElem?_toArray.trans rfl) (by kernel_rfl) (by kernel_rfl) (by kernel_rfl) (fun _ _ _ h => h) (Or.inl ⟨by rfl, ?hy217⟩) (by assumption) ?rest217
      case hy217 => (intro wq hSw; (try simp only [Two, HV] at hSw); go_simp; try with_reducible rfl)
      try simp only [Act.put, List.setIfInBounds_toArray, List.set_cons_zero, List.set_cons_succ]
      refine wpAnyH_done (by kernel_rfl) ?fin200 _
      go_wp2_with fail
      go_meet
      case rel => exact ⟨by first | rfl | simp, hHeld⟩
    · have hk2H : Hid (hx = decide (k2 ≤ 0)) := hk2
      clear hk2
      refine wp_region_held_drew (S := (HV w w2.heap.size v ph pl b s ah al false 0 0 0 false 0 0 0)) (by kernel_rfl) ?hS300 (fun hHeld => ?rest300)
      case hS300 => (first | with_reducible exact R.drew | with_reducible exact hHeld.below hb4 | with_reducible exact hHeld.below hb5 | with_reducible exact hHeld.below hb6 | with_reducible exact hHeld.below hb7 | with_reducible exact hHeld.below hb8)
      refine wpAnyH_take (i := 0) (oi := _) (v := ?v301) (List.getElem?_toArray.trans rfl) (by kernel_rfl) (by kernel_rfl) (by kernel_rfl) (fun _ _ _ h => h) (Or.inl ⟨by rfl, ?hy301⟩) (by assumption) ?rest301
      case hy301 => (intro wq hSw; (try simp only [Two, HV] at hSw); go_simp; try with_reducible rfl)
      try simp only [Act.put, List.setIfInBounds_toArray, List.set_cons_zero, List.set_cons_succ]
      refine wpAnyH_ready (rs := [1]) (by kernel_rfl) (by simp) ?rdy302
      refine AllReadyH.cons (List.getElem?_toArray.trans rfl) (fun K hK => ?stp302) AllReadyH.nil
      go_simp
      go_wp2_with fail
      (refine (CA.out _).mono ?_; rintro e w4 ⟨rfl, hb4⟩)
      go_wp2_with fail
      refine hK.out _ _ ?hSn302 (fun hHeld2 => ?rest302)
      case hSn302 => (first | with_reducible exact R.drew | with_reducible exact hHeld.below hb4 | with_reducible exact hHeld.below hb5 | with_reducible exact hHeld.below hb6 | with_reducible exact hHeld.below hb7 | with_reducible exact hHeld.below hb8)
      clear hK K hHeld
      have hHeld := hHeld2
      clear hHeld2
      try simp only [Act.put, List.setIfInBounds_toArray, List.set_cons_zero, List.set_cons_succ]
      refine wpAnyH_take (i := 2) (oi := _) (v := ?v303) (List.getElem?_toArray.trans rfl) (by kernel_rfl) (by kernel_rfl) (by kernel_rfl) (fun _ _ _ h => h) (Or.inl ⟨by rfl, ?hy303⟩) (by assumption) ?rest303
      case hy303 => (intro wq hSw; (try simp only [Two, HV] at hSw); go_simp; try with_reducible rfl)
      try simp only [Act.put, List.setIfInBounds_toArray, List.set_cons_zero, List.set_cons_succ]
      refine wpAnyH_take (i := 3) (oi := _) (v := ?v304) (List.getElem?_toArray.trans rfl) (by kernel_rfl) (by kernel_rfl) (by kernel_rfl) (fun _ _ _ h => h) (Or.inl ⟨by rfl, ?hy304⟩) (by assumption) ?rest304
      case hy304 => (intro wq hSw; (try simp only [Two, HV] at hSw); go_simp; try with_reducible rfl)
      try simp only [Act.put, List.setIfInBounds_toArray, List.set_cons_zero, List.set_cons_succ]
      refine wpAnyH_take (i := 5) (oi := _) (v := ?v305) (List.getElem?_toArray.trans rfl) (by kernel_rfl) (by kernel_rfl) (by kernel_rfl) (fun _ _ _ h => h) (Or.inl ⟨by rfl, ?hy305⟩) (by assumption) ?rest305
      case hy305 => (intro wq hSw; (try simp only [Two, HV] at hSw); go_simp; try with_reducible rfl)
      try simp only [Act.put, List.setIfInBounds_toArray, List.set_cons_zero, List.set_cons_succ]
      refine wpAnyH_ready (rs := [4]) (by kernel_rfl) (by simp) ?rdy306
      refine AllReadyH.cons (List.getElem?_toArray.trans rfl) (fun K hK => ?stp306) AllReadyH.nil
      go_simp
      go_wp2_with fail
      (refine (CF.out _).mono ?_; rintro e w5 ⟨rfl, hb5⟩)
      go_wp2_with fail
      refine hK.out _ _ ?hSn306 (fun hHeld2 => ?rest306)
      case hSn306 => (first | with_reducible exact R.drew | with_reducible exact hHeld.below hb4 | with_reducible exact hHeld.below hb5 | with_reducible exact hHeld.below hb6 | with_reducible exact hHeld.below hb7 | with_reducible exact hHeld.below hb8)
      clear hK K hHeld
      have hHeld := hHeld2
      clear hHeld2
      try simp only [Act.put, List.setIfInBounds_toArray, List.set_cons_zero, List.set_cons_succ]
      refine wpAnyH_ready (rs := [6]) (by kernel_rfl) (by simp) ?rdy307
      refine AllReadyH.cons (List.getElem?_toArray.trans rfl) (fun K hK => ?stp307) AllReadyH.nil
      go_simp
      go_wp2_with fail
      (refine (CC1.out _).mono ?_; rintro e w6 ⟨rfl, hb6⟩)
      go_wp2_with fail
      refine hK.out _ _ ?hSn307 (fun hHeld2 => ?rest307)
      case hSn307 => (first | with_reducible exact R.drew | with_reducible exact hHeld.below hb4 | with_reducible exact hHeld.below hb5 | with_reducible exact hHeld.below hb6 | with_reducible exact hHeld.below hb7 | with_reducible exact hHeld.below hb8)
      clear hK K hHeld
      have hHeld := hHeld2
      clear hHeld2
      try simp only [Act.put, List.setIfInBounds_toArray, List.set_cons_zero, List.set_cons_succ]
      refine wpAnyH_take (i := 7) (oi := _) (v := ?v308) (List.getElem?_toArray.trans rfl) (by kernel_rfl) (by kernel_rfl) (by kernel_rfl) (fun _ _ _ h => h) (Or.inl ⟨by rfl, ?hy308⟩) (by assumption) ?rest308
      case hy308 => (intro wq hSw; (try simp only [Two, HV] at hSw); go_simp; try with_reducible rfl)
      try simp only [Act.put, List.setIfInBounds_toArray, List.set_cons_zero, List.set_cons_succ]
      refine wpAnyH_take (i := 8) (oi := _) (v := ?v309) (List.getElem?_toArray.trans rfl) (by kernel_rfl) (by kernel_rfl) (by kernel_rfl) (fun _ _ _ h => h) (Or.inl ⟨by rfl, ?hy309⟩) (by assumption) ?rest309
      case hy309 => (intro wq hSw; (try simp only [Two, HV] at hSw); go_simp; try with_reducible rfl)
      try simp only [Act.put, List.setIfInBounds_toArray, List.set_cons_zero, List.set_cons_succ]
      refine wpAnyH_take (i := 9) (oi := _) (v := ?v310) (List.getElem?_toArray.trans rfl) (by kernel_rfl) (by kernel_rfl) (by kernel_rfl) (fun _ _ _ h => h) (Or.inl ⟨by rfl, ?hy310⟩) (by assumption) ?rest310
      case hy310 => (intro wq hSw; (try simp only [Two, HV] at hSw); go_simp; try with_reducible rfl)
      try simp only [Act.put, List.setIfInBounds_toArray, List.set_cons_zero, List.set_cons_succ]
      refine wpAnyH_take (i := 10) (oi := _) (v := ?v311) (List.getElem?_toArray.trans rfl) (by kernel_rfl) (by kernel_rfl) (by kernel_rfl) (fun _ _ _ h => h) (Or.inl ⟨by rfl, ?hy311⟩) (by assumption) ?rest311
      case hy311 => (intro wq hSw; (try simp only [Two, HV] at hSw); go_simp; try with_reducible rfl)
      try simp only [Act.put, List.setIfInBounds_toArray, List.set_cons_zero, List.set_cons_succ]
      refine wpAnyH_take (i := 11) (oi := _) (v := ?v312) (List.getElem?_toArray.trans rfl) (by kernel_rfl) (by kernel_rfl) (by kernel_rfl) (fun _ _ _ h => h) (Or.inl ⟨by rfl, ?hy312⟩) (by assumption) ?rest312
      case hy312 => (intro wq hSw; (try simp only [Two, HV] at hSw); go_simp; try with_reducible rfl)
      try simp only [Act.put, List.setIfInBounds_toArray, List.set_cons_zero, List.set_cons_succ]
      refine wpAnyH_ready (rs := [12]) (by kernel_rfl) (by simp) ?rdy313
      refine AllReadyH.cons (List.getElem?_toArray.trans rfl) (fun K hK => ?stp313) AllReadyH.nil
      go_simp
      go_wp2_with fail
      (refine (CL.out _).mono ?_; rintro e w7 ⟨rfl, hb7⟩)
      go_wp2_with fail
      refine hK.out _ _ ?hSn313 (fun hHeld2 => ?rest313)
      case hSn313 => (first | with_reducible exact R.drew | with_reducible exact hHeld.below hb4 | with_reducible exact hHeld.below hb5 | with_reducible exact hHeld.below hb6 | with_reducible exact hHeld.below hb7 | with_reducible exact hHeld.below hb8)
      clear hK K hHeld
      have hHeld := hHeld2
      clear hHeld2
      try simp only [Act.put, List.setIfInBounds_toArray, List.set_cons_zero, List.set_cons_succ]
      refine wpAnyH_ready (rs := [13]) (by kernel_rfl) (by simp) ?rdy314
      refine AllReadyH.cons (List.getElem?_toArray.trans rfl) (fun K hK => ?stp314) AllReadyH.nil
      go_simp
      go_wp2_with fail
      (refine (CC2.out _).mono ?_; rintro e w8 ⟨rfl, hb8⟩)
      go_wp2_with fail
      refine hK.out _ _ ?hSn314 (fun hHeld2 => ?rest314)
      case hSn314 => (first | with_reducible exact R.drew | with_reducible exact hHeld.below hb4 | with_reducible exact hHeld.below hb5 | with_reducible exact hHeld.below hb6 | with_reducible exact hHeld.below hb7 | with_reducible exact hHeld.below hb8)
      clear hK K hHeld
      have hHeld := hHeld2
      clear hHeld2
      try simp only [Act.put, List.setIfInBounds_toArray, List.set_cons_zero, List.set_cons_succ]
      refine wpAnyH_take (i := 14) (oi := _) (v := ?v315) (List.getElem?_toArray.trans rfl) (by kernel_rfl) (by kernel_rfl) (by kernel_rfl) (fun _ _ _ h => h) (Or.inl ⟨by rfl, ?hy315⟩) (by assumption) ?rest315
      case hy315 => (intro wq hSw; (try simp only [Two, HV] at hSw); go_simp; try with_reducible rfl)
      try simp only [Act.put, List.setIfInBounds_toArray, List.set_cons_zero, List.set_cons_succ]
      refine wpAnyH_take (i := 15) (oi := _) (v := ?v316) (List.getElem?_toArray.trans rfl) (by kernel_rfl) (by kernel_rfl) (by kernel_rfl) (fun _ _ _ h => h) (Or.inl ⟨by rfl, ?hy316⟩) (by assumption) ?rest316
      case hy316 => (intro wq hSw; (try simp only [Two, HV] at hSw); go_simp; try with_reducible rfl)
      try simp only [Act.put, List.setIfInBounds_toArray, List.set_cons_zero, List.set_cons_succ]
      refine wpAnyH_take (i := 16) (oi := _) (v := ?v317) (List.getElem?_toArray.trans rfl) (by kernel_rfl) (by kernel_rfl) (by kernel_rfl) (fun _ _ _ h => h) (Or.inl ⟨by rfl, ?hy317⟩) (by assumption) ?rest317
      case hy317 => (intro wq hSw; (try simp only [Two, HV] at hSw); go_simp; try with_reducible rfl)
      try simp only [Act.put, List.setIfInBounds_toArray, List.set_cons_zero, List.set_cons_succ]
      refine wpAnyH_done (by kernel_rfl) ?fin300 _
      go_wp2_with fail
      go_meet
      case rel => exact ⟨by rw [hk2H.out], hHeld⟩
  case rest =>
    obtain ⟨rfl, R1⟩ := hcut
    clear R F
    have R := R1
    have F := R.1
    clear R1 CS CA CC1 CC2
    go_wp2_with fail
    refine (CX.out _).mono ?_
    rintro e w9 ⟨rfl, hb9⟩
    replace R := R.below hb9
    replace F := R.1
    clear hb9
    go_upto_region 9 with fail
    refine wp_region_held_drew (S := (HV w w2.heap.size v ph pl b s ah al false 0 0 0 false 0 0 0)) (by kernel_rfl) ?hS400 (fun hHeld => ?rest400)
    case hS400 => (first | with_reducible exact R.drew | with_reducible exact hHeld.below hb10)
    refine wpAnyH_take (i := 0) (oi := _) (v := ?v401) (List.getElem?_toArray.trans rfl) (by kernel_rfl) (by kernel_rfl) (by kernel_rfl) (fun _ _ _ h => h) (Or.inl ⟨by rfl, ?hy401⟩) (by assumption) ?rest401
    case hy401 => (intro wq hSw; (try simp only [Two, HV] at hSw); go_simp; try with_reducible rfl)
    try simp only [Act.put, List.setIfInBounds_toArray, List.set_cons_zero, List.set_cons_succ]
    refine wpAnyH_take (i := 1) (oi := _) (v := ?v402) (List.getElem?_toArray.trans rfl) (by kernel_rfl) (by kernel_rfl) (by kernel_rfl) (fun _ _ _ h => h) (Or.inl ⟨by rfl, ?hy402⟩) (by assumption) ?rest402
    case hy402 => (intro wq hSw; (try simp only [Two, HV] at hSw); go_simp; try with_reducible rfl)
    try simp only [Act.put, List.setIfInBounds_toArray, List.set_cons_zero, List.set_cons_succ]
    refine wpAnyH_take (i := 2) (oi := _) (v := ?v403) (List.getElem?_toArray.trans rfl) (by kernel_rfl) (by kernel_rfl) (by kernel_rfl) (fun _ _ _ h => h) (Or.inl ⟨by rfl, ?hy403⟩) (by assumption) ?rest403
    case hy403 => (intro wq hSw; (try simp only [Two, HV] at hSw); go_simp; try with_reducible rfl)
    try simp only [Act.put, List.setIfInBounds_toArray, List.set_cons_zero, List.set_cons_succ]
    refine wpAnyH_take (i := 3) (oi := _) (v := ?v404) (List.getElem?_toArray.trans rfl) (by kernel_rfl) (by kernel_rfl) (by kernel_rfl) (fun _ _ _ h => h) (Or.inl ⟨by rfl, ?hy404⟩) (by assumption) ?rest404
    case hy404 => (intro wq hSw; (try simp only [Two, HV] at hSw); go_simp; try with_reducible rfl)
    try simp only [Act.put, List.setIfInBounds_toArray, List.set_cons_zero, List.set_cons_succ]
    refine wpAnyH_ready (rs := [4]) (by kernel_rfl) (by simp) ?rdy405
    refine AllReadyH.cons (List.getElem?_toArray.trans rfl) (fun K hK => ?stp405) AllReadyH.nil
    go_simp
    go_wp2_with fail
    (refine (CW.out _).mono ?_; rintro e w10 ⟨rfl, hb10⟩)
    go_wp2_with fail
    refine hK.out _ _ ?hSn405 (fun hHeld2 => ?rest405)
    case hSn405 => (first | with_reducible exact R.drew | with_reducible exact hHeld.below hb10)
    clear hK K hHeld
    have hHeld := hHeld2
    clear hHeld2
    try simp only [Act.put, List.setIfInBounds_toArray, List.set_cons_zero, List.set_cons_succ]
    refine wpAnyH_take (i := 5) (oi := _) (v := ?v406) (List.getElem?_toArray.trans rfl) (by kernel_rfl) (by kernel_rfl) (by kernel_rfl) (fun _ _ _ h => h) (Or.inl ⟨by rfl, ?hy406⟩) (by assumption) ?rest406
    case hy406 => (intro wq hSw; (try simp only [Two, HV] at hSw); go_simp; try with_reducible rfl)
    try simp only [Act.put, List.setIfInBounds_toArray, List.set_cons_zero, List.set_cons_succ]
    refine wpAnyH_done (by kernel_rfl) ?fin400 _
    have F2 := hHeld.1
    clear F R
    go_wp2
    go_ret
    exact ⟨by first | rfl | simp, hHeld.2.2.2.2.2⟩

set_option maxRecDepth 100000 in
set_option maxHeartbeats 1600000 in
theorem halves_two {v s : Bool} {ph pl b ah al : Int} {n a : Nat} (hp : IsNum ph pl n) (ha : IsNum ah al a) (hk : okP v n b = true) (hW : b < widthA v) (w : World) (hL : LW w)
    (aw : ∀ w, LW w → Calls Tryz.prog 11 #[] w fun e w' => e = .returned (.bool true) ∧ Below w.heap.size w w') :
    Calls Tryz.prog 3 #[pv v ph pl b, av s ah al] w fun e w' => e = .returned (.bool true) ∧ Below w.heap.size w w' := by
  have hz := hL.sz
  have R0 := HA.start w v ph pl b s ah al
  have AW := aw _ (hL.of R0.2.2 hz)
  have hsz : n + 2 ^ (behindP v b - 1) < 340282366920938463463374607431768211456 := Nat.lt_of_le_of_lt (high_ok hk hW hp.lt).2.2.2 (lastN_small hk hp.lt).1
  obtain ⟨mh, ml, hm⟩ := IsNum.ex hsz
  obtain ⟨kl, kh, hlast, _⟩ := high_ok hk hW hp.lt
  have CH : Hid (∀ w', Calls Tryz.prog 12 #[pv v ph pl b] w' fun e w1 => e = .returned (.tuple #[pv v ph pl (b + 1), pv v mh ml (b + 1), .int .i64 0]) ∧ Below w'.heap.size w' w1) := fun w' => half_ok hp hk hW hm w'
  have CR : Hid (∀ w', Calls Tryz.prog 13 #[pv v ph pl b] w' fun e w1 => e = .returned (.bool true) ∧ Below w'.heap.size w' w1) := fun w' => hk ▸ rpright_c hp w'
  obtain ⟨ok, hok⟩ : ∃ ok, okA s a = ok := ⟨_, rfl⟩
  obtain ⟨hx, hhx⟩ : ∃ hx, hasB v n b s a = hx := ⟨_, rfl⟩
  obtain ⟨l1, l2⟩ := lastN_small hk hp.lt
  obtain ⟨zh, zl, hzl⟩ := IsNum.ex l1
  obtain ⟨k1, hk1⟩ : ∃ k1, k1 = cmpA v s n a := ⟨_, rfl⟩
  obtain ⟨k2, hk2⟩ : ∃ k2, k2 = cmpA s v a (lastN v n b) := ⟨_, rfl⟩
  have CA : Hid (∀ w', Calls Tryz.prog 14 #[av s ah al] w' fun e w1 => e = .returned (.bool ok) ∧ Below w'.heap.size w' w1) := fun w' => hok ▸ aright_c ha w'
  have CF : Hid (∀ w', Calls Tryz.prog 16 #[pv v ph pl b] w' fun e w1 => e = .returned (av v ph pl) ∧ Below w'.heap.size w' w1) := fun w' => first_c hp (Or.inl ⟨hk, rfl, rfl, rfl⟩) w'
  have CL : Hid (∀ w', Calls Tryz.prog 17 #[pv v ph pl b] w' fun e w1 => e = .returned (av v zh zl) ∧ Below w'.heap.size w' w1) := fun w' => last_ok hp hk hzl w'
  have CC1 : Hid (∀ w', Calls Tryz.prog 15 #[av v ph pl, av s ah al] w' fun e w1 => e = .returned (.int .i64 k1) ∧ Below w'.heap.size w' w1) := fun w' => by
    refine (acmp_c hp ha w').mono ?_
    rintro e w1 ⟨k', rfl, hk', hb'⟩
    exact ⟨by rw [hk', hk1], hb'⟩
  have CC2 : Hid (∀ w', Calls Tryz.prog 15 #[av s ah al, av v zh zl] w' fun e w1 => e = .returned (.int .i64 k2) ∧ Below w'.heap.size w' w1) := fun w' => by
    refine (acmp_c ha hzl w').mono ?_
    rintro e w1 ⟨k', rfl, hk', hb'⟩
    exact ⟨by rw [hk', hk2], hb'⟩
  have CX : Hid (∀ w', Calls Tryz.prog 18 #[pv v ph pl b, av s ah al] w' fun e w1 => e = .returned (.bool hx) ∧ Below w'.heap.size w' w1) := fun w' => hhx ▸ has_c hp ha w'
  have bh := between_has (s := s) (a := a) hk
  rw [hhx, hok, ← hk1, ← hk2] at bh
  have CS : Hid ((ok = false ∧ hx = false) ∨ (ok = true ∧ decide (k1 ≤ 0) = false ∧ hx = false) ∨ (ok = true ∧ decide (k1 ≤ 0) = true ∧ hx = decide (k2 ≤ 0))) := by
    cases ok
    · exact Or.inl ⟨rfl, bh⟩
    · cases hd : decide (k1 ≤ 0)
      · rw [hd] at bh; exact Or.inr (Or.inl ⟨rfl, rfl, bh⟩)
      · rw [hd] at bh; exact Or.inr (Or.inr ⟨rfl, rfl, bh⟩)
  obtain ⟨W, hWW⟩ : ∃ W, widthA v = W := ⟨_, rfl⟩
  have CW : Hid (∀ w', Calls Tryz.prog 19 #[av v ph pl] w' fun e w1 => e = .returned (.int .i64 W) ∧ Below w'.heap.size w' w1) := fun w' => width_lit v W hWW ph pl w'
  have hbW : (b == W) = false := by rw [← hWW]; simpa using (by omega : ¬ b = widthA v)
  have hbW2 : ¬ b = W := by omega
  obtain ⟨x, hxl⟩ : ∃ x, hasB v n (b + 1) s a = x := ⟨_, rfl⟩
  obtain ⟨y, hyh⟩ : ∃ y, hasB v (n + 2 ^ (behindP v b - 1)) (b + 1) s a = y := ⟨_, rfl⟩
  have hxy : Hid (hx = (x != y)) := by show _ = _; rw [← hhx, ← hxl, ← hyh, one_half hk hW]
  have XL : Hid (∀ w', Calls Tryz.prog 18 #[pv v ph pl (b + 1), av s ah al] w' fun e w1 => e = .returned (.bool x) ∧ Below w'.heap.size w' w1) := fun w' => hxl ▸ has_c hp ha w'
  have XH : Hid (∀ w', Calls Tryz.prog 18 #[pv v mh ml (b + 1), av s ah al] w' fun e w1 => e = .returned (.bool y) ∧ Below w'.heap.size w' w1) := fun w' => hyh ▸ has_c hm ha w'
  have FL : Hid (∀ w', Calls Tryz.prog 16 #[pv v ph pl (b + 1)] w' fun e w1 => e = .returned (av v ph pl) ∧ Below w'.heap.size w' w1) := fun w' => first_c hp (Or.inl ⟨kl, rfl, rfl, rfl⟩) w'
  have LH : Hid (∀ w', Calls Tryz.prog 17 #[pv v mh ml (b + 1)] w' fun e w1 => e = .returned (av v zh zl) ∧ Below w'.heap.size w' w1) := fun w' => last_ok hm kh (hzl.cast hlast.symm) w'
  have OV : Hid (∀ w', Calls Tryz.prog 20 #[pv v ph pl (b + 1), pv v mh ml (b + 1)] w' fun e w1 => e = .returned (.bool false) ∧ Below w'.heap.size w' w1) := fun w' => halves_apart hk hW hp.lt ▸ over_c hp hm w'
  have M1 : Hid (∀ w', Calls Tryz.prog 21 #[pv v ph pl b, pv v ph pl (b + 1)] w' fun e w1 => e = .returned (.int .i64 (-1)) ∧ Below w'.heap.size w' w1) := fun w' => pcmp_less hp hp hk kl (Or.inr ⟨by unfold cmpA; rw [if_pos rfl]; exact cmpI_eq rfl, by omega⟩) w'
  have M2 : Hid (∀ w', Calls Tryz.prog 21 #[pv v ph pl (b + 1), pv v mh ml (b + 1)] w' fun e w1 => e = .returned (.int .i64 (-1)) ∧ Below w'.heap.size w' w1) := fun w' => pcmp_less hp hm kl kh (Or.inl (by unfold cmpA; rw [if_pos rfl]; exact cmpI_lt (by have := pow_pos2 (behindP v b - 1); omega))) w'
  clear hp ha hk hL aw hok hhx hk1 hk2 bh hW hzl l1 l2 hsz hm kl kh hlast hWW hxl hyh
  go_enter Tryz.func3, Tryz.ntmps3
  go_wp2_with fail
  refine AW.mono ?_
  rintro e w1 ⟨rfl, hb1⟩
  have R1 := R0.below hb1
  obtain ⟨p0, p1, p2, p3, p4, p5, p6, p7, p8⟩ := R1.1.four
  clear AW R0 hb1
  go_wp2_with fail
  refine (CH.out _).mono ?_
  rintro e w2 ⟨rfl, hb2⟩
  have R := (R1.below hb2).halves v ph pl (b + 1) v mh ml (b + 1)
  have F := R.1
  clear R1 hb2 CH p0 p1 p2 p3 p4 p5 p6 p7 p8
  go_wp2_with fail
  refine (CR.out _).mono ?_
  rintro e w3 ⟨rfl, hb3⟩
  replace R := R.below hb3
  replace F := R.1
  clear hb3 CR
  go_upto_region 6 with fail
  go_cut [8] (fun t wc => t = .bool hx ∧ HV w w2.heap.size v ph pl b s ah al v ph pl (b + 1) v mh ml (b + 1) wc)
  case first =>
    rcases CS.out with ⟨rfl, rfl⟩ | ⟨rfl, hk1, rfl⟩ | ⟨rfl, hk1, hk2⟩
    · clear CF CC1 CL CC2
      refine wp_region_held_drew (S := (HV w w2.heap.size v ph pl b s ah al v ph pl (b + 1) v mh ml (b + 1))) (by kernel_rfl) ?hS500 (fun hHeld => ?rest500)
      case hS500 => (first | with_reducible exact R.drew | with_reducible exact hHeld.below hb4 | with_reducible exact hHeld.below hb5 | with_reducible exact hHeld.below hb6 | with_reducible exact hHeld.below hb7 | with_reducible exact hHeld.below hb8)
      refine wpAnyH_take (i := 0) (oi := _) (v := ?v501) (List.getElem?_toArray.trans rfl) (by kernel_rfl) (by kernel_rfl) (by kernel_rfl) (fun _ _ _ h => h) (Or.inl ⟨by rfl, ?hy501⟩) (by assumption) ?rest501
      case hy501 => (intro wq hSw; (try simp only [Two, HV] at hSw); go_simp; try with_reducible rfl)
      try simp only [Act.put, List.setIfInBounds_toArray, List.set_cons_zero, List.set_cons_succ]
      refine wpAnyH_ready (rs := [1]) (by kernel_rfl) (by simp) ?rdy502
      refine AllReadyH.cons (List.getElem?_toArray.trans rfl) (fun K hK => ?stp502) AllReadyH.nil
      go_simp
      go_wp2_with fail
      (refine (CA.out _).mono ?_; rintro e w4 ⟨rfl, hb4⟩)
      go_wp2_with fail
      refine hK.out _ _ ?hSn502 (fun hHeld2 => ?rest502)
      case hSn502 => (first | with_reducible exact R.drew | with_reducible exact hHeld.below hb4 | with_reducible exact hHeld.below hb5 | with_reducible exact hHeld.below hb6 | with_reducible exact hHeld.below hb7 | with_reducible exact hHeld.below hb8)
      clear hK K hHeld
      have hHeld := hHeld2
      clear hHeld2
      try simp only [Act.put, List.setIfInBounds_toArray, List.set_cons_zero, List.set_cons_succ]
      refine wpAnyH_take (i := 2) (oi := _) (v := ?v503) (List.getElem?_toArray.trans rfl) (by kernel_rfl) (by kernel_rfl) (by kernel_rfl) (fun _ _ _ h => h) (Or.inl ⟨by rfl, ?hy503⟩) (by assumption) ?rest503
      case hy503 => (intro wq hSw; (try simp only [Two, HV] at hSw); go_simp; try with_reducible rfl)
      try simp only [Act.put, List.setIfInBounds_toArray, List.set_cons_zero, List.set_cons_succ]
      refine wpAnyH_take (i := 3) (oi := _) (v := undef) (List.getElem?_toArray.trans rfl) (by kernel_rfl) (by kernel_rfl) (by kernel_rfl) (fun _ _ _ h => h) (Or.inr ⟨by rfl, rfl⟩) (by assumption) ?rest504
      try simp only [Act.put, List.setIfInBounds_toArray, List.set_cons_zero, List.set_cons_succ]
      refine wpAnyH_take (i := 4) (oi := _) (v := undef) (List.getElem?_toArray.trans rfl) (by kernel_rfl) (by kernel_rfl) (by kernel_rfl) (fun _ _ _ h => h) (Or.inr ⟨by rfl, rfl⟩) (by assumption) ?rest505
      try simp only [Act.put, List.setIfInBounds_toArray, List.set_cons_zero, List.set_cons_succ]
      refine wpAnyH_take (i := 5) (oi := _) (v := undef) (List.getElem?_toArray.trans rfl) (by kernel_rfl) (by kernel_rfl) (by kernel_rfl) (fun _ _ _ h => h) (Or.inr ⟨by rfl, rfl⟩) (by assumption) ?rest506
      try simp only [Act.put, List.setIfInBounds_toArray, List.set_cons_zero, List.set_cons_succ]
      refine wpAnyH_take (i := 6) (oi := _) (v := undef) (List.getElem?_toArray.trans rfl) (by kernel_rfl) (by kernel_rfl) (by kernel_rfl) (fun _ _ _ h => h) (Or.inr ⟨by rfl, rfl⟩) (by assumption) ?rest507
      try simp only [Act.put, List.setIfInBounds_toArray, List.set_cons_zero, List.set_cons_succ]
      refine wpAnyH_take (i := 7) (oi := _) (v := undef) (List.getElem?_toArray.trans rfl) (by kernel_rfl) (by kernel_rfl) (by kernel_rfl) (fun _ _ _ h => h) (Or.inr ⟨by rfl, rfl⟩) (by assumption) ?rest508
      try simp only [Act.put, List.setIfInBounds_toArray, List.set_cons_zero, List.set_cons_succ]
      refine wpAnyH_take (i := 8) (oi := _) (v := ?v509) (List.getElem?_toArray.trans rfl) (by kernel_rfl) (by kernel_rfl) (by kernel_rfl) (fun _ _ _ h => h) (Or.inl ⟨by rfl, ?hy509⟩) (by assumption) ?rest509
      case hy509 => (intro wq hSw; (try simp only [Two, HV] at hSw); go_simp; try with_reducible rfl)
      try simp only [Act.put, List.setIfInBounds_toArray, List.set_cons_zero, List.set_cons_succ]
      refine wpAnyH_take (i := 9) (oi := _) (v := ?v510) (List.getElem?_toArray.trans rfl) (by kernel_rfl) (by kernel_rfl) (by kernel_rfl) (fun _ _ _ h => h) (Or.inl ⟨by rfl, ?hy510⟩) (by assumption) ?rest510
      case hy510 => (intro wq hSw; (try simp only [Two, HV] at hSw); go_simp; try with_reducible rfl)
      try simp only [Act.put, List.setIfInBounds_toArray, List.set_cons_zero, List.set_cons_succ]
      refine wpAnyH_take (i := 10) (oi := _) (v := undef) (List.getElem?_toArray.trans rfl) (by kernel_rfl) (by kernel_rfl) (by kernel_rfl) (fun _ _ _ h => h) (Or.inr ⟨by rfl, rfl⟩) (by assumption) ?rest511
      try simp only [Act.put, List.setIfInBounds_toArray, List.set_cons_zero, List.set_cons_succ]
      refine wpAnyH_take (i := 11) (oi := _) (v := undef) (List.getElem?_toArray.trans rfl) (by kernel_rfl) (by kernel_rfl) (by kernel_rfl) (fun _ _ _ h => h) (Or.inr ⟨by rfl, rfl⟩) (by assumption) ?rest512
      try simp only [Act.put, List.setIfInBounds_toArray, List.set_cons_zero, List.set_cons_succ]
      refine wpAnyH_take (i := 12) (oi := _) (v := undef) (List.getElem?_toArray.trans rfl) (by kernel_rfl) (by kernel_rfl) (by kernel_rfl) (fun _ _ _ h => h) (Or.inr ⟨by rfl, rfl⟩) (by assumption) ?rest513
      try simp only [Act.put, List.setIfInBounds_toArray, List.set_cons_zero, List.set_cons_succ]
      refine wpAnyH_take (i := 13) (oi := _) (v := undef) (List.getElem?_toArray.trans rfl) (by kernel_rfl) (by kernel_rfl) (by kernel_rfl) (fun _ _ _ h => h) (Or.inr ⟨by rfl, rfl⟩) (by assumption) ?rest514
      try simp only [Act.put, List.setIfInBounds_toArray, List.set_cons_zero, List.set_cons_succ]
      refine wpAnyH_take (i := 14) (oi := _) (v := undef) (List.getElem?_toArray.trans rfl) (by kernel_rfl) (by kernel_rfl) (by kernel_rfl) (fun _ _ _ h => h) (Or.inr ⟨by rfl, rfl⟩) (by assumption) ?rest515
      try simp only [Act.put, List.setIfInBounds_toArray, List.set_cons_zero, List.set_cons_succ]
      refine wpAnyH_take (i := 15) (oi := _) (v := ?v516) (List.getElem?_toArray.trans rfl) (by kernel_rfl) (by kernel_rfl) (by kernel_rfl) (fun _ _ _ h => h) (Or.inl ⟨by rfl, ?hy516⟩) (by assumption) ?rest516
      case hy516 => (intro wq hSw; (try simp only [Two, HV] at hSw); go_simp; try with_reducible rfl)
      try simp only [Act.put, List.setIfInBounds_toArray, List.set_cons_zero, List.set_cons_succ]
      refine wpAnyH_take (i := 16) (oi := _) (v := ?v517) (List.getElem?_toArray.trans rfl) (by kernel_rfl) (by kernel_rfl) (by kernel_rfl) (fun _ _ _ h => h) (Or.inl ⟨by rfl, ?hy517⟩) (by assumption) ?rest517
      case hy517 => (intro wq hSw; (try simp only [Two, HV] at hSw); go_simp; try with_reducible rfl)
      try simp only [Act.put, List.setIfInBounds_toArray, List.set_cons_zero, List.set_cons_succ]
      refine wpAnyH_done (by kernel_rfl) ?fin500 _
      go_wp2_with fail
      go_meet
      case rel => exact ⟨by first | rfl | simp, hHeld⟩
    · clear CL CC2
      refine wp_region_held_drew (S := (HV w w2.heap.size v ph pl b s ah al v ph pl (b + 1) v mh ml (b + 1))) (by kernel_rfl) ?hS600 (fun hHeld => ?rest600)
      case hS600 => (first | with_reducible exact R.drew | with_reducible exact hHeld.below hb4 | with_reducible exact hHeld.below hb5 | with_reducible exact hHeld.below hb6 | with_reducible exact hHeld.below hb7 | with_reducible exact hHeld.below hb8)
      refine wpAnyH_take (i := 0) (oi := _) (v := ?v601) (List.getElem?_toArray.trans rfl) (by kernel_rfl) (by kernel_rfl) (by kernel_rfl) (fun _ _ _ h => h) (Or.inl ⟨by rfl, ?hy601⟩) (by assumption) ?rest601
      case hy601 => (intro wq hSw; (try simp only [Two, HV] at hSw); go_simp; try with_reducible rfl)
      try simp only [Act.put, List.setIfInBounds_toArray, List.set_cons_zero, List.set_cons_succ]
      refine wpAnyH_ready (rs := [1]) (by kernel_rfl) (by simp) ?rdy602
      refine AllReadyH.cons (List.getElem?_toArray.trans rfl) (fun K hK => ?stp602) AllReadyH.nil
      go_simp
      go_wp2_with fail
      (refine (CA.out _).mono ?_; rintro e w4 ⟨rfl, hb4⟩)
      go_wp2_with fail
      refine hK.out _ _ ?hSn602 (fun hHeld2 => ?rest602)
      case hSn602 => (first | with_reducible exact R.drew | with_reducible exact hHeld.below hb4 | with_reducible exact hHeld.below hb5 | with_reducible exact hHeld.below hb6 | with_reducible exact hHeld.below hb7 | with_reducible exact hHeld.below hb8)
      clear hK K hHeld
      have hHeld := hHeld2
      clear hHeld2
      try simp only [Act.put, List.setIfInBounds_toArray, List.set_cons_zero, List.set_cons_succ]
      refine wpAnyH_take (i := 2) (oi := _) (v := ?v603) (List.getElem?_toArray.trans rfl) (by kernel_rfl) (by kernel_rfl) (by kernel_rfl) (fun _ _ _ h => h) (Or.inl ⟨by rfl, ?hy603⟩) (by assumption) ?rest603
      case hy603 => (intro wq hSw; (try simp only [Two, HV] at hSw); go_simp; try with_reducible rfl)
      try simp only [Act.put, List.setIfInBounds_toArray, List.set_cons_zero, List.set_cons_succ]
      refine wpAnyH_take (i := 3) (oi := _) (v := ?v604) (List.getElem?_toArray.trans rfl) (by kernel_rfl) (by kernel_rfl) (by kernel_rfl) (fun _ _ _ h => h) (Or.inl ⟨by rfl, ?hy604⟩) (by assumption) ?rest604
      case hy604 => (intro wq hSw; (try simp only [Two, HV] at hSw); go_simp; try with_reducible rfl)
      try simp only [Act.put, List.setIfInBounds_toArray, List.set_cons_zero, List.set_cons_succ]
      refine wpAnyH_take (i := 5) (oi := _) (v := ?v605) (List.getElem?_toArray.trans rfl) (by kernel_rfl) (by kernel_rfl) (by kernel_rfl) (fun _ _ _ h => h) (Or.inl ⟨by rfl, ?hy605⟩) (by assumption) ?rest605
      case hy605 => (intro wq hSw; (try simp only [Two, HV] at hSw); go_simp; try with_reducible rfl)
      try simp only [Act.put, List.setIfInBounds_toArray, List.set_cons_zero, List.set_cons_succ]
      refine wpAnyH_ready (rs := [4]) (by kernel_rfl) (by simp) ?rdy606
      refine AllReadyH.cons (List.getElem?_toArray.trans rfl) (fun K hK => ?stp606) AllReadyH.nil
      go_simp
      go_wp2_with fail
      (refine (CF.out _).mono ?_; rintro e w5 ⟨rfl, hb5⟩)
      go_wp2_with fail
      refine hK.out _ _ ?hSn606 (fun hHeld2 => ?rest606)
      case hSn606 => (first | with_reducible exact R.drew | with_reducible exact hHeld.below hb4 | with_reducible exact hHeld.below hb5 | with_reducible exact hHeld.below hb6 | with_reducible exact hHeld.below hb7 | with_reducible exact hHeld.below hb8)
      clear hK K hHeld
      have hHeld := hHeld2
      clear hHeld2
      try simp only [Act.put, List.setIfInBounds_toArray, List.set_cons_zero, List.set_cons_succ]
      refine wpAnyH_ready (rs := [6]) (by kernel_rfl) (by simp) ?rdy607
      refine AllReadyH.cons (List.getElem?_toArray.trans rfl) (fun K hK => ?stp607) AllReadyH.nil
      go_simp
      go_wp2_with fail
      (refine (CC1.out _).mono ?_; rintro e w6 ⟨rfl, hb6⟩)
      go_wp2_with fail
      refine hK.out _ _ ?hSn607 (fun hHeld2 => ?rest607)
      case hSn607 => (first | with_reducible exact R.drew | with_reducible exact hHeld.below hb4 | with_reducible exact hHeld.below hb5 | with_reducible exact hHeld.below hb6 | with_reducible exact hHeld.below hb7 | with_reducible exact hHeld.below hb8)
      clear hK K hHeld
      have hHeld := hHeld2
      clear hHeld2
      try simp only [Act.put, List.setIfInBounds_toArray, List.set_cons_zero, List.set_cons_succ]
      refine wpAnyH_take (i := 7) (oi := _) (v := ?v608) (List.getElem?_toArray.trans rfl) (by kernel_rfl) (by kernel_rfl) (by kernel_rfl) (fun _ _ _ h => h) (Or.inl ⟨by rfl, ?hy608⟩) (by assumption) ?rest608
      case hy608 => (intro wq hSw; (try simp only [Two, HV] at hSw); go_simp; try with_reducible rfl)
      try simp only [Act.put, List.setIfInBounds_toArray, List.set_cons_zero, List.set_cons_succ]
      refine wpAnyH_take (i := 8) (oi := _) (v := ?v609) (List.getElem?_toArray.trans rfl) (by kernel_rfl) (by kernel_rfl) (by kernel_rfl) (fun _ _ _ h => h) (Or.inl ⟨by rfl, ?hy609⟩) (by assumption) ?rest609
      case hy609 => (intro wq hSw; (try simp only [Two, HV] at hSw); go_simp; try with_reducible rfl)
      try simp only [Act.put, List.setIfInBounds_toArray, List.set_cons_zero, List.set_cons_succ]
      refine wpAnyH_take (i := 9) (oi := _) (v := ?v610) (List.getElem?_toArray.trans rfl) (by kernel_rfl) (by kernel_rfl) (by kernel_rfl) (fun _ _ _ h => h) (Or.inl ⟨by rfl, ?hy610⟩) (by assumption) ?rest610
      case hy610 => (intro wq hSw; (try simp only [Two, HV] at hSw); go_simp; try with_reducible rfl)
      try simp only [Act.put, List.setIfInBounds_toArray, List.set_cons_zero, List.set_cons_succ]
      refine wpAnyH_take (i := 10) (oi := _) (v := undef) (List.getElem?_toArray.trans rfl) (by kernel_rfl) (by kernel_rfl) (by kernel_rfl) (fun _ _ _ h => h) (Or.inr ⟨by rfl, rfl⟩) (by assumption) ?rest611
      try simp only [Act.put, List.setIfInBounds_toArray, List.set_cons_zero, List.set_cons_succ]
      refine wpAnyH_take (i := 11) (oi := _) (v := undef) (List.getElem?_toArray.trans rfl) (by kernel_rfl) (by kernel_rfl) (by kernel_rfl) (fun _ _ _ h => h) (Or.inr ⟨by rfl, rfl⟩) (by assumption) ?rest612
      try simp only [Act.put, List.setIfInBounds_toArray, List.set_cons_zero, List.set_cons_succ]
      refine wpAnyH_take (i := 12) (oi := _) (v := undef) (List.getElem?_toArray.trans rfl) (by kernel_rfl) (by kernel_rfl) (by kernel_rfl) (fun _ _ _ h => h) (Or.inr ⟨by rfl, rfl⟩) (by assumption) ?rest613
      try simp only [Act.put, List.setIfInBounds_toArray, List.set_cons_zero, List.set_cons_succ]
      refine wpAnyH_take (i := 13) (oi := _) (v := undef) (List.getElem?_toArray.trans rfl) (by kernel_rfl) (by kernel_rfl) (by kernel_rfl) (fun _ _ _ h => h) (Or.inr ⟨by rfl, rfl⟩) (by assumption) ?rest614
      try simp only [Act.put, List.setIfInBounds_toArray, List.set_cons_zero, List.set_cons_succ]
      refine wpAnyH_take (i := 14) (oi := _) (v := undef) (List.getElem?_toArray.trans rfl) (by kernel_rfl) (by kernel_rfl) (by kernel_rfl) (fun _ _ _ h => h) (Or.inr ⟨by rfl, rfl⟩) (by assumption) ?rest615
      try simp only [Act.put, List.setIfInBounds_toArray, List.set_cons_zero, List.set_cons_succ]
      refine wpAnyH_take (i := 15) (oi := _) (v := ?v616) (List.getElem?_toArray.trans rfl) (by kernel_rfl) (by kernel_rfl) (by kernel_rfl) (fun _ _ _ h => h) (Or.inl ⟨by rfl, ?hy616⟩) (by assumption) ?rest616
      case hy616 => (intro wq hSw; (try simp only [Two, HV] at hSw); go_simp; try with_reducible rfl)
      try simp only [Act.put, List.setIfInBounds_toArray, List.set_cons_zero, List.set_cons_succ]
      refine wpAnyH_take (i := 16) (oi := _) (v := ?v617) (List.getElem?_toArray.trans rfl) (by kernel_rfl) (by kernel_rfl) (by kernel_rfl) (fun _ _ _ h => h) (Or.inl ⟨by rfl, ?hy617⟩) (by assumption) ?rest617
      case hy617 => (intro wq hSw; (try simp only [Two, HV] at hSw); go_simp; try with_reducible rfl)
      try simp only [Act.put, List.setIfInBounds_toArray, List.set_cons_zero, List.set_cons_succ]
      refine wpAnyH_done (by kernel_rfl) ?fin600 _
      go_wp2_with fail
      go_meet
      case rel => exact ⟨by first | rfl | simp, hHeld⟩
    · have hk2H : Hid (hx = decide (k2 ≤ 0)) := hk2
      clear hk2
      refine wp_region_held_drew (S := (HV w w2.heap.size v ph pl b s ah al v ph pl (b + 1) v mh ml (b + 1))) (by kernel_rfl) ?hS700 (fun hHeld => ?rest700)
      case hS700 => (first | with_reducible exact R.drew | with_reducible exact hHeld.below hb4 | with_reducible exact hHeld.below hb5 | with_reducible exact hHeld.below hb6 | with_reducible exact hHeld.below hb7 | with_reducible exact hHeld.below hb8)
      refine wpAnyH_take (i := 0) (oi := _) (v := ?v701) (List.getElem?_toArray.trans rfl) (by kernel_rfl) (by kernel_rfl) (by kernel_rfl) (fun _ _ _ h => h) (Or.inl ⟨by rfl, ?hy701⟩) (by assumption) ?rest701
      case hy701 => (intro wq hSw; (try simp only [Two, HV] at hSw); go_simp; try with_reducible rfl)
      try simp only [Act.put, List.setIfInBounds_toArray, List.set_cons_zero, List.set_cons_succ]
      refine wpAnyH_ready (rs := [1]) (by kernel_rfl) (by simp) ?rdy702
      refine AllReadyH.cons (List.getElem?_toArray.trans rfl) (fun K hK => ?stp702) AllReadyH.nil
      go_simp
      go_wp2_with fail
      (refine (CA.out _).mono ?_; rintro e w4 ⟨rfl, hb4⟩)
      go_wp2_with fail
      refine hK.out _ _ ?hSn702 (fun hHeld2 => ?rest702)
      case hSn702 => (first | with_reducible exact R.drew | with_reducible exact hHeld.below hb4 | with_reducible exact hHeld.below hb5 | with_reducible exact hHeld.below hb6 | with_reducible exact hHeld.below hb7 | with_reducible exact hHeld.below hb8)
      clear hK K hHeld
      have hHeld := hHeld2
      clear hHeld2
      try simp only [Act.put, List.setIfInBounds_toArray, List.set_cons_zero, List.set_cons_succ]
      refine wpAnyH_take (i := 2) (oi := _) (v := ?v703) (List.getElem?_toArray.trans rfl) (by kernel_rfl) (by kernel_rfl) (by kernel_rfl) (fun _ _ _ h => h) (Or.inl ⟨by rfl, ?hy703⟩) (by assumption) ?rest703
      case hy703 => (intro wq hSw; (try simp only [Two, HV] at hSw); go_simp; try with_reducible rfl)
      try simp only [Act.put, List.setIfInBounds_toArray, List.set_cons_zero, List.set_cons_succ]
      refine wpAnyH_take (i := 3) (oi := _) (v := ?v704) (List.getElem?_toArray.trans rfl) (by kernel_rfl) (by kernel_rfl) (by kernel_rfl) (fun _ _ _ h => h) (Or.inl ⟨by rfl, ?hy704⟩) (by assumption) ?rest704
      case hy704 => (intro wq hSw; (try simp only [Two, HV] at hSw); go_simp; try with_reducible rfl)
      try simp only [Act.put, List.setIfInBounds_toArray, List.set_cons_zero, List.set_cons_succ]
      refine wpAnyH_take (i := 5) (oi := _) (v := ?v705) (List.getElem?_toArray.trans rfl) (by kernel_rfl) (by kernel_rfl) (by kernel_rfl) (fun _ _ _ h => h) (Or.inl ⟨by rfl, ?hy705⟩) (by assumption) ?rest705
      case hy705 => (intro wq hSw; (try simp only [Two, HV] at hSw); go_simp; try with_reducible rfl)
      try simp only [Act.put, List.setIfInBounds_toArray, List.set_cons_zero, List.set_cons_succ]
      refine wpAnyH_ready (rs := [4]) (by kernel_rfl) (by simp) ?rdy706
      refine AllReadyH.cons (List.getElem?_toArray.trans rfl) (fun K hK => ?stp706) AllReadyH.nil
      go_simp
      go_wp2_with fail
      (refine (CF.out _).mono ?_; rintro e w5 ⟨rfl, hb5⟩)
      go_wp2_with fail
      refine hK.out _ _ ?hSn706 (fun hHeld2 => ?rest706)
      case hSn706 => (first | with_reducible exact R.drew | with_reducible exact hHeld.below hb4 | with_reducible exact hHeld.below hb5 | with_reducible exact hHeld.below hb6 | with_reducible exact hHeld.below hb7 | with_reducible exact hHeld.below hb8)
      clear hK K hHeld
      have hHeld := hHeld2
      clear hHeld2
      try simp only [Act.put, List.setIfInBounds_toArray, List.set_cons_zero, List.set_cons_succ]
      refine wpAnyH_ready (rs := [6]) (by kernel_rfl) (by simp) ?rdy707
      refine AllReadyH.cons (List.getElem?_toArray.trans rfl) (fun K hK => ?stp707) AllReadyH.nil
      go_simp
      go_wp2_with fail
      (refine (CC1.out _).mono ?_; rintro e w6 ⟨rfl, hb6⟩)
      go_wp2_with fail
      refine hK.out _ _ ?hSn707 (fun hHeld2 => ?rest707)
      case hSn707 => (first | with_reducible exact R.drew | with_reducible exact hHeld.below hb4 | with_reducible exact hHeld.below hb5 | with_reducible exact hHeld.below hb6 | with_reducible exact hHeld.below hb7 | with_reducible exact hHeld.below hb8)
      clear hK K hHeld
      have hHeld := hHeld2
      clear hHeld2
      try simp only [Act.put, List.setIfInBounds_toArray, List.set_cons_zero, List.set_cons_succ]
      refine wpAnyH_take (i := 7) (oi := _) (v := ?v708) (List.getElem?_toArray.trans rfl) (by kernel_rfl) (by kernel_rfl) (by kernel_rfl) (fun _ _ _ h => h) (Or.inl ⟨by rfl, ?hy708⟩) (by assumption) ?rest708
      case hy708 => (intro wq hSw; (try simp only [Two, HV] at hSw); go_simp; try with_reducible rfl)
      try simp only [Act.put, List.setIfInBounds_toArray, List.set_cons_zero, List.set_cons_succ]
      refine wpAnyH_take (i := 8) (oi := _) (v := ?v709) (List.getElem?_toArray.trans rfl) (by kernel_rfl) (by kernel_rfl) (by kernel_rfl) (fun _ _ _ h => h) (Or.inl ⟨by rfl, ?hy709⟩) (by assumption) ?rest709
      case hy709 => (intro wq hSw; (try simp only [Two, HV] at hSw); go_simp; try with_reducible rfl)
      try simp only [Act.put, List.setIfInBounds_toArray, List.set_cons_zero, List.set_cons_succ]
      refine wpAnyH_take (i := 9) (oi := _) (v := ?v710) (List.getElem?_toArray.trans rfl) (by kernel_rfl) (by kernel_rfl) (by kernel_rfl) (fun _ _ _ h => h) (Or.inl ⟨by rfl, ?hy710⟩) (by assumption) ?rest710
      case hy710 => (intro wq hSw; (try simp only [Two, HV] at hSw); go_simp; try with_reducible rfl)
      try simp only [Act.put, List.setIfInBounds_toArray, List.set_cons_zero, List.set_cons_succ]
      refine wpAnyH_take (i := 10) (oi := _) (v := ?v711) (List.getElem?_toArray.trans rfl) (by kernel_rfl) (by kernel_rfl) (by kernel_rfl) (fun _ _ _ h => h) (Or.inl ⟨by rfl, ?hy711⟩) (by assumption) ?rest711
      case hy711 => (intro wq hSw; (try simp only [Two, HV] at hSw); go_simp; try with_reducible rfl)
      try simp only [Act.put, List.setIfInBounds_toArray, List.set_cons_zero, List.set_cons_succ]
      refine wpAnyH_take (i := 11) (oi := _) (v := ?v712) (List.getElem?_toArray.trans rfl) (by kernel_rfl) (by kernel_rfl) (by kernel_rfl) (fun _ _ _ h => h) (Or.inl ⟨by rfl, ?hy712⟩) (by assumption) ?rest712
      case hy712 => (intro wq hSw; (try simp only [Two, HV] at hSw); go_simp; try with_reducible rfl)
      try simp only [Act.put, List.setIfInBounds_toArray, List.set_cons_zero, List.set_cons_succ]
      refine wpAnyH_ready (rs := [12]) (by kernel_rfl) (by simp) ?rdy713
      refine AllReadyH.cons (List.getElem?_toArray.trans rfl) (fun K hK => ?stp713) AllReadyH.nil
      go_simp
      go_wp2_with fail
      (refine (CL.out _).mono ?_; rintro e w7 ⟨rfl, hb7⟩)
      go_wp2_with fail
      refine hK.out _ _ ?hSn713 (fun hHeld2 => ?rest713)
      case hSn713 => (first | with_reducible exact R.drew | with_reducible exact hHeld.below hb4 | with_reducible exact hHeld.below hb5 | with_reducible exact hHeld.below hb6 | with_reducible exact hHeld.below hb7 | with_reducible exact hHeld.below hb8)
      clear hK K hHeld
      have hHeld := hHeld2
      clear hHeld2
      try simp only [Act.put, List.setIfInBounds_toArray, List.set_cons_zero, List.set_cons_succ]
      refine wpAnyH_ready (rs := [13]) (by kernel_rfl) (by simp) ?rdy714
      refine AllReadyH.cons (List.getElem?_toArray.trans rfl) (fun K hK => ?stp714) AllReadyH.nil
      go_simp
      go_wp2_with fail
      (refine (CC2.out _).mono ?_; rintro e w8 ⟨rfl, hb8⟩)
      go_wp2_with fail
      refine hK.out _ _ ?hSn714 (fun hHeld2 => ?rest714)
      case hSn714 => (first | with_reducible exact R.drew | with_reducible exact hHeld.below hb4 | with_reducible exact hHeld.below hb5 | with_reducible exact hHeld.below hb6 | with_reducible exact hHeld.below hb7 | with_reducible exact hHeld.below hb8)
      clear hK K hHeld
      have hHeld := hHeld2
      clear hHeld2
      try simp only [Act.put, List.setIfInBounds_toArray, List.set_cons_zero, List.set_cons_succ]
      refine wpAnyH_take (i := 14) (oi := _) (v := ?v715) (List.getElem?_toArray.trans rfl) (by kernel_rfl) (by kernel_rfl) (by kernel_rfl) (fun _ _ _ h => h) (Or.inl ⟨by rfl, ?hy715⟩) (by assumption) ?rest715
      case hy715 => (intro wq hSw; (try simp only [Two, HV] at hSw); go_simp; try with_reducible rfl)
      try simp only [Act.put, List.setIfInBounds_toArray, List.set_cons_zero, List.set_cons_succ]
      refine wpAnyH_take (i := 15) (oi := _) (v := ?v716) (List.getElem?_toArray.trans rfl) (by kernel_rfl) (by kernel_rfl) (by kernel_rfl) (fun _ _ _ h => h) (Or.inl ⟨by rfl, ?hy716⟩) (by assumption) ?rest716
      case hy716 => (intro wq hSw; (try simp only [Two, HV] at hSw); go_simp; try with_reducible rfl)
      try simp only [Act.put, List.setIfInBounds_toArray, List.set_cons_zero, List.set_cons_succ]
      refine wpAnyH_take (i := 16) (oi := _) (v := ?v717) (List.getElem?_toArray.trans rfl) (by kernel_rfl) (by kernel_rfl) (by kernel_rfl) (fun _ _ _ h => h) (Or.inl ⟨by rfl, ?hy717⟩) (by assumption) ?rest717
      case hy717 => (intro wq hSw; (try simp only [Two, HV] at hSw); go_simp; try with_reducible rfl)
      try simp only [Act.put, List.setIfInBounds_toArray, List.set_cons_zero, List.set_cons_succ]
      refine wpAnyH_done (by kernel_rfl) ?fin700 _
      go_wp2_with fail
      go_meet
      case rel => exact ⟨by rw [hk2H.out], hHeld⟩
  case rest =>
    obtain ⟨rfl, R1⟩ := hcut
    clear R F
    have R := R1
    have F := R.1
    clear R1 CS CA CC1 CC2
    go_wp2_with fail
    refine (CX.out _).mono ?_
    rintro e w9 ⟨rfl, hb9⟩
    replace R := R.below hb9
    replace F := R.1
    clear hb9
    go_upto_region 9 with fail
    refine wp_region_held_drew (S := (HV w w2.heap.size v ph pl b s ah al v ph pl (b + 1) v mh ml (b + 1))) (by kernel_rfl) ?hS800 (fun hHeld => ?rest800)
    case hS800 => (first | with_reducible exact R.drew | with_reducible exact hHeld.below hb10)
    refine wpAnyH_take (i := 0) (oi := _) (v := ?v801) (List.getElem?_toArray.trans rfl) (by kernel_rfl) (by kernel_rfl) (by kernel_rfl) (fun _ _ _ h => h) (Or.inl ⟨by rfl, ?hy801⟩) (by assumption) ?rest801
    case hy801 => (intro wq hSw; (try simp only [Two, HV] at hSw); go_simp; try with_reducible rfl)
    try simp only [Act.put, List.setIfInBounds_toArray, List.set_cons_zero, List.set_cons_succ]
    refine wpAnyH_take (i := 1) (oi := _) (v := ?v802) (List.getElem?_toArray.trans rfl) (by kernel_rfl) (by kernel_rfl) (by kernel_rfl) (fun _ _ _ h => h) (Or.inl ⟨by rfl, ?hy802⟩) (by assumption) ?rest802
    case hy802 => (intro wq hSw; (try simp only [Two, HV] at hSw); go_simp; try with_reducible rfl)
    try simp only [Act.put, List.setIfInBounds_toArray, List.set_cons_zero, List.set_cons_succ]
    refine wpAnyH_take (i := 2) (oi := _) (v := ?v803) (List.getElem?_toArray.trans rfl) (by kernel_rfl) (by kernel_rfl) (by kernel_rfl) (fun _ _ _ h => h) (Or.inl ⟨by rfl, ?hy803⟩) (by assumption) ?rest803
    case hy803 => (intro wq hSw; (try simp only [Two, HV] at hSw); go_simp; try with_reducible rfl)
    try simp only [Act.put, List.setIfInBounds_toArray, List.set_cons_zero, List.set_cons_succ]
    refine wpAnyH_take (i := 3) (oi := _) (v := ?v804) (List.getElem?_toArray.trans rfl) (by kernel_rfl) (by kernel_rfl) (by kernel_rfl) (fun _ _ _ h => h) (Or.inl ⟨by rfl, ?hy804⟩) (by assumption) ?rest804
    case hy804 => (intro wq hSw; (try simp only [Two, HV] at hSw); go_simp; try with_reducible rfl)
    try simp only [Act.put, List.setIfInBounds_toArray, List.set_cons_zero, List.set_cons_succ]
    refine wpAnyH_ready (rs := [4]) (by kernel_rfl) (by simp) ?rdy805
    refine AllReadyH.cons (List.getElem?_toArray.trans rfl) (fun K hK => ?stp805) AllReadyH.nil
    go_simp
    go_wp2_with fail
    (refine (CW.out _).mono ?_; rintro e w10 ⟨rfl, hb10⟩)
    go_wp2_with fail
    refine hK.out _ _ ?hSn805 (fun hHeld2 => ?rest805)
    case hSn805 => (first | with_reducible exact R.drew | with_reducible exact hHeld.below hb10)
    clear hK K hHeld
    have hHeld := hHeld2
    clear hHeld2
    try simp only [Act.put, List.setIfInBounds_toArray, List.set_cons_zero, List.set_cons_succ]
    refine wpAnyH_take (i := 5) (oi := _) (v := ?v806) (List.getElem?_toArray.trans rfl) (by kernel_rfl) (by kernel_rfl) (by kernel_rfl) (fun _ _ _ h => h) (Or.inl ⟨by rfl, ?hy806⟩) (by assumption) ?rest806
    case hy806 => (intro wq hSw; (try simp only [Two, HV] at hSw); go_simp; try with_reducible rfl)
    try simp only [Act.put, List.setIfInBounds_toArray, List.set_cons_zero, List.set_cons_succ]
    refine wpAnyH_done (by kernel_rfl) ?fin800 _
    have R2 := hHeld
    clear F R hHeld CW hb10
    go_upto_region 11 with fail
    refine wp_region_held_drew (S := (HV w w2.heap.size v ph pl b s ah al v ph pl (b + 1) v mh ml (b + 1))) (by kernel_rfl) ?hS900 (fun hHeld => ?rest900)
    case hS900 => (first | with_reducible exact R2.drew | with_reducible exact hHeld.below hb11 | with_reducible exact hHeld.below hb12)
    refine wpAnyH_take (i := 0) (oi := _) (v := ?v901) (List.getElem?_toArray.trans rfl) (by kernel_rfl) (by kernel_rfl) (by kernel_rfl) (fun _ _ _ h => h) (Or.inl ⟨by rfl, ?hy901⟩) (by assumption) ?rest901
    case hy901 => (intro wq hSw; (try simp only [Two, HV] at hSw); go_simp; try with_reducible rfl)
    try simp only [Act.put, List.setIfInBounds_toArray, List.set_cons_zero, List.set_cons_succ]
    refine wpAnyH_take (i := 1) (oi := _) (v := ?v902) (List.getElem?_toArray.trans rfl) (by kernel_rfl) (by kernel_rfl) (by kernel_rfl) (fun _ _ _ h => h) (Or.inl ⟨by rfl, ?hy902⟩) (by assumption) ?rest902
    case hy902 => (intro wq hSw; (try simp only [Two, HV] at hSw); go_simp; try with_reducible rfl)
    try simp only [Act.put, List.setIfInBounds_toArray, List.set_cons_zero, List.set_cons_succ]
    refine wpAnyH_take (i := 3) (oi := _) (v := ?v903) (List.getElem?_toArray.trans rfl) (by kernel_rfl) (by kernel_rfl) (by kernel_rfl) (fun _ _ _ h => h) (Or.inl ⟨by rfl, ?hy903⟩) (by assumption) ?rest903
    case hy903 => (intro wq hSw; (try simp only [Two, HV] at hSw); go_simp; try with_reducible rfl)
    try simp only [Act.put, List.setIfInBounds_toArray, List.set_cons_zero, List.set_cons_succ]
    refine wpAnyH_take (i := 4) (oi := _) (v := ?v904) (List.getElem?_toArray.trans rfl) (by kernel_rfl) (by kernel_rfl) (by kernel_rfl) (fun _ _ _ h => h) (Or.inl ⟨by rfl, ?hy904⟩) (by assumption) ?rest904
    case hy904 => (intro wq hSw; (try simp only [Two, HV] at hSw); go_simp; try with_reducible rfl)
    try simp only [Act.put, List.setIfInBounds_toArray, List.set_cons_zero, List.set_cons_succ]
    refine wpAnyH_ready (rs := [2]) (by kernel_rfl) (by simp) ?rdy905
    refine AllReadyH.cons (List.getElem?_toArray.trans rfl) (fun K hK => ?stp905) AllReadyH.nil
    go_simp
    go_wp2_with fail
    (refine (XL.out _).mono ?_; rintro e w11 ⟨rfl, hb11⟩)
    go_wp2_with fail
    refine hK.out _ _ ?hSn905 (fun hHeld2 => ?rest905)
    case hSn905 => (first | with_reducible exact R2.drew | with_reducible exact hHeld.below hb11 | with_reducible exact hHeld.below hb12)
    clear hK K hHeld
    have hHeld := hHeld2
    clear hHeld2
    try simp only [Act.put, List.setIfInBounds_toArray, List.set_cons_zero, List.set_cons_succ]
    refine wpAnyH_ready (rs := [5]) (by kernel_rfl) (by simp) ?rdy906
    refine AllReadyH.cons (List.getElem?_toArray.trans rfl) (fun K hK => ?stp906) AllReadyH.nil
    go_simp
    go_wp2_with fail
    (refine (XH.out _).mono ?_; rintro e w12 ⟨rfl, hb12⟩)
    go_wp2_with fail
    refine hK.out _ _ ?hSn906 (fun hHeld2 => ?rest906)
    case hSn906 => (first | with_reducible exact R2.drew | with_reducible exact hHeld.below hb11 | with_reducible exact hHeld.below hb12)
    clear hK K hHeld
    have hHeld := hHeld2
    clear hHeld2
    try simp only [Act.put, List.setIfInBounds_toArray, List.set_cons_zero, List.set_cons_succ]
    refine wpAnyH_take (i := 6) (oi := _) (v := (Value.bool hx)) (List.getElem?_toArray.trans rfl) (by kernel_rfl) (by kernel_rfl) (by kernel_rfl) (fun _ _ _ h => h) (Or.inl ⟨by rfl, ?hy907⟩) (by assumption) ?rest907
    case hy907 => (intro wq hSw; (try simp only [Two, HV] at hSw); go_simp; (rw [hxy.out]; cases x <;> cases y <;> rfl))
    try simp only [Act.put, List.setIfInBounds_toArray, List.set_cons_zero, List.set_cons_succ]
    refine wpAnyH_take (i := 7) (oi := _) (v := ?v908) (List.getElem?_toArray.trans rfl) (by kernel_rfl) (by kernel_rfl) (by kernel_rfl) (fun _ _ _ h => h) (Or.inl ⟨by rfl, ?hy908⟩) (by assumption) ?rest908
    case hy908 => (intro wq hSw; (try simp only [Two, HV] at hSw); go_simp; try with_reducible rfl)
    try simp only [Act.put, List.setIfInBounds_toArray, List.set_cons_zero, List.set_cons_succ]
    refine wpAnyH_done (by kernel_rfl) ?fin900 _
    clear R2
    have R2 := hHeld
    clear hHeld XL XH hb11 hb12 hxy
    go_wp2_with fail
    refine wp_region_held_drew (S := (HV w w2.heap.size v ph pl b s ah al v ph pl (b + 1) v mh ml (b + 1))) (by kernel_rfl) ?hS1000 (fun hHeld => ?rest1000)
    case hS1000 => (first | with_reducible exact R2.drew | with_reducible exact hHeld.below hb20 | with_reducible exact hHeld.below hb21 | with_reducible exact hHeld.below hb22 | with_reducible exact hHeld.below hb23 | with_reducible exact hHeld.below hb24 | with_reducible exact hHeld.below hb25 | with_reducible exact hHeld.below hb26 | with_reducible exact hHeld.below hb27)
    refine wpAnyH_take (i := 0) (oi := _) (v := ?v1001) (List.getElem?_toArray.trans rfl) (by kernel_rfl) (by kernel_rfl) (by kernel_rfl) (fun _ _ _ h => h) (Or.inl ⟨by rfl, ?hy1001⟩) (by assumption) ?rest1001
    case hy1001 => (intro wq hSw; (try simp only [Two, HV] at hSw); go_simp; try with_reducible rfl)
    try simp only [Act.put, List.setIfInBounds_toArray, List.set_cons_zero, List.set_cons_succ]
    refine wpAnyH_take (i := 1) (oi := _) (v := ?v1002) (List.getElem?_toArray.trans rfl) (by kernel_rfl) (by kernel_rfl) (by kernel_rfl) (fun _ _ _ h => h) (Or.inl ⟨by rfl, ?hy1002⟩) (by assumption) ?rest1002
    case hy1002 => (intro wq hSw; (try simp only [Two, HV] at hSw); go_simp; try with_reducible rfl)
    try simp only [Act.put, List.setIfInBounds_toArray, List.set_cons_zero, List.set_cons_succ]
    refine wpAnyH_take (i := 2) (oi := _) (v := ?v1003) (List.getElem?_toArray.trans rfl) (by kernel_rfl) (by kernel_rfl) (by kernel_rfl) (fun _ _ _ h => h) (Or.inl ⟨by rfl, ?hy1003⟩) (by assumption) ?rest1003
    case hy1003 => (intro wq hSw; (try simp only [Two, HV] at hSw); go_simp; try with_reducible rfl)
    try simp only [Act.put, List.setIfInBounds_toArray, List.set_cons_zero, List.set_cons_succ]
    refine wpAnyH_take (i := 3) (oi := _) (v := ?v1004) (List.getElem?_toArray.trans rfl) (by kernel_rfl) (by kernel_rfl) (by kernel_rfl) (fun _ _ _ h => h) (Or.inl ⟨by rfl, ?hy1004⟩) (by assumption) ?rest1004
    case hy1004 => (intro wq hSw; (try simp only [Two, HV] at hSw); go_simp; try with_reducible rfl)
    try simp only [Act.put, List.setIfInBounds_toArray, List.set_cons_zero, List.set_cons_succ]
    refine wpAnyH_take (i := 4) (oi := _) (v := ?v1005) (List.getElem?_toArray.trans rfl) (by kernel_rfl) (by kernel_rfl) (by kernel_rfl) (fun _ _ _ h => h) (Or.inl ⟨by rfl, ?hy1005⟩) (by assumption) ?rest1005
    case hy1005 => (intro wq hSw; (try simp only [Two, HV] at hSw); go_simp; try with_reducible rfl)
    try simp only [Act.put, List.setIfInBounds_toArray, List.set_cons_zero, List.set_cons_succ]
    refine wpAnyH_take (i := 5) (oi := _) (v := ?v1006) (List.getElem?_toArray.trans rfl) (by kernel_rfl) (by kernel_rfl) (by kernel_rfl) (fun _ _ _ h => h) (Or.inl ⟨by rfl, ?hy1006⟩) (by assumption) ?rest1006
    case hy1006 => (intro wq hSw; (try simp only [Two, HV] at hSw); go_simp; try with_reducible rfl)
    try simp only [Act.put, List.setIfInBounds_toArray, List.set_cons_zero, List.set_cons_succ]
    refine wpAnyH_ready (rs := [6]) (by kernel_rfl) (by simp) ?rdy1007
    refine AllReadyH.cons (List.getElem?_toArray.trans rfl) (fun K hK => ?stp1007) AllReadyH.nil
    go_simp
    go_wp2_with fail
    (refine (CX.out _).mono ?_; rintro e w20 ⟨rfl, hb20⟩)
    go_wp2_with fail
    refine hK.out _ _ ?hSn1007 (fun hHeld2 => ?rest1007)
    case hSn1007 => (first | with_reducible exact R2.drew | with_reducible exact hHeld.below hb20 | with_reducible exact hHeld.below hb21 | with_reducible exact hHeld.below hb22 | with_reducible exact hHeld.below hb23 | with_reducible exact hHeld.below hb24 | with_reducible exact hHeld.below hb25 | with_reducible exact hHeld.below hb26 | with_reducible exact hHeld.below hb27)
    clear hK K hHeld
    have hHeld := hHeld2
    clear hHeld2
    try simp only [Act.put, List.setIfInBounds_toArray, List.set_cons_zero, List.set_cons_succ]
    refine wpAnyH_take (i := 7) (oi := _) (v := ?v1008) (List.getElem?_toArray.trans rfl) (by kernel_rfl) (by kernel_rfl) (by kernel_rfl) (fun _ _ _ h => h) (Or.inl ⟨by rfl, ?hy1008⟩) (by assumption) ?rest1008
    case hy1008 => (intro wq hSw; (try simp only [Two, HV] at hSw); go_simp; try with_reducible rfl)
    try simp only [Act.put, List.setIfInBounds_toArray, List.set_cons_zero, List.set_cons_succ]
    refine wpAnyH_take (i := 8) (oi := _) (v := ?v1009) (List.getElem?_toArray.trans rfl) (by kernel_rfl) (by kernel_rfl) (by kernel_rfl) (fun _ _ _ h => h) (Or.inl ⟨by rfl, ?hy1009⟩) (by assumption) ?rest1009
    case hy1009 => (intro wq hSw; (try simp only [Two, HV] at hSw); go_simp; try with_reducible rfl)
    try simp only [Act.put, List.setIfInBounds_toArray, List.set_cons_zero, List.set_cons_succ]
    refine wpAnyH_take (i := 9) (oi := _) (v := ?v1010) (List.getElem?_toArray.trans rfl) (by kernel_rfl) (by kernel_rfl) (by kernel_rfl) (fun _ _ _ h => h) (Or.inl ⟨by rfl, ?hy1010⟩) (by assumption) ?rest1010
    case hy1010 => (intro wq hSw; (try simp only [Two, HV] at hSw); go_simp; try with_reducible rfl)
    try simp only [Act.put, List.setIfInBounds_toArray, List.set_cons_zero, List.set_cons_succ]
    refine wpAnyH_take (i := 10) (oi := _) (v := ?v1011) (List.getElem?_toArray.trans rfl) (by kernel_rfl) (by kernel_rfl) (by kernel_rfl) (fun _ _ _ h => h) (Or.inl ⟨by rfl, ?hy1011⟩) (by assumption) ?rest1011
    case hy1011 => (intro wq hSw; (try simp only [Two, HV] at hSw); go_simp; try with_reducible rfl)
    try simp only [Act.put, List.setIfInBounds_toArray, List.set_cons_zero, List.set_cons_succ]
    refine wpAnyH_take (i := 12) (oi := _) (v := ?v1012) (List.getElem?_toArray.trans rfl) (by kernel_rfl) (by kernel_rfl) (by kernel_rfl) (fun _ _ _ h => h) (Or.inl ⟨by rfl, ?hy1012⟩) (by assumption) ?rest1012
    case hy1012 => (intro wq hSw; (try simp only [Two, HV] at hSw); go_simp; try with_reducible rfl)
    try simp only [Act.put, List.setIfInBounds_toArray, List.set_cons_zero, List.set_cons_succ]
    refine wpAnyH_ready (rs := [11]) (by kernel_rfl) (by simp) ?rdy1013
    refine AllReadyH.cons (List.getElem?_toArray.trans rfl) (fun K hK => ?stp1013) AllReadyH.nil
    go_simp
    go_wp2_with fail
    (refine (FL.out _).mono ?_; rintro e w21 ⟨rfl, hb21⟩)
    go_wp2_with fail
    refine hK.out _ _ ?hSn1013 (fun hHeld2 => ?rest1013)
    case hSn1013 => (first | with_reducible exact R2.drew | with_reducible exact hHeld.below hb20 | with_reducible exact hHeld.below hb21 | with_reducible exact hHeld.below hb22 | with_reducible exact hHeld.below hb23 | with_reducible exact hHeld.below hb24 | with_reducible exact hHeld.below hb25 | with_reducible exact hHeld.below hb26 | with_reducible exact hHeld.below hb27)
    clear hK K hHeld
    have hHeld := hHeld2
    clear hHeld2
    try simp only [Act.put, List.setIfInBounds_toArray, List.set_cons_zero, List.set_cons_succ]
    refine wpAnyH_ready (rs := [13]) (by kernel_rfl) (by simp) ?rdy1014
    refine AllReadyH.cons (List.getElem?_toArray.trans rfl) (fun K hK => ?stp1014) AllReadyH.nil
    go_simp
    go_wp2_with fail
    (refine (CF.out _).mono ?_; rintro e w22 ⟨rfl, hb22⟩)
    go_wp2_with fail
    refine hK.out _ _ ?hSn1014 (fun hHeld2 => ?rest1014)
    case hSn1014 => (first | with_reducible exact R2.drew | with_reducible exact hHeld.below hb20 | with_reducible exact hHeld.below hb21 | with_reducible exact hHeld.below hb22 | with_reducible exact hHeld.below hb23 | with_reducible exact hHeld.below hb24 | with_reducible exact hHeld.below hb25 | with_reducible exact hHeld.below hb26 | with_reducible exact hHeld.below hb27)
    clear hK K hHeld
    have hHeld := hHeld2
    clear hHeld2
    try simp only [Act.put, List.setIfInBounds_toArray, List.set_cons_zero, List.set_cons_succ]
    refine wpAnyH_take (i := 14) (oi := _) (v := ?v1015) (List.getElem?_toArray.trans rfl) (by kernel_rfl) (by kernel_rfl) (by kernel_rfl) (fun _ _ _ h => h) (Or.inl ⟨by rfl, ?hy1015⟩) (by assumption) ?rest1015
    case hy1015 => (intro wq hSw; (try simp only [Two, HV] at hSw); go_simp; try with_reducible rfl)
    try simp only [Act.put, List.setIfInBounds_toArray, List.set_cons_zero, List.set_cons_succ]
    refine wpAnyH_take (i := 15) (oi := _) (v := ?v1016) (List.getElem?_toArray.trans rfl) (by kernel_rfl) (by kernel_rfl) (by kernel_rfl) (fun _ _ _ h => h) (Or.inl ⟨by rfl, ?hy1016⟩) (by assumption) ?rest1016
    case hy1016 => (intro wq hSw; (try simp only [Two, HV] at hSw); go_simp; try with_reducible rfl)
    try simp only [Act.put, List.setIfInBounds_toArray, List.set_cons_zero, List.set_cons_succ]
    refine wpAnyH_take (i := 16) (oi := _) (v := ?v1017) (List.getElem?_toArray.trans rfl) (by kernel_rfl) (by kernel_rfl) (by kernel_rfl) (fun _ _ _ h => h) (Or.inl ⟨by rfl, ?hy1017⟩) (by assumption) ?rest1017
    case hy1017 => (intro wq hSw; (try simp only [Two, HV] at hSw); go_simp; try with_reducible rfl)
    try simp only [Act.put, List.setIfInBounds_toArray, List.set_cons_zero, List.set_cons_succ]
    refine wpAnyH_take (i := 17) (oi := _) (v := ?v1018) (List.getElem?_toArray.trans rfl) (by kernel_rfl) (by kernel_rfl) (by kernel_rfl) (fun _ _ _ h => h) (Or.inl ⟨by rfl, ?hy1018⟩) (by assumption) ?rest1018
    case hy1018 => (intro wq hSw; (try simp only [Two, HV] at hSw); go_simp; try with_reducible rfl)
    try simp only [Act.put, List.setIfInBounds_toArray, List.set_cons_zero, List.set_cons_succ]
    refine wpAnyH_take (i := 19) (oi := _) (v := ?v1019) (List.getElem?_toArray.trans rfl) (by kernel_rfl) (by kernel_rfl) (by kernel_rfl) (fun _ _ _ h => h) (Or.inl ⟨by rfl, ?hy1019⟩) (by assumption) ?rest1019
    case hy1019 => (intro wq hSw; (try simp only [Two, HV] at hSw); go_simp; try with_reducible rfl)
    try simp only [Act.put, List.setIfInBounds_toArray, List.set_cons_zero, List.set_cons_succ]
    refine wpAnyH_ready (rs := [18]) (by kernel_rfl) (by simp) ?rdy1020
    refine AllReadyH.cons (List.getElem?_toArray.trans rfl) (fun K hK => ?stp1020) AllReadyH.nil
    go_simp
    go_wp2_with fail
    (refine (LH.out _).mono ?_; rintro e w23 ⟨rfl, hb23⟩)
    go_wp2_with fail
    refine hK.out _ _ ?hSn1020 (fun hHeld2 => ?rest1020)
    case hSn1020 => (first | with_reducible exact R2.drew | with_reducible exact hHeld.below hb20 | with_reducible exact hHeld.below hb21 | with_reducible exact hHeld.below hb22 | with_reducible exact hHeld.below hb23 | with_reducible exact hHeld.below hb24 | with_reducible exact hHeld.below hb25 | with_reducible exact hHeld.below hb26 | with_reducible exact hHeld.below hb27)
    clear hK K hHeld
    have hHeld := hHeld2
    clear hHeld2
    try simp only [Act.put, List.setIfInBounds_toArray, List.set_cons_zero, List.set_cons_succ]
    refine wpAnyH_ready (rs := [20]) (by kernel_rfl) (by simp) ?rdy1021
    refine AllReadyH.cons (List.getElem?_toArray.trans rfl) (fun K hK => ?stp1021) AllReadyH.nil
    go_simp
    go_wp2_with fail
    (refine (CL.out _).mono ?_; rintro e w24 ⟨rfl, hb24⟩)
    go_wp2_with fail
    refine hK.out _ _ ?hSn1021 (fun hHeld2 => ?rest1021)
    case hSn1021 => (first | with_reducible exact R2.drew | with_reducible exact hHeld.below hb20 | with_reducible exact hHeld.below hb21 | with_reducible exact hHeld.below hb22 | with_reducible exact hHeld.below hb23 | with_reducible exact hHeld.below hb24 | with_reducible exact hHeld.below hb25 | with_reducible exact hHeld.below hb26 | with_reducible exact hHeld.below hb27)
    clear hK K hHeld
    have hHeld := hHeld2
    clear hHeld2
    try simp only [Act.put, List.setIfInBounds_toArray, List.set_cons_zero, List.set_cons_succ]
    refine wpAnyH_take (i := 21) (oi := _) (v := ?v1022) (List.getElem?_toArray.trans rfl) (by kernel_rfl) (by kernel_rfl) (by kernel_rfl) (fun _ _ _ h => h) (Or.inl ⟨by rfl, ?hy1022⟩) (by assumption) ?rest1022
    case hy1022 => (intro wq hSw; (try simp only [Two, HV] at hSw); go_simp; try with_reducible rfl)
    try simp only [Act.put, List.setIfInBounds_toArray, List.set_cons_zero, List.set_cons_succ]
    refine wpAnyH_take (i := 22) (oi := _) (v := ?v1023) (List.getElem?_toArray.trans rfl) (by kernel_rfl) (by kernel_rfl) (by kernel_rfl) (fun _ _ _ h => h) (Or.inl ⟨by rfl, ?hy1023⟩) (by assumption) ?rest1023
    case hy1023 => (intro wq hSw; (try simp only [Two, HV] at hSw); go_simp; try with_reducible rfl)
    try simp only [Act.put, List.setIfInBounds_toArray, List.set_cons_zero, List.set_cons_succ]
    refine wpAnyH_take (i := 23) (oi := _) (v := ?v1024) (List.getElem?_toArray.trans rfl) (by kernel_rfl) (by kernel_rfl) (by kernel_rfl) (fun _ _ _ h => h) (Or.inl ⟨by rfl, ?hy1024⟩) (by assumption) ?rest1024
    case hy1024 => (intro wq hSw; (try simp only [Two, HV] at hSw); go_simp; try with_reducible rfl)
    try simp only [Act.put, List.setIfInBounds_toArray, List.set_cons_zero, List.set_cons_succ]
    refine wpAnyH_take (i := 24) (oi := _) (v := ?v1025) (List.getElem?_toArray.trans rfl) (by kernel_rfl) (by kernel_rfl) (by kernel_rfl) (fun _ _ _ h => h) (Or.inl ⟨by rfl, ?hy1025⟩) (by assumption) ?rest1025
    case hy1025 => (intro wq hSw; (try simp only [Two, HV] at hSw); go_simp; try with_reducible rfl)
    try simp only [Act.put, List.setIfInBounds_toArray, List.set_cons_zero, List.set_cons_succ]
    refine wpAnyH_take (i := 25) (oi := _) (v := ?v1026) (List.getElem?_toArray.trans rfl) (by kernel_rfl) (by kernel_rfl) (by kernel_rfl) (fun _ _ _ h => h) (Or.inl ⟨by rfl, ?hy1026⟩) (by assumption) ?rest1026
    case hy1026 => (intro wq hSw; (try simp only [Two, HV] at hSw); go_simp; try with_reducible rfl)
    try simp only [Act.put, List.setIfInBounds_toArray, List.set_cons_zero, List.set_cons_succ]
    refine wpAnyH_ready (rs := [26]) (by kernel_rfl) (by simp) ?rdy1027
    refine AllReadyH.cons (List.getElem?_toArray.trans rfl) (fun K hK => ?stp1027) AllReadyH.nil
    go_simp
    go_wp2_with fail
    (refine (OV.out _).mono ?_; rintro e w25 ⟨rfl, hb25⟩)
    go_wp2_with fail
    refine hK.out _ _ ?hSn1027 (fun hHeld2 => ?rest1027)
    case hSn1027 => (first | with_reducible exact R2.drew | with_reducible exact hHeld.below hb20 | with_reducible exact hHeld.below hb21 | with_reducible exact hHeld.below hb22 | with_reducible exact hHeld.below hb23 | with_reducible exact hHeld.below hb24 | with_reducible exact hHeld.below hb25 | with_reducible exact hHeld.below hb26 | with_reducible exact hHeld.below hb27)
    clear hK K hHeld
    have hHeld := hHeld2
    clear hHeld2
    try simp only [Act.put, List.setIfInBounds_toArray, List.set_cons_zero, List.set_cons_succ]
    refine wpAnyH_take (i := 27) (oi := _) (v := ?v1028) (List.getElem?_toArray.trans rfl) (by kernel_rfl) (by kernel_rfl) (by kernel_rfl) (fun _ _ _ h => h) (Or.inl ⟨by rfl, ?hy1028⟩) (by assumption) ?rest1028
    case hy1028 => (intro wq hSw; (try simp only [Two, HV] at hSw); go_simp; try with_reducible rfl)
    try simp only [Act.put, List.setIfInBounds_toArray, List.set_cons_zero, List.set_cons_succ]
    refine wpAnyH_take (i := 28) (oi := _) (v := ?v1029) (List.getElem?_toArray.trans rfl) (by kernel_rfl) (by kernel_rfl) (by kernel_rfl) (fun _ _ _ h => h) (Or.inl ⟨by rfl, ?hy1029⟩) (by assumption) ?rest1029
    case hy1029 => (intro wq hSw; (try simp only [Two, HV] at hSw); go_simp; try with_reducible rfl)
    try simp only [Act.put, List.setIfInBounds_toArray, List.set_cons_zero, List.set_cons_succ]
    refine wpAnyH_take (i := 29) (oi := _) (v := ?v1030) (List.getElem?_toArray.trans rfl) (by kernel_rfl) (by kernel_rfl) (by kernel_rfl) (fun _ _ _ h => h) (Or.inl ⟨by rfl, ?hy1030⟩) (by assumption) ?rest1030
    case hy1030 => (intro wq hSw; (try simp only [Two, HV] at hSw); go_simp; try with_reducible rfl)
    try simp only [Act.put, List.setIfInBounds_toArray, List.set_cons_zero, List.set_cons_succ]
    refine wpAnyH_take (i := 30) (oi := _) (v := ?v1031) (List.getElem?_toArray.trans rfl) (by kernel_rfl) (by kernel_rfl) (by kernel_rfl) (fun _ _ _ h => h) (Or.inl ⟨by rfl, ?hy1031⟩) (by assumption) ?rest1031
    case hy1031 => (intro wq hSw; (try simp only [Two, HV] at hSw); go_simp; try with_reducible rfl)
    try simp only [Act.put, List.setIfInBounds_toArray, List.set_cons_zero, List.set_cons_succ]
    refine wpAnyH_take (i := 31) (oi := _) (v := ?v1032) (List.getElem?_toArray.trans rfl) (by kernel_rfl) (by kernel_rfl) (by kernel_rfl) (fun _ _ _ h => h) (Or.inl ⟨by rfl, ?hy1032⟩) (by assumption) ?rest1032
    case hy1032 => (intro wq hSw; (try simp only [Two, HV] at hSw); go_simp; try with_reducible rfl)
    try simp only [Act.put, List.setIfInBounds_toArray, List.set_cons_zero, List.set_cons_succ]
    refine wpAnyH_ready (rs := [32]) (by kernel_rfl) (by simp) ?rdy1033
    refine AllReadyH.cons (List.getElem?_toArray.trans rfl) (fun K hK => ?stp1033) AllReadyH.nil
    go_simp
    go_wp2_with fail
    (refine (M1.out _).mono ?_; rintro e w26 ⟨rfl, hb26⟩)
    go_wp2_with fail
    refine hK.out _ _ ?hSn1033 (fun hHeld2 => ?rest1033)
    case hSn1033 => (first | with_reducible exact R2.drew | with_reducible exact hHeld.below hb20 | with_reducible exact hHeld.below hb21 | with_reducible exact hHeld.below hb22 | with_reducible exact hHeld.below hb23 | with_reducible exact hHeld.below hb24 | with_reducible exact hHeld.below hb25 | with_reducible exact hHeld.below hb26 | with_reducible exact hHeld.below hb27)
    clear hK K hHeld
    have hHeld := hHeld2
    clear hHeld2
    try simp only [Act.put, List.setIfInBounds_toArray, List.set_cons_zero, List.set_cons_succ]
    refine wpAnyH_take (i := 33) (oi := _) (v := ?v1034) (List.getElem?_toArray.trans rfl) (by kernel_rfl) (by kernel_rfl) (by kernel_rfl) (fun _ _ _ h => h) (Or.inl ⟨by rfl, ?hy1034⟩) (by assumption) ?rest1034
    case hy1034 => (intro wq hSw; (try simp only [Two, HV] at hSw); go_simp; try with_reducible rfl)
    try simp only [Act.put, List.setIfInBounds_toArray, List.set_cons_zero, List.set_cons_succ]
    refine wpAnyH_take (i := 34) (oi := _) (v := ?v1035) (List.getElem?_toArray.trans rfl) (by kernel_rfl) (by kernel_rfl) (by kernel_rfl) (fun _ _ _ h => h) (Or.inl ⟨by rfl, ?hy1035⟩) (by assumption) ?rest1035
    case hy1035 => (intro wq hSw; (try simp only [Two, HV] at hSw); go_simp; try with_reducible rfl)
    try simp only [Act.put, List.setIfInBounds_toArray, List.set_cons_zero, List.set_cons_succ]
    refine wpAnyH_take (i := 35) (oi := _) (v := ?v1036) (List.getElem?_toArray.trans rfl) (by kernel_rfl) (by kernel_rfl) (by kernel_rfl) (fun _ _ _ h => h) (Or.inl ⟨by rfl, ?hy1036⟩) (by assumption) ?rest1036
    case hy1036 => (intro wq hSw; (try simp only [Two, HV] at hSw); go_simp; try with_reducible rfl)
    try simp only [Act.put, List.setIfInBounds_toArray, List.set_cons_zero, List.set_cons_succ]
    refine wpAnyH_take (i := 36) (oi := _) (v := ?v1037) (List.getElem?_toArray.trans rfl) (by kernel_rfl) (by kernel_rfl) (by kernel_rfl) (fun _ _ _ h => h) (Or.inl ⟨by rfl, ?hy1037⟩) (by assumption) ?rest1037
    case hy1037 => (intro wq hSw; (try simp only [Two, HV] at hSw); go_simp; try with_reducible rfl)
    try simp only [Act.put, List.setIfInBounds_toArray, List.set_cons_zero, List.set_cons_succ]
    refine wpAnyH_take (i := 37) (oi := _) (v := ?v1038) (List.getElem?_toArray.trans rfl) (by kernel_rfl) (by kernel_rfl) (by kernel_rfl) (fun _ _ _ h => h) (Or.inl ⟨by rfl, ?hy1038⟩) (by assumption) ?rest1038
    case hy1038 => (intro wq hSw; (try simp only [Two, HV] at hSw); go_simp; try with_reducible rfl)
    try simp only [Act.put, List.setIfInBounds_toArray, List.set_cons_zero, List.set_cons_succ]
    refine wpAnyH_ready (rs := [38]) (by kernel_rfl) (by simp) ?rdy1039
    refine AllReadyH.cons (List.getElem?_toArray.trans rfl) (fun K hK => ?stp1039) AllReadyH.nil
    go_simp
    go_wp2_with fail
    (refine (M2.out _).mono ?_; rintro e w27 ⟨rfl, hb27⟩)
    go_wp2_with fail
    refine hK.out _ _ ?hSn1039 (fun hHeld2 => ?rest1039)
    case hSn1039 => (first | with_reducible exact R2.drew | with_reducible exact hHeld.below hb20 | with_reducible exact hHeld.below hb21 | with_reducible exact hHeld.below hb22 | with_reducible exact hHeld.below hb23 | with_reducible exact hHeld.below hb24 | with_reducible exact hHeld.below hb25 | with_reducible exact hHeld.below hb26 | with_reducible exact hHeld.below hb27)
    clear hK K hHeld
    have hHeld := hHeld2
    clear hHeld2
    try simp only [Act.put, List.setIfInBounds_toArray, List.set_cons_zero, List.set_cons_succ]
    refine wpAnyH_take (i := 39) (oi := _) (v := ?v1040) (List.getElem?_toArray.trans rfl) (by kernel_rfl) (by kernel_rfl) (by kernel_rfl) (fun _ _ _ h => h) (Or.inl ⟨by rfl, ?hy1040⟩) (by assumption) ?rest1040
    case hy1040 => (intro wq hSw; (try simp only [Two, HV] at hSw); go_simp; try with_reducible rfl)
    try simp only [Act.put, List.setIfInBounds_toArray, List.set_cons_zero, List.set_cons_succ]
    refine wpAnyH_take (i := 40) (oi := _) (v := ?v1041) (List.getElem?_toArray.trans rfl) (by kernel_rfl) (by kernel_rfl) (by kernel_rfl) (fun _ _ _ h => h) (Or.inl ⟨by rfl, ?hy1041⟩) (by assumption) ?rest1041
    case hy1041 => (intro wq hSw; (try simp only [Two, HV] at hSw); go_simp; try with_reducible rfl)
    try simp only [Act.put, List.setIfInBounds_toArray, List.set_cons_zero, List.set_cons_succ]
    refine wpAnyH_take (i := 41) (oi := _) (v := ?v1042) (List.getElem?_toArray.trans rfl) (by kernel_rfl) (by kernel_rfl) (by kernel_rfl) (fun _ _ _ h => h) (Or.inl ⟨by rfl, ?hy1042⟩) (by assumption) ?rest1042
    case hy1042 => (intro wq hSw; (try simp only [Two, HV] at hSw); go_simp; try with_reducible rfl)
    try simp only [Act.put, List.setIfInBounds_toArray, List.set_cons_zero, List.set_cons_succ]
    refine wpAnyH_done (by kernel_rfl) ?fin1000 _
    go_wp2
    go_ret
    exact ⟨by first | rfl | simp, hHeld.2.2.2.2.2⟩

theorem halves_walk {v s : Bool} {ph pl b ah al : Int} {n a : Nat} (hp : IsNum ph pl n) (ha : IsNum ah al a) (w : World) (hL : LW w)
    (aw : ∀ w, LW w → Calls Tryz.prog 11 #[] w fun e w' => e = .returned (.bool true) ∧ Below w.heap.size w w') :
    Calls Tryz.prog 3 #[pv v ph pl b, av s ah al] w fun e w' => e = .returned (.bool true) ∧ Below w.heap.size w w' := by
  cases hk : okP v n b
  · exact halves_wrong hp ha hk w hL aw
  · have h := (fitsB_parts (okP_parts hk).1).2.2
    by_cases hW : widthA v = b
    · exact halves_full hp ha hk hW w hL aw
    · exact halves_two hp ha hk (by omega) w hL aw
end Go.Proofs.YtmhnfgfdggjdhaaGreatDoor
