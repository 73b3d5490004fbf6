/-
  Texts Po6, Po7, PoR of the proof.
-/
import Derived.Test.YtighdocmncbdnaaGreatDoorQOn44
import Derived.Test.YtighdocmncbdnaaGreatDoorQOn25
import Derived.Test.YtighdocmncbdnaaGreatDoorQOn31

namespace Go.Proofs.YtighdocmncbdnaaGreatDoor
open Go.ChangeShapes Go.WideShapes Go.ChangeAt Go.RowKit
set_option linter.unusedVariables false
set_option linter.unusedSimpArgs false

theorem PoAt.keep {B : Nat} {W W' : World} {v : Bool} {h l b : Int} {x a g N : Nat} {f : Nat → Bool} (P : PoAt W v h l b x a g N f) (k : Below B W W') (hx : x < B) (ha : a < B) (hg : g < B) : PoAt W' v h l b x a g N f :=
  have q : But [] B W W' := But.of k (Nat.le_refl _)
  ⟨q.blk P.hd hx (by simp), P.m.but q ha hg (by simp) (by simp)⟩

set_option maxHeartbeats 1600000 in
theorem poNext_full {v : Bool} {h l b i : Int} {x a g N : Nat} {f : Nat → Bool} (h0 : 0 < N) (i0 : -9223372036854775808 ≤ i) (i1 : i ≤ 9223372036854775807) (hf : nextF f N (i.toNat % N) = none) (w : World) (hT : TB w) (P0 : PoAt w v h l b x a g N f) :
    Calls Tryz.prog 36 #[.pointer (some ⟨x, 0, none⟩), .int .i64 i] w fun e w' => e = .returned (.tuple #[av false 0 0, .int .i64 9]) ∧ Below w.heap.size w w' := by
  have bl : Below w.heap.size w (w.alloc (.cells #[.bool false, .int .u64 0, .int .u64 0] 26)) := by repeat (first | with_reducible exact Below.refl _ _ | with_reducible refine Below.drew ?_ | with_reducible refine Below.alloc ?_ (by first | omega | (simp <;> omega)) _ | with_reducible refine Below.setCell ?_ (by first | omega | (simp <;> omega)) _)
  have NX := next_ok a g N f i i0 i1 h0 _ (P0.m.below bl) (hT.below bl)
  rw [show nxP f N (i.toNat % N) = 0 from by unfold nxP; rw [hf]; rfl, show nxB f N (i.toNat % N) = false from by unfold nxB; rw [hf]; rfl] at NX
  have NH := hide NX
  obtain ⟨x0, x1, x2, x3, x4, xl⟩ := P0.hd.five
  have RB := Blk.new w #[.bool false, .int .u64 0, .int .u64 0] 26
  have RH := hide RB
  have BH := hide bl
  clear bl NX P0 hT RB hf
  go_enter Tryz.func36, Tryz.ntmps36
  go_wp2_with fail
  refine NH.out.mono ?_
  rintro e w1 ⟨rfl, hb⟩
  have R1 := RH.out.below hb
  obtain ⟨r0, r1, r2, r3, r4, r5, r6⟩ := R1.three
  have B := BH.out.trans (hb.mono BH.out.size)
  have hs := B.size
  clear NH RH BH hb R1
  go_wp2
  refine bodyPost_ret (v := .tuple #[av false 0 0, .int .i64 9]) (by simp [results, Tryz.results36, go_sem, World.cell?_setCell_same', World.cell?_setCell_other, *]) rfl ⟨rfl, by repeat (first | with_reducible exact Below.refl _ _ | with_reducible refine Below.drew ?_ | with_reducible refine Below.alloc ?_ (by first | omega | (simp <;> omega)) _ | with_reducible refine Below.setCell ?_ (by first | omega | (simp <;> omega)) _ | with_reducible refine Below.trans ?_ (Below.mono B (by first | omega | (simp <;> omega))))⟩

set_option maxHeartbeats 1600000 in
theorem poNext_ok {v : Bool} {h l b i rh rl : Int} {x a g n p : Nat} {f : Nat → Bool} (hp : IsNum h l n) (h0 : 0 < szP v n b) (i0 : -9223372036854775808 ≤ i) (i1 : i ≤ 9223372036854775807) (hf : nextF f (szP v n b) (i.toNat % szP v n b) = some p) (hr : IsNum rh rl (n + p)) (w : World) (hT : TB w) (P0 : PoAt w v h l b x a g (szP v n b) f) :
    Calls Tryz.prog 36 #[.pointer (some ⟨x, 0, none⟩), .int .i64 i] w fun e w' => e = .returned (.tuple #[av v rh rl, .int .i64 0]) ∧ PoAt w' v h l b x a g (szP v n b) (upd f p true) ∧ But [g] w.heap.size w w' := by
  have ok := szP_ok h0
  obtain ⟨hpn, hfp⟩ := nextF_is (Nat.mod_lt _ h0) hf
  have le := szP_le (v := v) (n := n) (b := b)
  have HO := hide (fun w' hx => host_c (a := a) (x := x) hp ok hpn hr w' hx)
  obtain ⟨N, hN⟩ : ∃ N, szP v n b = N := ⟨_, rfl⟩
  rw [hN] at h0 hf hpn le P0 ⊢
  have bl : Below w.heap.size w (w.alloc (.cells #[.bool false, .int .u64 0, .int .u64 0] 26)) := by repeat (first | with_reducible exact Below.refl _ _ | with_reducible refine Below.drew ?_ | with_reducible refine Below.alloc ?_ (by first | omega | (simp <;> omega)) _ | with_reducible refine Below.setCell ?_ (by first | omega | (simp <;> omega)) _)
  have NX := next_ok a g N f i i0 i1 h0 _ (P0.m.below bl) (hT.below bl)
  rw [show nxP f N (i.toNat % N) = p from by unfold nxP; rw [hf]; rfl, show nxB f N (i.toNat % N) = true from by unfold nxB; rw [hf]; rfl] at NX
  have NH := hide NX
  obtain ⟨x0, x1, x2, x3, x4, xl⟩ := P0.hd.five
  have l4 := P0.m.lt
  have P1 := hide (P0.below bl)
  have RB := Blk.new w #[.bool false, .int .u64 0, .int .u64 0] 26
  have RH := hide RB
  have BH := hide bl
  have hp6 : (p : Int) < 65536 := by omega
  have HF := hide hfp
  clear bl NX P0 hT RB hf hp ok hr hN hfp
  go_enter Tryz.func36, Tryz.ntmps36
  go_wp2_with fail
  refine NH.out.mono ?_
  rintro e w1 ⟨rfl, hb⟩
  have P2 := P1.out.below hb
  have R1 := hide (RH.out.below hb)
  have B1 := hide (BH.out.trans (hb.mono BH.out.size))
  have PT := hide (put_new a g N p f hpn HF.out w1 P2.m)
  obtain ⟨y0, y1, y2, y3, y4, yl⟩ := P2.hd.five
  have PH2 := hide P2
  clear NH RH BH hb P1 P2 HF x0 x1 x2 x3 x4
  go_wp2_with fail
  refine PT.out.mono ?_
  rintro e w2 ⟨rfl, hM, hK⟩
  have P3 := PH2.out.turn hM hK
  have R2 := hide (hK.blk R1.out R1.out.lt (by simp; omega))
  have B2 := hide ((But.of (L := [g]) B1.out (Nat.le_refl _)).trans (hK.mono B1.out.size (fun x hx _ => hx)))
  have HOW := hide (HO.out w2 P3.hd)
  have PH3 := hide P3
  clear PT hM hK PH2 R1 B1 P3 HO y0 y1 y2 y3 y4
  go_wp2_with fail
  refine HOW.out.mono ?_
  rintro e w3 ⟨rfl, hb⟩
  have R3 := R2.out.below hb
  obtain ⟨r0, r1, r2, r3, r4, r5, r6⟩ := R3.three
  have P4 := hide (PH3.out.below hb)
  have B3 := hide (B2.out.trans (But.of (L := [g]) hb B2.out.size))
  have hs : w.heap.size ≤ w3.heap.size := B3.out.size
  clear HOW hb R2 B2 PH3 R3
  go_wp2
  have E : ∀ W', Below w.heap.size w3 W' → PoAt W' v h l b x a g N (upd f p true) ∧ But [g] w.heap.size w W' := fun W' k => ⟨P4.out.keep k xl l4.1 l4.2.1, B3.out.trans (But.of k (Nat.le_refl _))⟩
  refine bodyPost_ret (v := .tuple #[av v rh rl, .int .i64 0]) (by simp [results, Tryz.results36, go_sem, World.cell?_setCell_same', World.cell?_setCell_other, *]) rfl ⟨rfl, E _ (by repeat (first | with_reducible exact Below.refl _ _ | with_reducible refine Below.drew ?_ | with_reducible refine Below.alloc ?_ (by first | omega | (simp <;> omega)) _ | with_reducible refine Below.setCell ?_ (by first | omega | (simp <;> omega)) _))⟩

set_option maxHeartbeats 1600000 in
theorem poLeft_c {v : Bool} {h l b : Int} {x a g N : Nat} {f : Nat → Bool} {C : Int} (hC : (N : Int) - (cnt f N : Nat) = C) (w : World) (P0 : PoAt w v h l b x a g N f) :
    Calls Tryz.prog 20 #[.pointer (some ⟨x, 0, none⟩)] w fun e w' => e = .returned (.int .i64 C) ∧ Below w.heap.size w w' := by
  have PH := hide P0
  obtain ⟨x0, x1, x2, x3, x4, xl⟩ := P0.hd.five
  have K0 : Kn w [(x, [.bool v, .int .u64 h, .int .u64 l, .int .i64 b, .pointer (some ⟨a, 0, none⟩)], 90)] w := (Kn.nil w).cons P0.hd
  have l4 := P0.m.lt
  have hcl : cnt f N ≤ N := cnt_le _ _
  obtain ⟨c, hc⟩ : ∃ c, cnt f N = c := ⟨_, rfl⟩
  have CC := hide (fun w' H => count_ok a g N f w' H)
  rw [hc] at CC hcl hC
  have hsub : IntKind.i64.wrap ((N : Int) - c) = C := by rw [← hC]; simp [IntKind.wrap, IntKind.bits, IntKind.signed]; omega
  have hCC : IntKind.i64.wrap C = C := by rw [← hC]; simp [IntKind.wrap, IntKind.bits, IntKind.signed]; omega
  clear P0 hc
  go_enter Tryz.func20, Tryz.ntmps20
  go_wp2_with fail
  refine wp_region_held_drew (S := (Kn w [(x, [.bool v, .int .u64 h, .int .u64 l, .int .i64 b, .pointer (some ⟨a, 0, none⟩)], 90)])) (by kernel_rfl) ?hS100 (fun hHeld => ?rest100)
  case hS100 => (first | with_reducible exact K0.drew | with_reducible exact hHeld | with_reducible exact hHeld.below hb5)
  refine wpAnyH_take (i := 0) (oi := _) (v := ?v101) (List.getElem?_toArray.trans rfl) (by kernel_rfl) (by kernel_rfl) (by kernel_rfl) (fun _ _ _ h => h) (Or.inl ⟨by rfl, ?hy101⟩) (by assumption) ?rest101
  case hy101 => (intro wq hSw; (try simp only [Two, Kn, Facts, CellsAt] at hSw); go_simp; try with_reducible rfl)
  try simp only [Act.put, List.setIfInBounds_toArray, List.set_cons_zero, List.set_cons_succ]
  refine wpAnyH_take (i := 1) (oi := _) (v := ?v102) (List.getElem?_toArray.trans rfl) (by kernel_rfl) (by kernel_rfl) (by kernel_rfl) (fun _ _ _ h => h) (Or.inl ⟨by rfl, ?hy102⟩) (by assumption) ?rest102
  case hy102 => (intro wq hSw; (try simp only [Two, Kn, Facts, CellsAt] at hSw); go_simp; try with_reducible rfl)
  try simp only [Act.put, List.setIfInBounds_toArray, List.set_cons_zero, List.set_cons_succ]
  refine wpAnyH_take (i := 2) (oi := _) (v := ?v103) (List.getElem?_toArray.trans rfl) (by kernel_rfl) (by kernel_rfl) (by kernel_rfl) (fun _ _ _ h => h) (Or.inl ⟨by rfl, ?hy103⟩) (by assumption) ?rest103
  case hy103 => (intro wq hSw; (try simp only [Two, Kn, Facts, CellsAt] at hSw); go_simp; try with_reducible rfl)
  try simp only [Act.put, List.setIfInBounds_toArray, List.set_cons_zero, List.set_cons_succ]
  refine wpAnyH_take (i := 3) (oi := _) (v := ?v104) (List.getElem?_toArray.trans rfl) (by kernel_rfl) (by kernel_rfl) (by kernel_rfl) (fun _ _ _ h => h) (Or.inl ⟨by rfl, ?hy104⟩) (by assumption) ?rest104
  case hy104 => (intro wq hSw; (try simp only [Two, Kn, Facts, CellsAt] at hSw); go_simp; try with_reducible rfl)
  try simp only [Act.put, List.setIfInBounds_toArray, List.set_cons_zero, List.set_cons_succ]
  refine wpAnyH_take (i := 5) (oi := _) (v := ?v105) (List.getElem?_toArray.trans rfl) (by kernel_rfl) (by kernel_rfl) (by kernel_rfl) (fun _ _ _ h => h) (Or.inl ⟨by rfl, ?hy105⟩) (by assumption) ?rest105
  case hy105 => (intro wq hSw; (try simp only [Two, Kn, Facts, CellsAt] at hSw); go_simp; try with_reducible rfl)
  try simp only [Act.put, List.setIfInBounds_toArray, List.set_cons_zero, List.set_cons_succ]
  refine wpAnyH_take (i := 6) (oi := _) (v := ?v106) (List.getElem?_toArray.trans rfl) (by kernel_rfl) (by kernel_rfl) (by kernel_rfl) (fun _ _ _ h => h) (Or.inl ⟨by rfl, ?hy106⟩) (by assumption) ?rest106
  case hy106 => (intro wq hSw; (try simp only [Two, Kn, Facts, CellsAt] at hSw); go_simp; try with_reducible rfl)
  try simp only [Act.put, List.setIfInBounds_toArray, List.set_cons_zero, List.set_cons_succ]
  refine wpAnyH_take (i := 7) (oi := _) (v := ?v107) (List.getElem?_toArray.trans rfl) (by kernel_rfl) (by kernel_rfl) (by kernel_rfl) (fun _ _ _ h => h) (Or.inl ⟨by rfl, ?hy107⟩) (by assumption) ?rest107
  case hy107 => (intro wq hSw; (try simp only [Two, Kn, Facts, CellsAt] at hSw); go_simp; try with_reducible rfl)
  try simp only [Act.put, List.setIfInBounds_toArray, List.set_cons_zero, List.set_cons_succ]
  refine wpAnyH_take (i := 8) (oi := _) (v := ?v108) (List.getElem?_toArray.trans rfl) (by kernel_rfl) (by kernel_rfl) (by kernel_rfl) (fun _ _ _ h => h) (Or.inl ⟨by rfl, ?hy108⟩) (by assumption) ?rest108
  case hy108 => (intro wq hSw; (try simp only [Two, Kn, Facts, CellsAt] at hSw); go_simp; try with_reducible rfl)
  try simp only [Act.put, List.setIfInBounds_toArray, List.set_cons_zero, List.set_cons_succ]
  refine wpAnyH_ready (rs := [4]) (by kernel_rfl) (by simp) ?rdy109
  refine AllReadyH.cons (List.getElem?_toArray.trans rfl) (fun K hK => ?stp109) AllReadyH.nil
  go_simp
  go_wp2_with fail
  (refine (size_c a N _ (PH.out.below hHeld.bel).head).mono ?_; rintro e w4 ⟨rfl, rfl⟩)
  go_wp2_with fail
  refine hK.out _ _ ?hSn109 (fun hHeld2 => ?rest109)
  case hSn109 => (first | with_reducible exact K0.drew | with_reducible exact hHeld | with_reducible exact hHeld.below hb5)
  clear hK K hHeld
  have hHeld := hHeld2
  clear hHeld2
  try simp only [Act.put, List.setIfInBounds_toArray, List.set_cons_zero, List.set_cons_succ]
  refine wpAnyH_ready (rs := [9]) (by kernel_rfl) (by simp) ?rdy110
  refine AllReadyH.cons (List.getElem?_toArray.trans rfl) (fun K hK => ?stp110) AllReadyH.nil
  go_simp
  go_wp2_with fail
  (refine (CC.out _ (PH.out.below hHeld.bel).m).mono ?_; rintro e w5 ⟨rfl, hb5⟩)
  go_wp2_with fail
  refine hK.out _ _ ?hSn110 (fun hHeld2 => ?rest110)
  case hSn110 => (first | with_reducible exact K0.drew | with_reducible exact hHeld | with_reducible exact hHeld.below hb5)
  clear hK K hHeld
  have hHeld := hHeld2
  clear hHeld2
  try simp only [Act.put, List.setIfInBounds_toArray, List.set_cons_zero, List.set_cons_succ]
  refine wpAnyH_take (i := 10) (oi := _) (v := ?v111) (List.getElem?_toArray.trans rfl) (by kernel_rfl) (by kernel_rfl) (by kernel_rfl) (fun _ _ _ h => h) (Or.inl ⟨by rfl, ?hy111⟩) (by assumption) ?rest111
  case hy111 => (intro wq hSw; (try simp only [Two, Kn, Facts, CellsAt] at hSw); go_simp; try with_reducible rfl)
  try simp only [Act.put, List.setIfInBounds_toArray, List.set_cons_zero, List.set_cons_succ]
  refine wpAnyH_take (i := 11) (oi := _) (v := ?v112) (List.getElem?_toArray.trans rfl) (by kernel_rfl) (by kernel_rfl) (by kernel_rfl) (fun _ _ _ h => h) (Or.inl ⟨by rfl, ?hy112⟩) (by assumption) ?rest112
  case hy112 => (intro wq hSw; (try simp only [Two, Kn, Facts, CellsAt] at hSw); go_simp; try with_reducible rfl)
  try simp only [Act.put, List.setIfInBounds_toArray, List.set_cons_zero, List.set_cons_succ]
  refine wpAnyH_done (by kernel_rfl) ?fin100 _
  have B := hHeld.bel
  clear hHeld K0 CC hb5
  go_wp2
  go_ret
  exact ⟨by first | rfl | simp [hsub, hCC], B⟩

end Go.Proofs.YtighdocmncbdnaaGreatDoor

namespace Go.Proofs.YtighdocmncbdnaaGreatDoor
open Go.ChangeShapes Go.WideShapes Go.ChangeAt Go.RowKit
set_option linter.unusedVariables false
set_option linter.unusedSimpArgs false

theorem parse6_ex : parsePF [49, 48, 46, 48, 46, 48, 46, 48, 47, 51, 48] = some (false, 167772160, 30) := by decide +kernel

theorem print6_ex1 : prA false 167772162 = ⟨#[49, 48, 46, 48, 46, 48, 46, 50]⟩ := by decide +kernel

theorem print6_ex2 : prA false 167772161 = ⟨#[49, 48, 46, 48, 46, 48, 46, 49]⟩ := by decide +kernel

theorem sz6 : szP false 167772160 30 = 4 := by decide +kernel

theorem lk6 : lkP false 30 = true := by decide +kernel

set_option maxRecDepth 100000 in
set_option maxHeartbeats 3200000 in
theorem awake6_c (w : World) (hL : LW w) (hT : TB w) : Calls Tryz.prog 15 #[] w fun e w' => e = .returned (.bool true) ∧ Below w.heap.size w w' := by
  have hz := hL.sz
  have Lx : Hid (∀ W, Below w.heap.size w W → LW W) := fun W hb => hL.of hb hz
  have Tx : Hid (∀ W, Below w.heap.size w W → TB W) := fun W hb => hT.below hb
  have n0 : IsNum 0 167772160 167772160 := ⟨by omega, by omega, by omega, by omega, rfl⟩
  have n1 : IsNum 0 167772161 167772161 := ⟨by omega, by omega, by omega, by omega, rfl⟩
  have n2 : IsNum 0 167772162 167772162 := ⟨by omega, by omega, by omega, by omega, rfl⟩
  have P1 : Hid (∀ w', LW w' → Calls Tryz.prog 10 #[.string ⟨#[49, 48, 46, 48, 46, 48, 46, 48, 47, 51, 48]⟩] w' fun e w1 => e = .returned (.tuple #[pv false 0 167772160 30, .int .i64 0]) ∧ Below w'.heap.size w' w1) := fun w' h => pparse_is _ (by decide) (Or.inl ⟨167772160, 30, parse6_ex, n0, rfl, rfl⟩) w' h
  have NW : Hid (∀ w', Calls Tryz.prog 17 #[pv false 0 167772160 30] w' fun e w1 => ∃ x a g, e = .returned (.tuple #[.pointer (some ⟨x, 0, none⟩), .int .i64 0]) ∧ PoAt w1 false 0 167772160 30 x a g 4 (kpF true 4) ∧ Below w'.heap.size w' w1 ∧ w'.heap.size ≤ x ∧ w'.heap.size ≤ g) := fun w' => by
    have := poNew_ok n0 (by rw [sz6]; decide) w'
    rw [sz6, lk6] at this
    exact this
  have X1 : Hid (∀ x a g w', TB w' → PoAt w' false 0 167772160 30 x a g 4 (kpF true 4) → Calls Tryz.prog 36 #[.pointer (some ⟨x, 0, none⟩), .int .i64 2] w' fun e w1 => e = .returned (.tuple #[av false 0 167772162, .int .i64 0]) ∧ PoAt w1 false 0 167772160 30 x a g 4 (upd (kpF true 4) 2 true) ∧ But [g] w'.heap.size w' w1) := fun x a g w' hT P => by
    have := poNext_ok (x := x) (a := a) (g := g) (f := kpF true 4) (i := 2) (p := 2) n0 (by rw [sz6]; decide) (by decide) (by decide) (by rw [sz6]; decide) n2 w' hT (by rw [sz6]; exact P)
    rw [sz6] at this
    exact this
  have X2 : Hid (∀ x a g w', TB w' → PoAt w' false 0 167772160 30 x a g 4 (upd (kpF true 4) 2 true) → Calls Tryz.prog 36 #[.pointer (some ⟨x, 0, none⟩), .int .i64 2] w' fun e w1 => e = .returned (.tuple #[av false 0 167772161, .int .i64 0]) ∧ PoAt w1 false 0 167772160 30 x a g 4 (upd (upd (kpF true 4) 2 true) 1 true) ∧ But [g] w'.heap.size w' w1) := fun x a g w' hT P => by
    have := poNext_ok (x := x) (a := a) (g := g) (f := upd (kpF true 4) 2 true) (i := 2) (p := 1) n0 (by rw [sz6]; decide) (by decide) (by decide) (by rw [sz6]; decide) n1 w' hT (by rw [sz6]; exact P)
    rw [sz6] at this
    exact this
  have X3 : Hid (∀ x a g w', TB w' → PoAt w' false 0 167772160 30 x a g 4 (upd (upd (kpF true 4) 2 true) 1 true) → Calls Tryz.prog 36 #[.pointer (some ⟨x, 0, none⟩), .int .i64 2] w' fun e w1 => e = .returned (.tuple #[av false 0 0, .int .i64 9]) ∧ Below w'.heap.size w' w1) := fun x a g w' hT P => poNext_full (by decide) (by decide) (by decide) (by decide) w' hT P
  have T1 : Hid (∀ w', LW w' → Calls Tryz.prog 52 #[av false 0 167772162] w' fun e w1 => e = .returned (.string ⟨#[49, 48, 46, 48, 46, 48, 46, 50]⟩) ∧ Below w'.heap.size w' w1) := fun w' h => print6_ex1 ▸ aprint_c n2 w' h
  have T2 : Hid (∀ w', LW w' → Calls Tryz.prog 52 #[av false 0 167772161] w' fun e w1 => e = .returned (.string ⟨#[49, 48, 46, 48, 46, 48, 46, 49]⟩) ∧ Below w'.heap.size w' w1) := fun w' h => print6_ex2 ▸ aprint_c n1 w' h
  clear n0 n1 n2 hL hT
  go_enter Tryz.func15, Tryz.ntmps15
  go_wp2_with fail
  refine (P1.out _ (Lx.out _ (by repeat (first | with_reducible exact Below.refl _ _ | with_reducible refine Below.drew ?_ | with_reducible refine Below.alloc ?_ (by first | omega | (simp <;> omega)) _ | with_reducible refine Below.setCell ?_ (by first | omega | (simp <;> omega)) _)))).mono ?_
  rintro e w1 ⟨rfl, hb1⟩
  have K1 := (Kn.of (w := w) (W := w1) (L := []) trivial hb1).push (b := w1.heap.size) (cs := [.bool false, .int .u64 0, .int .u64 167772160, .int .i64 30]) (t := 28) rfl
  have KH := hide K1
  clear P1 hb1 K1
  go_wp2_with fail
  refine (NW.out _).mono ?_
  rintro e w2 ⟨x, a, g, rfl, hP, hb, hx, hg⟩
  have B2 := hide (KH.out.below hb).bel
  have P2 := hide hP
  have G2 : Hid (w.heap.size ≤ g) := Nat.le_trans KH.out.bel.size hg
  have XX := hide (X1.out x a g w2 (Tx.out _ B2.out) hP)
  clear NW hP hb hx hg KH X1
  go_wp2_with fail
  refine XX.out.mono ?_
  rintro e w3 ⟨rfl, hP, hK⟩
  have B3 := hide (hK.to B2.out G2.out B2.out.size)
  have bl : Below w3.heap.size w3 (w3.alloc (.cells #[.bool false, .int .u64 0, .int .u64 167772162] 26)) := by repeat (first | with_reducible exact Below.refl _ _ | with_reducible refine Below.drew ?_ | with_reducible refine Below.alloc ?_ (by first | omega | (simp <;> omega)) _ | with_reducible refine Below.setCell ?_ (by first | omega | (simp <;> omega)) _)
  have B3' := hide (B3.out.trans (bl.mono B3.out.size))
  have P3' := hide (hP.below bl)
  have A3 := hide (Blk.new w3 #[.bool false, .int .u64 0, .int .u64 167772162] 26)
  have ne3 : Hid (w3.heap.size ∉ [g]) := by show _ ∉ _; have := hP.m.lt; simp; omega
  have XX2 := hide (X2.out x a g _ (Tx.out _ B3'.out) P3'.out)
  clear XX hP hK X2 bl P2 B2
  go_wp2_with fail
  refine XX2.out.mono ?_
  rintro e w4 ⟨rfl, hP, hK⟩
  have A4 := hide (hK.blk A3.out A3.out.lt ne3.out)
  have B4 := hide (hK.to B3'.out G2.out B3'.out.size)
  have bl : Below w4.heap.size w4 (w4.alloc (.cells #[.bool false, .int .u64 0, .int .u64 167772161] 26)) := by repeat (first | with_reducible exact Below.refl _ _ | with_reducible refine Below.drew ?_ | with_reducible refine Below.alloc ?_ (by first | omega | (simp <;> omega)) _ | with_reducible refine Below.setCell ?_ (by first | omega | (simp <;> omega)) _)
  have B4' := hide (B4.out.trans (bl.mono B4.out.size))
  have P4' := hide (hP.below bl)
  have A4' := hide (A4.out.below bl)
  have C4 := hide (Blk.new w4 #[.bool false, .int .u64 0, .int .u64 167772161] 26)
  have XX3 := hide (X3.out x a g _ (Tx.out _ B4'.out) P4'.out)
  clear XX2 hP hK X3 bl A3 A4 B3 B3' P3' ne3
  go_wp2_with fail
  refine XX3.out.mono ?_
  rintro e w5 ⟨rfl, hb⟩
  have A5 := A4'.out.below hb
  have C5 := C4.out.below hb
  have B5 := B4'.out.trans (hb.mono B4'.out.size)
  have K5 := ((Kn.of (w := w) (W := w5) (L := []) trivial B5).cons (cs := [.bool false, .int .u64 0, .int .u64 167772162]) A5).cons (cs := [.bool false, .int .u64 0, .int .u64 167772161]) C5
  have K6 := K5.push (b := w5.heap.size) (cs := [.bool false, .int .u64 0, .int .u64 0]) (t := 26) rfl
  have F := K6.1
  simp only [Facts, CellsAt] at F
  have KH := hide K6
  clear XX3 hb A5 C5 B5 K5 K6 A4' C4 B4' P4' B4
  go_wp2_with fail
  refine (T1.out _ (Lx.out _ KH.out.bel)).mono ?_
  rintro e w6 ⟨rfl, hb⟩
  have K7 := KH.out.below hb
  have F7 := K7.1
  simp only [Facts, CellsAt] at F7
  have KH7 := hide K7
  clear hb T1 KH K7 F
  go_wp2_with fail
  refine (T2.out _ (Lx.out _ KH7.out.bel)).mono ?_
  rintro e w7 ⟨rfl, hb⟩
  have B8 := (KH7.out.below hb).bel
  clear hb T2 KH7 F7
  go_wp2
  go_ret
  exact ⟨by first | rfl | simp, B8⟩
end Go.Proofs.YtighdocmncbdnaaGreatDoor

namespace Go.Proofs.YtighdocmncbdnaaGreatDoor
open Go.ChangeShapes Go.WideShapes Go.ChangeAt Go.RowKit
set_option linter.unusedVariables false
set_option linter.unusedSimpArgs false

/-- How many addresses the reference's pool has. -/
def cnP (v : Bool) (n : Nat) (b : Int) : Nat := if 4 ≤ szP v n b then szP v n b else 0

set_option maxRecDepth 100000 in
set_option maxHeartbeats 1600000 in
theorem rcount06_no {v : Bool} {h l b : Int} {n : Nat} (hp : IsNum h l n) (ok : okP v n b = false) (w : World) :
    Calls Tryz.prog 16 #[pv v h l b] w fun e w' => e = .returned (.int .i64 0) ∧ Below w.heap.size w w' := by
  have K := pfx_start w v h l b
  have RT : Hid (∀ w', Calls Tryz.prog 14 #[pv v h l b] w' fun e w1 => e = .returned (.bool false) ∧ Below w'.heap.size w' w1) := fun w' => ok ▸ rpright_c hp w'
  clear hp ok
  go_enter Tryz.func16, Tryz.ntmps16
  go_wp2_with fail
  refine (RT.out _).mono ?_
  rintro e w1 ⟨rfl, hb⟩
  have B := (K.below hb).bel
  clear RT hb K
  go_wp2
  go_ret
  exact ⟨rfl, B⟩

theorem pow_i (j : Nat) : ((2 ^ j : Nat) : Int) * 2 = ((2 ^ (j + 1) : Nat) : Int) := by
  rw [Nat.pow_succ]
  omega

set_option maxRecDepth 100000 in
set_option maxHeartbeats 1600000 in
theorem rcount06_ok {v : Bool} {h l b W : Int} {n K : Nat} (hW : widthA v = W) (hK : W - b = (K : Int)) (hK2 : K ≤ 128) (hb0 : 0 ≤ b) (hp : IsNum h l n) (ok : okP v n b = true) {C : Int} (hC : C = (if 16 < K then 65536 else if K < 2 then 0 else ((2 ^ K : Nat) : Int))) (w : World) :
    Calls Tryz.prog 16 #[pv v h l b] w fun e w' => e = .returned (.int .i64 C) ∧ Below w.heap.size w w' := by
  have K0 := pfx_start w v h l b
  have RT : Hid (∀ w', Calls Tryz.prog 14 #[pv v h l b] w' fun e w1 => e = .returned (.bool true) ∧ Below w'.heap.size w' w1) := fun w' => ok ▸ rpright_c hp w'
  have WD : Hid (∀ w', Calls Tryz.prog 57 #[av v h l] w' fun e w1 => e = .returned (.int .i64 W) ∧ Below w'.heap.size w' w1) := fun w' => rwidth_c v W hW h l w'
  have hw1 : IntKind.i64.wrap (W - b) = K := by rw [hK]; simp [IntKind.wrap, IntKind.bits, IntKind.signed]; omega
  have hw0 : IntKind.i64.wrap (K : Int) = K := by simp [IntKind.wrap, IntKind.bits, IntKind.signed]; omega
  have HC := hide hC
  clear hp ok hW hC hb0
  go_enter Tryz.func16, Tryz.ntmps16
  go_wp2_with fail
  refine (RT.out _).mono ?_
  rintro e w1 ⟨rfl, hb⟩
  have K1 := K0.below hb
  clear RT hb K0
  go_wp2_with fail
  refine wp_region_held_drew (S := (Kn w [(w.heap.size, [.bool v, .int .u64 h, .int .u64 l, .int .i64 b], 28)])) (by kernel_rfl) ?hS100 (fun hHeld => ?rest100)
  case hS100 => (first | with_reducible exact K1.drew | with_reducible exact hHeld.below hb4)
  refine wpAnyH_take (i := 0) (oi := _) (v := ?v101) (List.getElem?_toArray.trans rfl) (by kernel_rfl) (by kernel_rfl) (by kernel_rfl) (fun _ _ _ h => h) (Or.inl ⟨by rfl, ?hy101⟩) (by assumption) ?rest101
  case hy101 => (intro wq hSw; (try simp only [Two, Kn, Facts, CellsAt] at hSw); go_simp; try with_reducible rfl)
  try simp only [Act.put, List.setIfInBounds_toArray, List.set_cons_zero, List.set_cons_succ]
  refine wpAnyH_take (i := 1) (oi := _) (v := ?v102) (List.getElem?_toArray.trans rfl) (by kernel_rfl) (by kernel_rfl) (by kernel_rfl) (fun _ _ _ h => h) (Or.inl ⟨by rfl, ?hy102⟩) (by assumption) ?rest102
  case hy102 => (intro wq hSw; (try simp only [Two, Kn, Facts, CellsAt] at hSw); go_simp; try with_reducible rfl)
  try simp only [Act.put, List.setIfInBounds_toArray, List.set_cons_zero, List.set_cons_succ]
  refine wpAnyH_take (i := 3) (oi := _) (v := ?v103) (List.getElem?_toArray.trans rfl) (by kernel_rfl) (by kernel_rfl) (by kernel_rfl) (fun _ _ _ h => h) (Or.inl ⟨by rfl, ?hy103⟩) (by assumption) ?rest103
  case hy103 => (intro wq hSw; (try simp only [Two, Kn, Facts, CellsAt] at hSw); go_simp; try with_reducible rfl)
  try simp only [Act.put, List.setIfInBounds_toArray, List.set_cons_zero, List.set_cons_succ]
  refine wpAnyH_take (i := 4) (oi := _) (v := ?v104) (List.getElem?_toArray.trans rfl) (by kernel_rfl) (by kernel_rfl) (by kernel_rfl) (fun _ _ _ h => h) (Or.inl ⟨by rfl, ?hy104⟩) (by assumption) ?rest104
  case hy104 => (intro wq hSw; (try simp only [Two, Kn, Facts, CellsAt] at hSw); go_simp; try with_reducible rfl)
  try simp only [Act.put, List.setIfInBounds_toArray, List.set_cons_zero, List.set_cons_succ]
  refine wpAnyH_ready (rs := [2]) (by kernel_rfl) (by simp) ?rdy105
  refine AllReadyH.cons (List.getElem?_toArray.trans rfl) (fun K hK => ?stp105) AllReadyH.nil
  go_simp
  go_wp2_with fail
  (refine (WD.out _).mono ?_; rintro e w4 ⟨rfl, hb4⟩)
  go_wp2_with fail
  refine hK.out _ _ ?hSn105 (fun hHeld2 => ?rest105)
  case hSn105 => (first | with_reducible exact K1.drew | with_reducible exact hHeld.below hb4)
  clear hK K hHeld
  have hHeld := hHeld2
  clear hHeld2
  try simp only [Act.put, List.setIfInBounds_toArray, List.set_cons_zero, List.set_cons_succ]
  refine wpAnyH_take (i := 5) (oi := _) (v := (.int .i64 K)) (List.getElem?_toArray.trans rfl) (by kernel_rfl) (by kernel_rfl) (by kernel_rfl) (fun _ _ _ h => h) (Or.inl ⟨by rfl, ?hy106⟩) (by assumption) ?rest106
  case hy106 => (intro wq hSw; (try simp only [Two, Kn, Facts, CellsAt] at hSw); go_simp; (all_goals (first | exact hw0 | rw [hw1])))
  try simp only [Act.put, List.setIfInBounds_toArray, List.set_cons_zero, List.set_cons_succ]
  refine wpAnyH_take (i := 6) (oi := _) (v := ?v107) (List.getElem?_toArray.trans rfl) (by kernel_rfl) (by kernel_rfl) (by kernel_rfl) (fun _ _ _ h => h) (Or.inl ⟨by rfl, ?hy107⟩) (by assumption) ?rest107
  case hy107 => (intro wq hSw; (try simp only [Two, Kn, Facts, CellsAt] at hSw); go_simp; try with_reducible rfl)
  try simp only [Act.put, List.setIfInBounds_toArray, List.set_cons_zero, List.set_cons_succ]
  refine wpAnyH_done (by kernel_rfl) ?fin100 _
  have B := hHeld.bel
  clear hHeld hb4 K1 WD hK hw1
  by_cases h16 : 16 < K
  · have h16' : (K : Int) > 16 := by omega
    have e : C = 65536 := by rw [HC.out, if_pos h16]
    subst e
    clear HC h16
    go_wp2
    go_ret
    exact ⟨rfl, B⟩
  · have h16' : ¬ (K : Int) > 16 := by omega
    have BH := hide B
    clear B
    go_wp2_with fail
    go_loopw [4, 5] (fun nv iv wr => ∃ (j : Nat) (p : Int), j ≤ K ∧ iv = .int .i64 j ∧ nv = .int .i64 p ∧ Hid (p = ((2 ^ j : Nat) : Int)) ∧ 1 ≤ p ∧ p ≤ 65536 ∧ wr = w4) (fun _ i _ => K - (intOf i).toNat)
    case atStart => exact ⟨0, 1, by omega, rfl, rfl, rfl, by omega, by omega, rfl⟩
    case round =>
      obtain ⟨j, p, hj, rfl, rfl, hpj, p0, p1, rfl⟩ := hrel
      by_cases hlt : j < K
      · have hlt' : (j : Int) < K := by omega
        have hp2 : Hid (p * 2 = ((2 ^ (j + 1) : Nat) : Int)) := by show _ = _; rw [hpj.out]; exact pow_i j
        have q1 : p * 2 ≤ 65536 := by
          rw [hp2.out]
          have := Nat.pow_le_pow_right (n := 2) (by decide) (show j + 1 ≤ 16 by omega)
          rw [show (2 : Nat) ^ 16 = 65536 by decide] at this
          generalize 2 ^ (j + 1) = z at *
          omega
        clear hpj HC
        go_wp2
        go_roundw
        case rel => exact ⟨j + 1, p * 2, by omega, by go_num, by go_num, hp2, by omega, q1, by first | rfl | trivial⟩
        case measure => simp [intOf]; omega
      · obtain rfl : j = K := by omega
        have hlt' : ¬ (j : Int) < j := by omega
        have hc := HC.out
        rw [if_neg h16, ← hpj.out] at hc
        by_cases h2 : j < 2
        · have p4 : p < 4 := by
            rw [hpj.out]
            rcases (show j = 0 ∨ j = 1 by omega) with rfl | rfl <;> decide
          rw [if_pos h2] at hc
          subst hc
          clear HC hpj h2
          go_wp2
          go_ret
          exact ⟨rfl, BH.out⟩
        · have p4 : ¬ p < 4 := by
            rw [hpj.out]
            have := Nat.pow_le_pow_right (n := 2) (by decide) (show 2 ≤ j by omega)
            rw [show (2 : Nat) ^ 2 = 4 by decide] at this
            generalize 2 ^ j = z at *
            omega
          rw [if_neg h2] at hc
          subst hc
          clear HC hpj h2
          go_wp2
          go_ret
          exact ⟨rfl, BH.out⟩

theorem rcount06_c {v : Bool} {h l b : Int} {n : Nat} (hp : IsNum h l n) (w : World) :
    Calls Tryz.prog 16 #[pv v h l b] w fun e w' => e = .returned (.int .i64 (cnP v n b : Nat)) ∧ Below w.heap.size w w' := by
  obtain ⟨W, hW⟩ : ∃ W, widthA v = W := ⟨_, rfl⟩
  cases ok : okP v n b
  · have e : cnP v n b = 0 := by unfold cnP szP; rw [ok]; simp
    rw [e]
    exact rcount06_no hp ok w
  · obtain ⟨_, b0, b1⟩ := fitsB_parts (okP_parts ok).1
    have eb : behindP v b = (W - b).toNat := by unfold behindP; rw [hW]
    have b128 := behindP_le (v := v) b0
    refine rcount06_ok (K := behindP v b) hW (by omega) b128 b0 hp ok ?_ w
    unfold cnP szP
    rw [if_pos ok]
    by_cases c : 16 < behindP v b
    · rw [if_pos c, if_neg (by omega : ¬ behindP v b ≤ 16)]
      rfl
    · rw [if_neg c, if_pos (by omega : behindP v b ≤ 16)]
      by_cases c2 : behindP v b < 2
      · rw [if_pos c2]
        rcases (show behindP v b = 0 ∨ behindP v b = 1 by omega) with e | e <;> rw [e] <;> rfl
      · rw [if_neg c2]
        have := Nat.pow_le_pow_right (n := 2) (by decide) (show 2 ≤ behindP v b by omega)
        rw [show (2 : Nat) ^ 2 = 4 by decide] at this
        rw [if_pos this]

/-- The reference's pool. -/
structure RpAt (W : World) (base : Nat) (v : Bool) (h l b : Int) (r N : Nat) (us : List Nat) : Prop where
  is : ∃ sv, Blk W r #[.bool v, .int .u64 h, .int .u64 l, .int .i64 b, .int .i64 N, sv] 59 ∧ W.ownsRow base 3 1 sv us.length (us.map fun i : Nat => Value.int .i64 (i : Int))

theorem RpAt.below {W W' : World} {base : Nat} {v : Bool} {h l b : Int} {r N : Nat} {us : List Nat} (P : RpAt W base v h l b r N us) (k : Below W.heap.size W W') : RpAt W' base v h l b r N us := by
  obtain ⟨sv, h1, h2⟩ := P.is
  exact ⟨sv, h1.below k, own_below h2 k⟩

end Go.Proofs.YtighdocmncbdnaaGreatDoor
