/-
  The walk of DiskFuses.
-/
import Derived.Test.YtoppmpodiofhhaaDkR9
import Derived.Test.YtoppmpodiofhhaaDkK
namespace Go.Proofs.Ytoppmpodiofhhaa
open Go.ChangeShapes Go.WideShapes Go.ChangeAt Go.RowKit
set_option linter.unusedVariables false
set_option linter.unusedSimpArgs false

/-- What a call comes to, beside the same on a disk without a fuse. -/
def Out (n : Int) (v1 : Int) (s1 : DS) (v0 : Int) (s0 : DS) : Prop :=
  (s1.on = true ∧ v1 = v0 ∧ s1.fs = s0.fs ∧ s1.steps = s0.steps ∧ s1.fuse + (s1.steps : Int) = n ∧ 1 ≤ s1.fuse) ∨ (s1.on = false ∧ v1 = 6 ∧ (s1.steps : Int) = n)

theorem out_same {n : Int} {s : DS} {v : Int} (hon : s.on = true) (hf : s.fuse + (s.steps : Int) = n) (h1 : 1 ≤ s.fuse) : Out n v s v ⟨s.fs, 0, s.steps, true⟩ := Or.inl ⟨hon, rfl, rfl, rfl, hf, h1⟩

theorem out_step {n : Int} {s : DS} (gs : List Pf) (hon : s.on = true) (hf : s.fuse + (s.steps : Int) = n) (h1 : 1 ≤ s.fuse) : Out n (stepV s) (stepS ⟨gs, s.fuse, s.steps, s.on⟩) (stepV ⟨s.fs, 0, s.steps, true⟩) (stepS ⟨gs, 0, s.steps, true⟩) := by
  unfold Out stepV stepS
  by_cases e : s.fuse = 1
  · right
    rw [if_pos e, if_pos e]
    refine ⟨rfl, rfl, ?_⟩
    show ((s.steps + 1 : Nat) : Int) = n
    omega
  · left
    rw [if_neg e, if_neg e, if_neg (by simp), if_neg (by simp)]
    refine ⟨hon, rfl, rfl, rfl, ?_, ?_⟩
    · show max (s.fuse - 1) 0 + ((s.steps + 1 : Nat) : Int) = n
      omega
    · show 1 ≤ max (s.fuse - 1) 0
      omega

theorem out_act {n : Int} {s : DS} {K A N : Int} {t : List UInt8} {xs : List Int} (hK : K ≤ 4) (hon : s.on = true) (hf : s.fuse + (s.steps : Int) = n) (h1 : 1 ≤ s.fuse) :
    Out n (actV s K A N t xs) (actS s K A N t xs) (actV ⟨s.fs, 0, s.steps, true⟩ K A N t xs) (actS ⟨s.fs, 0, s.steps, true⟩ K A N t xs) := by
  have er : reachV ⟨s.fs, 0, s.steps, true⟩ A = reachV s A := by unfold reachV; rw [hon]
  have ch : ∀ (b : Pf → Bool) (u : List Pf → List Pf), Out n (chV s A b) (chS s A b u) (chV ⟨s.fs, 0, s.steps, true⟩ A b) (chS ⟨s.fs, 0, s.steps, true⟩ A b u) := by
    intro b u
    unfold chV chS
    rw [er]
    by_cases hr : reachV s A ≠ 0
    · rw [if_pos hr, if_pos hr, if_pos hr, if_pos hr]
      exact out_same hon hf h1
    · rw [if_neg hr, if_neg hr, if_neg hr, if_neg hr]
      show Out n (match getP s.fs A with | none => 7 | some f => if b f = true then 1 else stepV s) (match getP s.fs A with | none => s | some f => if b f = true then s else if s.fuse = 1 then stepS s else ⟨u s.fs, (stepS s).fuse, (stepS s).steps, (stepS s).on⟩) (match getP s.fs A with | none => 7 | some f => if b f = true then 1 else stepV ⟨s.fs, 0, s.steps, true⟩) _
      cases hg : getP s.fs A with
      | none => exact out_same hon hf h1
      | some f =>
        simp only
        by_cases hb : b f = true
        · rw [if_pos hb, if_pos hb, if_pos hb, if_pos hb]
          exact out_same hon hf h1
        · rw [if_neg hb, if_neg hb, if_neg hb, if_neg hb, if_neg (show ¬ (0 : Int) = 1 by decide)]
          by_cases e : s.fuse = 1
          · rw [if_pos e]
            right
            unfold stepV stepS
            rw [if_pos e, if_pos e]
            refine ⟨rfl, rfl, ?_⟩
            show ((s.steps + 1 : Nat) : Int) = n
            omega
          · rw [if_neg e]
            left
            unfold stepV stepS
            rw [if_neg e, if_neg e, if_neg (by simp), if_neg (by simp)]
            refine ⟨hon, rfl, rfl, rfl, ?_, ?_⟩
            · show max (s.fuse - 1) 0 + ((s.steps + 1 : Nat) : Int) = n
              omega
            · show 1 ≤ max (s.fuse - 1) 0
              omega
  unfold actV actS
  by_cases k1 : K = 1
  · rw [if_pos k1, if_pos k1, if_pos k1, if_pos k1]
    unfold apV apS
    rw [er]
    by_cases hr : reachV s A ≠ 0
    · rw [if_pos hr, if_pos hr, if_pos hr, if_pos hr]
      exact out_same hon hf h1
    · rw [if_neg hr, if_neg hr, if_neg hr, if_neg hr]
      have ea : apF ⟨s.fs, 0, s.steps, true⟩ A t = apF s A t := rfl
      rw [ea]
      show Out n (match getP s.fs A with | some f => if 1048576 < f.bs.length + t.length then 5 else stepV s | none => if 1048576 < t.length then 5 else if s.fs.length = 110 then 9 else stepV s) _ (match getP s.fs A with | some f => if 1048576 < f.bs.length + t.length then 5 else stepV ⟨s.fs, 0, s.steps, true⟩ | none => if 1048576 < t.length then 5 else if s.fs.length = 110 then 9 else stepV ⟨s.fs, 0, s.steps, true⟩) (match getP s.fs A with | some f => if 1048576 < f.bs.length + t.length then ⟨s.fs, 0, s.steps, true⟩ else stepS ⟨apF s A t, 0, s.steps, true⟩ | none => if 1048576 < t.length then ⟨s.fs, 0, s.steps, true⟩ else if s.fs.length = 110 then ⟨s.fs, 0, s.steps, true⟩ else stepS ⟨apF s A t, 0, s.steps, true⟩)
      cases hg : getP s.fs A with
      | none =>
        simp only
        by_cases c1 : 1048576 < t.length
        · rw [if_pos c1, if_pos c1, if_pos c1, if_pos c1]
          exact out_same hon hf h1
        · rw [if_neg c1, if_neg c1, if_neg c1, if_neg c1]
          by_cases c2 : s.fs.length = 110
          · rw [if_pos c2, if_pos c2, if_pos c2, if_pos c2]
            exact out_same hon hf h1
          · rw [if_neg c2, if_neg c2, if_neg c2, if_neg c2]
            exact out_step _ hon hf h1
      | some f =>
        simp only
        by_cases c1 : 1048576 < f.bs.length + t.length
        · rw [if_pos c1, if_pos c1, if_pos c1, if_pos c1]
          exact out_same hon hf h1
        · rw [if_neg c1, if_neg c1, if_neg c1, if_neg c1]
          exact out_step _ hon hf h1
  rw [if_neg k1, if_neg k1, if_neg k1, if_neg k1]
  by_cases k2 : K = 2
  · rw [if_pos k2, if_pos k2, if_pos k2, if_pos k2]
    exact ch _ _
  rw [if_neg k2, if_neg k2, if_neg k2, if_neg k2]
  by_cases k3 : K = 3
  · rw [if_pos k3, if_pos k3, if_pos k3, if_pos k3]
    exact ch _ _
  rw [if_neg k3, if_neg k3, if_neg k3, if_neg k3]
  by_cases k4 : K = 4
  · rw [if_pos k4, if_pos k4, if_pos k4, if_pos k4]
    exact ch _ _
  rw [if_neg k4, if_neg k4, if_neg k4, if_neg k4]
  have k5 : ¬ K = 5 := by omega
  have k6 : ¬ K = 6 := by omega
  have k7 : ¬ K = 7 := by omega
  rw [if_neg k5, if_neg k5, if_neg k5, if_neg k5, if_neg k6, if_neg k6, if_neg k6, if_neg k6, if_neg k7, if_neg k7, if_neg k7, if_neg k7]
  exact out_same hon hf h1

theorem and63 (n : Int) : bits .and .i64 n 63 = n % 64 := by
  have h63 : (BitVec.ofInt 64 63).toNat = 2 ^ 6 - 1 := by decide
  have key : (BitVec.ofInt 64 n &&& BitVec.ofInt 64 63).toNat = (n % ((2 ^ 64 : Nat) : Int)).toNat % 2 ^ 6 := by
    rw [BitVec.toNat_and, BitVec.toNat_ofInt, h63, Nat.and_two_pow_sub_one_eq_mod]
  show IntKind.i64.wrap ((BitVec.ofInt 64 n &&& BitVec.ofInt 64 63).toNat : Nat) = n % 64
  rw [key, IntKind.wrap_i64]
  omega

theorem fuse_n (z : Int) : ∃ N : Int, 1 ≤ N ∧ N ≤ 64 ∧ wrap64 (1 + bits BinOp.and IntKind.i64 z 63) = N := by
  refine ⟨1 + z % 64, by omega, by omega, ?_⟩
  rw [and63]
  have := IntKind.wrap_i64 (1 + z % 64)
  simp only [wrap64]
  omega

/-- How far it has come: on, the fuse and the steps make N, and the reference is alike; or off. -/
def FzP (B r : Nat) (N : Int) (s : DS) (W : World) : Prop := (s.on = true ∧ s.fuse + (s.steps : Int) = N ∧ 1 ≤ s.fuse ∧ ∃ v, RdAt B r v s.fs s.steps W) ∨ s.on = false

theorem FzP.below {B r : Nat} {N : Int} {s : DS} {W W' : World} (h : FzP B r N s W) (k : Below W.heap.size W W') : FzP B r N s W' := by
  rcases h with ⟨h1, h2, h3, v, R⟩ | h
  · exact Or.inl ⟨h1, h2, h3, v, R.below k⟩
  · exact Or.inr h

theorem ext_size (t : ByteArray) : (t.extract 0 (min t.size 300)).size ≤ 300 := by
  rw [ByteArray.size_extract]
  omega

set_option maxRecDepth 100000 in
set_option maxHeartbeats 2000000 in
theorem fuses_walk (x : Option Addr) (len cap b o : Nat) (z : Int) (w : World) (HA : ActsAt w x len b o) :
    Calls Try.prog 4 #[.slice x len cap, .int .i64 z] w fun e w' => e = .returned (.bool true) ∧ Below w.heap.size w w' := by
  have AW := hide (dawake_c w)
  have AH := hide HA
  have hlen := HA.2.1
  obtain ⟨N, N1, N2, eN⟩ := fuse_n z
  clear HA
  go_enter Try.func4, Try.ntmps4
  go_wp2_with fail
  refine AW.out.mono ?_
  rintro e w1 ⟨rfl, hb⟩
  have B1 := hide hb
  have NW := hide (new_s (B := w.heap.size) hb.size)
  clear AW hb
  go_wp2_with fail
  refine NW.out.mono ?_
  rintro e w2 ⟨d, rfl, hS, hb⟩
  have B2 := B1.out.trans (hb.mono B1.out.size)
  have bl : Below w2.heap.size w2 (w2.alloc (.cells #[.slice none 0 0, .bool false, .int .i64 0, .int .i64 0] 39)) := by repeat (first | with_reducible exact Below.refl _ _ | with_reducible refine Below.drew ?_ | with_reducible refine Below.alloc ?_ (by first | omega | (simp <;> omega)) _ | with_reducible refine Below.setCell ?_ (by first | omega | (simp <;> omega)) _)
  have S3 := hide (hS.below bl)
  have B3 := hide (B2.trans (bl.mono B2.size))
  have R3 : Hid (RdAt w.heap.size w2.heap.size (.slice none 0 0) [] 0 (w2.alloc (.cells #[.slice none 0 0, .bool false, .int .i64 0, .int .i64 0] 39))) :=
    ⟨Blk.new w2 #[.slice none 0 0, .bool false, .int .i64 0, .int .i64 0] 39, World.ownsRow_nil _ _ _ _, B2.size, (fun f hf => by cases hf), by simp⟩
  have FU := hide (show Calls Try.prog 13 #[.pointer (some ⟨d, 0, none⟩), .int .i64 N] (w2.alloc (.cells #[.slice none 0 0, .bool false, .int .i64 0, .int .i64 0] 39)) fun e W' => Left w.heap.size d 0 ⟨[], max N 0, 0, true⟩ (w2.alloc (.cells #[.slice none 0 0, .bool false, .int .i64 0, .int .i64 0] 39)) e W' from fuse_s ⟨[], 0, 0, true⟩ N (by omega) S3.out)
  have NN1 := hide N1
  have eN0 : ¬ N < 0 := by omega
  clear NW hS hb B1 B2 bl S3
  obtain ⟨r, hr⟩ : ∃ r, w2.heap.size = r := ⟨_, rfl⟩
  rw [hr] at R3
  go_wp2_with fail
  refine FU.out.mono ?_
  rintro e w4 ⟨rfl, hS, hC⟩
  have S4 : Hid (DkS w.heap.size d ⟨[], max N 0, 0, true⟩ w4) := hS
  have B4 := hide (Ch.bel B3.out hC (Nat.le_refl _))
  have F4 : Hid (FzP w.heap.size r N ⟨[], max N 0, 0, true⟩ w4) := Or.inl ⟨rfl, by show max N 0 + ((0 : Nat) : Int) = N; omega, by show 1 ≤ max N 0; omega, _, R3.out.mine hC⟩
  clear FU hS hC R3 B3 eN0 hr eN
  go_wp2_with fail
  go_loopw [7] (fun iv wr => ∃ (k : Nat) (s : DS), k ≤ len ∧ k ≤ 130 ∧ iv = .int .i64 k ∧ Hid (DkS w.heap.size d s wr) ∧ Hid (Below w.heap.size w wr) ∧ Hid (s.steps ≤ k) ∧ Hid (FzP w.heap.size r N s wr)) (fun iv _ => 130 - (intOf iv).toNat)
  case atStart => exact ⟨0, _, by omega, by omega, rfl, S4, B4, Nat.zero_le _, F4⟩
  case round =>
    clear S4 B4 F4
    obtain ⟨k, s, hk1, hk2, rfl, S, BW, ST, FZ⟩ := hrel
    have ON := hide (on_s S.out)
    by_cases hlt : k < len ∧ k < 130
    · obtain ⟨h1, h2⟩ := hlt
      have h1' : (k : Int) < len := by omega
      have h2' : (k : Int) < 130 := by omega
      rcases FZ.out with ⟨hon, hfu, hf1, v, R⟩ | hoff
      · rw [hon] at ON
        obtain ⟨ho, -, hc⟩ := AH.out
        obtain ⟨K, A, M, t, y, xs, c, hV, d0, d1, d2, d3, d4⟩ := hc k h1
        obtain rfl : x = some ⟨b, o, none⟩ := ho.resolve_right (by omega)
        have lb := cell_lt9 d0
        have c0 := (BW.out.cell (p := ⟨b, _, none⟩) lb).trans d0
        have c1 := (BW.out.cell (p := ⟨b, _, none⟩) lb).trans d1
        have c2 := (BW.out.cell (p := ⟨b, _, none⟩) lb).trans d2
        have c3 := (BW.out.cell (p := ⟨b, _, none⟩) lb).trans d3
        have c4 := (BW.out.cell (p := ⟨b, _, none⟩) lb).trans d4
        have CA := hide (cutact_c K A M t y xs.length c hV.room hV.t wr)
        obtain ⟨ys, hys⟩ : ∃ ys, xs.take 20 = ys := ⟨_, rfl⟩
        have el : min xs.length 20 = ys.length := by rw [← hys, List.length_take]; omega
        rw [el] at CA
        have PK0 : ∀ W, Below w.heap.size w W → PkAt W y ys := fun W k' => hys ▸ (hV.p.below k').take 20
        obtain ⟨t', ht'⟩ : ∃ t', t.extract 0 (min t.size 300) = t' := ⟨_, rfl⟩
        have tz : t'.size ≤ 300 := by rw [← ht']; exact ext_size t
        rw [ht'] at CA
        have BW3 := hide (fun (w3 : World) (hb3 : Below wr.heap.size wr w3) => show Below w.heap.size w (w3.alloc (.cells #[.int .i64 K, .int .i64 A, .int .i64 M, .string t', .slice y ys.length c] 28)) from (BW.out.trans (hb3.mono BW.out.size)).alloc (Nat.le_trans BW.out.size hb3.size) _)
        have BL3 := hide (fun (w3 : World) (hb3 : Below wr.heap.size wr w3) => show Below wr.heap.size wr (w3.alloc (.cells #[.int .i64 K, .int .i64 A, .int .i64 M, .string t', .slice y ys.length c] 28)) from hb3.alloc hb3.size _)
        have S3 := hide (fun (w3 : World) (hb3 : Below wr.heap.size wr w3) => show DkS w.heap.size d s (w3.alloc (.cells #[.int .i64 K, .int .i64 A, .int .i64 M, .string t', .slice y ys.length c] 28)) from S.out.below (BL3.out w3 hb3))
        have R3 := hide (fun (w3 : World) (hb3 : Below wr.heap.size wr w3) => show RdAt w.heap.size r v s.fs s.steps (w3.alloc (.cells #[.int .i64 K, .int .i64 A, .int .i64 M, .string t', .slice y ys.length c] 28)) from R.below (BL3.out w3 hb3))
        have N4 := hide (fun (w3 : World) => Blk.new w3 #[.int .i64 K, .int .i64 A, .int .i64 M, .string t', .slice y ys.length c] 28)
        have ST0 := hide (show s.steps ≤ k + 1 from by have := ST.out; omega)
        by_cases hK : K ≥ 5
        · have HFZ : Hid (s.on = true ∧ s.fuse + (s.steps : Int) = N ∧ 1 ≤ s.fuse) := ⟨hon, hfu, hf1⟩
          clear hc ho hV d0 d1 d2 d3 d4 lb el hys PK0 ht' tz S BW ST FZ hon hfu hf1 R BL3
          go_wp2_with fail
          refine ON.out.mono ?_
          rintro e w3 ⟨rfl, rfl⟩
          clear ON
          go_wp2_with fail
          refine CA.out.mono ?_
          rintro e w4 ⟨rfl, hb3⟩
          have S4 := hide (S3.out w4 hb3)
          have B4 := hide (BW3.out w4 hb3)
          have F4 : Hid (FzP w.heap.size r N s _) := Or.inl ⟨HFZ.out.1, HFZ.out.2.1, HFZ.out.2.2, v, R3.out w4 hb3⟩
          clear CA hb3 S3 BW3 N4 R3 HFZ c0 c1 c2 c3 c4
          go_wp2_with fail
          go_roundw
          case rel => exact ⟨k + 1, s, by omega, by omega, by go_num, S4, B4, ST0, F4⟩
          case measure => simp [intOf]; omega
        · have OUT := hide (out_act (n := N) (K := K) (A := A) (N := M) (t := t'.data.toList) (xs := ys) (by omega) hon hfu hf1)
          have DO := hide (fun (w3 : World) (hb3 : Below wr.heap.size wr w3) => does_s s K A M t' (xs := ys) c hV.n (by have := ST.out; omega) (BW3.out w3 hb3).size (fun W' k' => PK0 W' (Ch.bel (BW3.out w3 hb3) k' (Nat.le_refl _))) (S3.out w3 hb3))
          have PL := hide (fun (W : World) (hW : Below w.heap.size w W) (hR : RdAt w.heap.size r v s.fs s.steps W) => rplay_s K A M t' y ys.length c ys (by omega) (by omega) (by have := ST.out; omega) S.out.sorted hW.size hR)
          have ST1 := hide (show (actS s K A M t'.data.toList ys).steps ≤ k + 1 from Nat.le_trans (actS_steps _ _ _ _ _ _) (by have := ST.out; omega))
          obtain ⟨s1, hs1⟩ : ∃ s1, actS s K A M t'.data.toList ys = s1 := ⟨_, rfl⟩
          obtain ⟨v1, hv1⟩ : ∃ v1, actV s K A M t'.data.toList ys = v1 := ⟨_, rfl⟩
          rw [hs1] at DO ST1 OUT
          rw [hv1] at DO OUT
          clear hc ho hV d0 d1 d2 d3 d4 lb el hys PK0 ht' tz S BW ST FZ hon hfu hf1 R BL3 S3 hs1 hv1 ST0
          have ON1 := hide (fun (W : World) (h : DkS w.heap.size d s1 W) => on_s h)
          have SP1 := hide (fun (W : World) (h : DkS w.heap.size d s1 W) => steps_s h)
          rcases OUT.out with ⟨o1, o2, o3, o4, o5, o6⟩ | ⟨o1, o2, o3⟩
          · rw [← o2, ← o3, ← o4] at PL
            rw [o1] at ON1
            have SA := hide (fun (W : World) (u : Value) (h : DkS w.heap.size d s1 W) (hr : RdAt w.heap.size r u s1.fs s1.steps W) => same_c s1 o1 h hr)
            have HO : Hid (s1.on = true ∧ s1.fuse + (s1.steps : Int) = N ∧ 1 ≤ s1.fuse) := ⟨o1, o5, o6⟩
            obtain ⟨q, hq⟩ : ∃ q : Int, (s1.steps : Int) = q := ⟨_, rfl⟩
            rw [hq] at SP1
            have qN : ¬ q ≥ N := by omega
            have vv : (v1 != v1) = false := by simp
            clear OUT o1 o2 o3 o4 o5 o6 hq
            go_wp2_with fail
            refine ON.out.mono ?_
            rintro e w3 ⟨rfl, rfl⟩
            clear ON
            go_wp2_with fail
            refine CA.out.mono ?_
            rintro e w4 ⟨rfl, hb3⟩
            have DO4 := hide (DO.out w4 hb3)
            have B4 := hide (BW3.out w4 hb3)
            have R4 := hide (R3.out w4 hb3)
            have X4 := hide (N4.out w4)
            clear CA DO BW3 N4 hb3 R3 c0 c1 c2 c3 c4
            go_wp2_with fail
            refine DO4.out.mono ?_
            rintro e w5 ⟨rfl, hS, hC⟩
            have S5 := hide hS
            have B5 := hide (Ch.bel B4.out hC (Nat.le_refl _))
            have R5 := hide (R4.out.mine hC)
            have X5 := hC.far X4.out ⟨by decide, by decide, by decide⟩
            have x0 := X5.cell 0
            have x1 := X5.cell 1
            have x2 := X5.cell 2
            have x3 := X5.cell 3
            have x4 := X5.cell 4
            have hlx := X5.lt
            simp only [List.getElem?_toArray, List.getElem?_cons_zero, List.getElem?_cons_succ] at x0 x1 x2 x3 x4
            clear DO4 hS hC B4 R4 X4 X5
            go_wp2_with fail
            refine (ON1.out _ S5.out).mono ?_
            rintro e w6 ⟨rfl, rfl⟩
            clear ON1
            go_wp2_with fail
            refine (PL.out _ B5.out R5.out).mono ?_
            rintro e w7 ⟨rfl, u, hR, hC⟩
            have S7 := hide (S5.out.ch hC (fun _ h => h.alien))
            have B7 := hide (Ch.belR B5.out hC (Nat.le_refl _))
            have R7 := hide hR
            clear PL hR hC S5 B5 R5 x0 x1 x2 x3 x4 hlx
            go_wp2_with fail
            refine (SA.out _ u S7.out R7.out).mono ?_
            rintro e w8 ⟨rfl, hb8⟩
            have S8 := hide (S7.out.below hb8)
            have B8 := hide (B7.out.trans (hb8.mono B7.out.size))
            have F8 : Hid (FzP w.heap.size r N s1 w8) := Or.inl ⟨HO.out.1, HO.out.2.1, HO.out.2.2, u, R7.out.below hb8⟩
            clear SA hb8 S7 B7 R7 HO
            go_wp2_with fail
            refine (SP1.out _ S8.out).mono ?_
            rintro e w9 ⟨rfl, rfl⟩
            clear SP1
            go_wp2_with fail
            go_roundw
            case rel => exact ⟨k + 1, s1, by omega, by omega, by go_num, S8, B8, ST1, F8⟩
            case measure => simp [intOf]; omega
          · rw [o1] at ON1
            have HO := hide o1
            subst o2
            rw [o3] at SP1
            have vv : (N != N) = false := by simp
            clear OUT o1 o3 PL
            go_wp2_with fail
            refine ON.out.mono ?_
            rintro e w3 ⟨rfl, rfl⟩
            clear ON
            go_wp2_with fail
            refine CA.out.mono ?_
            rintro e w4 ⟨rfl, hb3⟩
            have DO4 := hide (DO.out w4 hb3)
            have B4 := hide (BW3.out w4 hb3)
            clear CA DO BW3 N4 hb3 R3 c0 c1 c2 c3 c4
            go_wp2_with fail
            refine DO4.out.mono ?_
            rintro e w5 ⟨rfl, hS, hC⟩
            have S5 := hide hS
            have B5 := hide (Ch.bel B4.out hC (Nat.le_refl _))
            clear DO4 hS hC B4
            go_wp2_with fail
            refine (ON1.out _ S5.out).mono ?_
            rintro e w6 ⟨rfl, rfl⟩
            clear ON1
            go_wp2_with fail
            refine (SP1.out _ S5.out).mono ?_
            rintro e w7 ⟨rfl, rfl⟩
            clear SP1
            have F5 : Hid (FzP w.heap.size r N s1 w7) := Or.inr HO.out
            go_wp2_with fail
            go_roundw
            case rel => exact ⟨k + 1, s1, by omega, by omega, by go_num, S5, B5, ST1, F5⟩
            case measure => simp [intOf]; omega
      · rw [hoff] at ON
        clear FZ S ST AH hoff
        go_wp2_with fail
        refine ON.out.mono ?_
        rintro e w3 ⟨rfl, rfl⟩
        clear ON
        go_wp2_with fail
        go_ret
        exact ⟨rfl, BW.out⟩
    · have hex : ¬ (k : Int) < len ∨ ((k : Int) < len ∧ ¬ (k : Int) < 130) := by omega
      clear hlt AH S ST FZ ON
      rcases hex with hx1 | ⟨hx1, hx2⟩
      all_goals
        go_wp2_with fail
        go_ret
        exact ⟨rfl, BW.out⟩

end Go.Proofs.Ytoppmpodiofhhaa
