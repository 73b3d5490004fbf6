/-
  Texts Po9, PoBy of the proof.
-/
import Derived.Test.YtighdocmncbdnaaGreatDoorQBy45
import Derived.Test.YtighdocmncbdnaaGreatDoorQBy30
import Derived.Test.YtighdocmncbdnaaGreatDoorQBy44
import Derived.Test.YtighdocmncbdnaaGreatDoorQBy42

namespace Go.Proofs.YtighdocmncbdnaaGreatDoor
open Go.ChangeShapes Go.WideShapes Go.ChangeAt Go.RowKit
set_option linter.unusedVariables false
set_option linter.unusedSimpArgs false

/-- Bytes are a pool's: of the prefix, with the bits f (those that are kept among them). -/
def OfIs (s : ByteArray) (v : Bool) (n k : Nat) (f : Nat → Bool) : Prop :=
  parsePF (cutG [0] s.data.toList).1 = some (v, n, k) ∧ prP v n k = ⟨(cutG [0] s.data.toList).1.toArray⟩ ∧ okS ⟨(cutG [0] s.data.toList).2.1.toArray⟩ ∧ toldT ⟨(cutG [0] s.data.toList).2.1.toArray⟩ = szP v n k ∧ 4 ≤ szP v n k ∧ ¬ badU (bitS ⟨(cutG [0] s.data.toList).2.1.toArray⟩) (lkP v k) (szP v n k) ∧
    f = fun p => bitS ⟨(cutG [0] s.data.toList).2.1.toArray⟩ p || kpF (lkP v k) (szP v n k) p

theorem OfIs.uniq {s : ByteArray} {v v' : Bool} {n k n' k' : Nat} {f f' : Nat → Bool} (x : OfIs s v n k f) (y : OfIs s v' n' k' f') : v = v' ∧ n = n' ∧ k = k' ∧ f = f' := by
  obtain ⟨a1, a2, a3, a4, a5, a6, a7⟩ := x
  obtain ⟨b1, b2, b3, b4, b5, b6, b7⟩ := y
  rw [a1] at b1
  cases b1
  exact ⟨rfl, rfl, rfl, a7.trans b7.symm⟩

theorem str_differ {X s : ByteArray} (h : X ≠ s) : (X.toList == s.toList) = false := by
  apply Bool.eq_false_iff.2
  intro c
  refine h ?_
  have e : X.toList = s.toList := by simpa using c
  rw [ByteArray.toList_eq, ByteArray.toList_eq] at e
  cases X; cases s
  congr 1
  exact Array.toList_inj.1 e

theorem MapB.head0 {W : World} {a g N : Nat} {f : Nat → Bool} (H : MapB W a g N f) : W.cell? ⟨a, 0, none⟩ = some (.int .i64 N) := by
  obtain ⟨⟨ws, hm, _⟩, _⟩ := H
  exact hm.head.cell 0

set_option maxRecDepth 100000 in
set_option maxHeartbeats 6400000 in
theorem poOf_c (s : ByteArray) (hs : s.size ≤ 9000) (w : World) (hL : LW w) :
    Calls Tryz.prog 41 #[.string s] w fun e w' =>
      (∃ (v : Bool) (n k : Nat) (f : Nat → Bool) (h l : Int) (x a g : Nat), OfIs s v n k f ∧ IsNum h l n ∧ e = .returned (.tuple #[.pointer (some ⟨x, 0, none⟩), .int .i64 0]) ∧ PoAt w' v h l k x a g (szP v n k) f ∧ Below w.heap.size w w' ∧ w.heap.size ≤ x ∧ w.heap.size ≤ g) ∨
      ((∀ v n k f, ¬ OfIs s v n k f) ∧ e = .returned (.tuple #[.pointer none, .int .i64 4]) ∧ Below w.heap.size w w') := by
  have hz := hL.sz
  have hlen := cutG_len [0] (by simp) s.data.toList
  have hsl : s.data.toList.length ≤ 9000 := by
    have e : s.data.toList.length = s.size := Array.length_toList
    omega
  obtain ⟨A, hA⟩ : ∃ A, (cutG [0] s.data.toList).1 = A := ⟨_, rfl⟩
  obtain ⟨D, hD⟩ : ∃ D, (cutG [0] s.data.toList).2.1 = D := ⟨_, rfl⟩
  have OI : Hid (∀ v n k f, OfIs s v n k f ↔ (parsePF A = some (v, n, k) ∧ prP v n k = ⟨A.toArray⟩ ∧ okS ⟨D.toArray⟩ ∧ toldT ⟨D.toArray⟩ = szP v n k ∧ 4 ≤ szP v n k ∧ ¬ badU (bitS ⟨D.toArray⟩) (lkP v k) (szP v n k) ∧ f = fun p => bitS ⟨D.toArray⟩ p || kpF (lkP v k) (szP v n k) p)) := fun v n k f => by
    unfold OfIs
    rw [hA, hD]
  have CU := cut_c s ⟨#[0]⟩ (by simp) (by omega) w hL
  rw [show (⟨#[0]⟩ : ByteArray).data.toList = [0] from rfl, hA, hD] at CU
  rw [hA, hD] at hlen
  generalize (cutG [0] s.data.toList).2.2 = fd at *
  have CUH := hide CU
  have sA : (⟨A.toArray⟩ : ByteArray).size ≤ 9000 := by show A.toArray.size ≤ 9000; rw [List.size_toArray]; omega
  have sD : (⟨D.toArray⟩ : ByteArray).size ≤ 9000 := by show D.toArray.size ≤ 9000; rw [List.size_toArray]; omega
  have PA := hide (fun w' hL' => pparse_c ⟨A.toArray⟩ (by omega) w' hL')
  have OB := hide (fun w' => ofb_c ⟨D.toArray⟩ sD w')
  have Lx := hide (fun W (hb : Below w.heap.size w W) => hL.of hb hz)
  obtain ⟨TA, hTA⟩ : ∃ TA : ByteArray, (⟨A.toArray⟩ : ByteArray) = TA := ⟨_, rfl⟩
  obtain ⟨TD, hTD⟩ : ∃ TD : ByteArray, (⟨D.toArray⟩ : ByteArray) = TD := ⟨_, rfl⟩
  have eA : A = TA.data.toList := by rw [← hTA]
  rw [hTA, hTD] at CUH OI
  rw [hTA] at PA
  rw [hTD] at OB
  rw [eA] at OI
  clear CU hA hD hlen hs hsl hL hTA hTD eA sA sD hz
  go_enter Tryz.func41, Tryz.ntmps41
  go_wp2_with fail
  refine CUH.out.mono ?_
  rintro e w1 ⟨rfl, hb⟩
  have B1 := hide hb
  clear CUH hb
  go_wp2_with fail
  refine (PA.out _ (Lx.out _ B1.out)).mono ?_
  rintro e w2 ⟨v, h, l, b, c, rfl, hp, hb⟩
  have K2 := (Kn.of (w := w) (W := w2) (L := []) trivial (B1.out.trans (hb.mono B1.out.size))).push (b := w2.heap.size) (cs := [.bool v, .int .u64 h, .int .u64 l, .int .i64 b]) (t := 28) rfl
  have KH := hide K2
  clear PA hb B1 K2
  rcases hp.out with ⟨n, k, hpar, hn, rfl, rfl⟩ | ⟨hpar, rfl, rfl, rfl, rfl, rfl⟩
  · have NH := hide hn
    have HP := hide hpar
    clear hp hn hpar
    have PR := hide (pprint_c (v := v) (b := (k : Int)) NH.out _ (Lx.out _ KH.out.bel))
    go_wp2_with fail
    refine PR.out.mono ?_
    rintro e w3 ⟨rfl, hb⟩
    have K3 := hide (KH.out.below hb)
    have F := K3.out.1
    simp only [Facts, CellsAt] at F
    clear PR hb KH
    by_cases hpr : prP v n (k : Int) = TA
    · have HQ := hide hpr
      rw [hpr]
      clear hpr
      go_wp2_with fail
      refine (OB.out _).mono ?_
      rintro e w4 (⟨hok, rfl, hM, hb⟩ | ⟨hok, rfl, hb⟩)
      · have HO := hide hok
        have M4 := hide hM
        have G4 := hide (show w.heap.size ≤ w3.heap.size from K3.out.bel.size)
        have K4 := hide (K3.out.below hb)
        have SZ := hide (fun w' => sizeOf_c (v := v) (b := (k : Int)) NH.out w')
        obtain ⟨T, hT⟩ : ∃ T, toldT TD = T := ⟨_, rfl⟩
        obtain ⟨N, hN⟩ : ∃ N, szP v n (k : Int) = N := ⟨_, rfl⟩
        have HT := hide hT
        have HN := hide hN
        have M5 : Hid (MapB w4 (w3.heap.size + 1) w3.heap.size T (bitS TD)) := by rw [← hT]; exact M4.out
        rw [hN] at SZ
        clear hM hok hb hT hN OB M4 K3 F
        obtain ⟨a4, ea4⟩ : ∃ a4, w3.heap.size + 1 = a4 := ⟨_, rfl⟩
        obtain ⟨g4, eg4⟩ : ∃ g4, w3.heap.size = g4 := ⟨_, rfl⟩
        rw [ea4, eg4] at M5
        rw [eg4] at G4
        rw [ea4]
        clear ea4 eg4
        have K5 : Kn w4 [(w2.heap.size, [.bool v, .int .u64 h, .int .u64 l, .int .i64 k], 28)] w4 := Kn.of K4.out.2.1 (Below.refl _ _)
        have l5 := M5.out.lt.2.2.2
        by_cases hTN : T = N
        · subst hTN
          by_cases h4 : 4 ≤ T
          · have h4' : ¬ (T : Int) < 4 := by omega
            have WU := hide (fun w' hM => withUsed_c (v := v) (b := (k : Int)) (a := a4) (g := g4) (u := bitS TD) NH.out (by rw [HN.out]; exact h4) w' hM)
            have H4 := hide h4
            rw [HN.out] at WU
            clear h4
            go_wp2_with fail
            refine wp_region_held_drew (S := (Kn w4 [(w2.heap.size, [.bool v, .int .u64 h, .int .u64 l, .int .i64 k], 28)])) (by kernel_rfl) ?hS100 (fun hHeld => ?rest100)
            case hS100 => (first | with_reducible exact K5.drew | with_reducible exact hHeld | with_reducible exact hHeld.below hb5)
            refine wpAnyH_take (i := 0) (oi := _) (v := ?v101) (List.getElem?_toArray.trans rfl) (by kernel_rfl) (by kernel_rfl) (by kernel_rfl) (fun _ _ _ h => h) (Or.inl ⟨by rfl, ?hy101⟩) (by assumption) ?rest101
            case hy101 => (intro wq hSw; (try simp only [Kn, Facts, CellsAt] at hSw); go_simp; try with_reducible rfl)
            try simp only [Act.put, List.setIfInBounds_toArray, List.set_cons_zero, List.set_cons_succ]
            refine wpAnyH_take (i := 1) (oi := _) (v := ?v102) (List.getElem?_toArray.trans rfl) (by kernel_rfl) (by kernel_rfl) (by kernel_rfl) (fun _ _ _ h => h) (Or.inl ⟨by rfl, ?hy102⟩) (by assumption) ?rest102
            case hy102 => (intro wq hSw; (try simp only [Kn, Facts, CellsAt] at hSw); go_simp; try with_reducible rfl)
            try simp only [Act.put, List.setIfInBounds_toArray, List.set_cons_zero, List.set_cons_succ]
            refine wpAnyH_take (i := 2) (oi := _) (v := ?v103) (List.getElem?_toArray.trans rfl) (by kernel_rfl) (by kernel_rfl) (by kernel_rfl) (fun _ _ _ h => h) (Or.inl ⟨by rfl, ?hy103⟩) (by assumption) ?rest103
            case hy103 => (intro wq hSw; (try simp only [Kn, Facts, CellsAt] at hSw); go_simp; try with_reducible rfl)
            try simp only [Act.put, List.setIfInBounds_toArray, List.set_cons_zero, List.set_cons_succ]
            refine wpAnyH_take (i := 3) (oi := _) (v := ?v104) (List.getElem?_toArray.trans rfl) (by kernel_rfl) (by kernel_rfl) (by kernel_rfl) (fun _ _ _ h => h) (Or.inl ⟨by rfl, ?hy104⟩) (by assumption) ?rest104
            case hy104 => (intro wq hSw; (try simp only [Kn, Facts, CellsAt] at hSw); go_simp; try with_reducible rfl)
            try simp only [Act.put, List.setIfInBounds_toArray, List.set_cons_zero, List.set_cons_succ]
            refine wpAnyH_take (i := 5) (oi := _) (v := ?v105) (List.getElem?_toArray.trans rfl) (by kernel_rfl) (by kernel_rfl) (by kernel_rfl) (fun _ _ _ h => h) (Or.inl ⟨by rfl, ?hy105⟩) (by assumption) ?rest105
            case hy105 => (intro wq hSw; (try simp only [Kn, Facts, CellsAt] at hSw); go_simp; try with_reducible rfl)
            try simp only [Act.put, List.setIfInBounds_toArray, List.set_cons_zero, List.set_cons_succ]
            refine wpAnyH_ready (rs := [4]) (by kernel_rfl) (by simp) ?rdy106
            refine AllReadyH.cons (List.getElem?_toArray.trans rfl) (fun K hK => ?stp106) AllReadyH.nil
            go_simp
            go_wp2_with fail
            (refine (size_c a4 T _ (M5.out.below hHeld.bel).head0).mono ?_; rintro e w5 ⟨rfl, rfl⟩)
            go_wp2_with fail
            refine hK.out _ _ ?hSn106 (fun hHeld2 => ?rest106)
            case hSn106 => (first | with_reducible exact K5.drew | with_reducible exact hHeld | with_reducible exact hHeld.below hb5)
            clear hK K hHeld
            have hHeld := hHeld2
            clear hHeld2
            try simp only [Act.put, List.setIfInBounds_toArray, List.set_cons_zero, List.set_cons_succ]
            refine wpAnyH_ready (rs := [6]) (by kernel_rfl) (by simp) ?rdy107
            refine AllReadyH.cons (List.getElem?_toArray.trans rfl) (fun K hK => ?stp107) AllReadyH.nil
            go_simp
            go_wp2_with fail
            (refine (SZ.out _).mono ?_; rintro e w6 ⟨rfl, hb5⟩)
            go_wp2_with fail
            refine hK.out _ _ ?hSn107 (fun hHeld2 => ?rest107)
            case hSn107 => (first | with_reducible exact K5.drew | with_reducible exact hHeld | with_reducible exact hHeld.below hb5)
            clear hK K hHeld
            have hHeld := hHeld2
            clear hHeld2
            try simp only [Act.put, List.setIfInBounds_toArray, List.set_cons_zero, List.set_cons_succ]
            refine wpAnyH_take (i := 7) (oi := _) (v := ?v108) (List.getElem?_toArray.trans rfl) (by kernel_rfl) (by kernel_rfl) (by kernel_rfl) (fun _ _ _ h => h) (Or.inl ⟨by rfl, ?hy108⟩) (by assumption) ?rest108
            case hy108 => (intro wq hSw; (try simp only [Kn, Facts, CellsAt] at hSw); go_simp; try with_reducible rfl)
            try simp only [Act.put, List.setIfInBounds_toArray, List.set_cons_zero, List.set_cons_succ]
            refine wpAnyH_take (i := 8) (oi := _) (v := ?v109) (List.getElem?_toArray.trans rfl) (by kernel_rfl) (by kernel_rfl) (by kernel_rfl) (fun _ _ _ h => h) (Or.inl ⟨by rfl, ?hy109⟩) (by assumption) ?rest109
            case hy109 => (intro wq hSw; (try simp only [Kn, Facts, CellsAt] at hSw); go_simp; try with_reducible rfl)
            try simp only [Act.put, List.setIfInBounds_toArray, List.set_cons_zero, List.set_cons_succ]
            refine wpAnyH_take (i := 9) (oi := _) (v := ?v110) (List.getElem?_toArray.trans rfl) (by kernel_rfl) (by kernel_rfl) (by kernel_rfl) (fun _ _ _ h => h) (Or.inl ⟨by rfl, ?hy110⟩) (by assumption) ?rest110
            case hy110 => (intro wq hSw; (try simp only [Kn, Facts, CellsAt] at hSw); go_simp; try with_reducible rfl)
            try simp only [Act.put, List.setIfInBounds_toArray, List.set_cons_zero, List.set_cons_succ]
            refine wpAnyH_take (i := 10) (oi := _) (v := ?v111) (List.getElem?_toArray.trans rfl) (by kernel_rfl) (by kernel_rfl) (by kernel_rfl) (fun _ _ _ h => h) (Or.inl ⟨by rfl, ?hy111⟩) (by assumption) ?rest111
            case hy111 => (intro wq hSw; (try simp only [Kn, Facts, CellsAt] at hSw); go_simp; try with_reducible rfl)
            try simp only [Act.put, List.setIfInBounds_toArray, List.set_cons_zero, List.set_cons_succ]
            refine wpAnyH_ready (rs := [11]) (by kernel_rfl) (by simp) ?rdy112
            refine AllReadyH.cons (List.getElem?_toArray.trans rfl) (fun K hK => ?stp112) AllReadyH.nil
            go_simp
            go_wp2_with fail
            (refine (size_c a4 T _ (M5.out.below hHeld.bel).head0).mono ?_; rintro e w7 ⟨rfl, rfl⟩)
            go_wp2_with fail
            refine hK.out _ _ ?hSn112 (fun hHeld2 => ?rest112)
            case hSn112 => (first | with_reducible exact K5.drew | with_reducible exact hHeld | with_reducible exact hHeld.below hb5)
            clear hK K hHeld
            have hHeld := hHeld2
            clear hHeld2
            try simp only [Act.put, List.setIfInBounds_toArray, List.set_cons_zero, List.set_cons_succ]
            refine wpAnyH_take (i := 12) (oi := _) (v := ?v113) (List.getElem?_toArray.trans rfl) (by kernel_rfl) (by kernel_rfl) (by kernel_rfl) (fun _ _ _ h => h) (Or.inl ⟨by rfl, ?hy113⟩) (by assumption) ?rest113
            case hy113 => (intro wq hSw; (try simp only [Kn, Facts, CellsAt] at hSw); go_simp; try with_reducible rfl)
            try simp only [Act.put, List.setIfInBounds_toArray, List.set_cons_zero, List.set_cons_succ]
            refine wpAnyH_take (i := 13) (oi := _) (v := ?v114) (List.getElem?_toArray.trans rfl) (by kernel_rfl) (by kernel_rfl) (by kernel_rfl) (fun _ _ _ h => h) (Or.inl ⟨by rfl, ?hy114⟩) (by assumption) ?rest114
            case hy114 => (intro wq hSw; (try simp only [Kn, Facts, CellsAt] at hSw); go_simp; try with_reducible rfl)
            try simp only [Act.put, List.setIfInBounds_toArray, List.set_cons_zero, List.set_cons_succ]
            refine wpAnyH_done (by kernel_rfl) ?fin100 _
            have F := hHeld.1
            simp only [Facts, CellsAt] at F
            have WW := hide (WU.out _ (M5.out.below hHeld.bel))
            have BB := hide (K4.out.bel.trans (hHeld.bel.mono K4.out.bel.size))
            clear hHeld WU K5 SZ hb5 M5
            go_wp2_with fail
            refine WW.out.mono ?_
            rintro e w8 (⟨hg, rfl, hP, hK⟩ | ⟨hg, rfl, hK⟩)
            · have Y : Hid (OfIs s v n k (fun p => bitS TD p || kpF (lkP v k) T p)) := (OI.out _ _ _ _).2 ⟨HP.out, HQ.out, HO.out, by rw [HT.out, HN.out], by rw [HN.out]; exact H4.out, by rw [HN.out]; exact hg, by rw [HN.out]⟩
              have PH := hide hP
              have B8 : Hid (Below w.heap.size w w8) := hK.to BB.out G4.out BB.out.size
              have X8 := hide BB.out.size
              clear WW hg hP hK OI BB
              go_wp2
              go_ret2
              have P9 := PH.out
              have q := X8.out
              rw [← HN.out] at P9
              refine Or.inl ⟨v, n, k, _, h, l, _, a4, g4, Y.out, NH.out, rfl, by rw [← HN.out]; exact P9, B8.out, by omega, G4.out⟩
            · have NO : Hid (∀ v n k f, ¬ OfIs s v n k f) := fun v' n' k' f' hc => by
                obtain ⟨c1, c2, c3, c4, c5, c6, _⟩ := (OI.out v' n' k' f').1 hc
                rw [HP.out] at c1
                cases c1
                rw [HN.out] at c6
                exact c6 hg
              have B8 : Hid (Below w.heap.size w w8) := hK.to BB.out G4.out BB.out.size
              clear WW hg hK OI BB
              go_wp2
              go_ret2
              exact Or.inr ⟨NO.out, rfl, B8.out⟩
          · have h4' : (T : Int) < 4 := by omega
            have NO : Hid (∀ v n k f, ¬ OfIs s v n k f) := fun v' n' k' f' hc => by
              obtain ⟨c1, c2, c3, c4, c5, _⟩ := (OI.out v' n' k' f').1 hc
              rw [HP.out] at c1
              cases c1
              rw [HN.out] at c5
              exact h4 c5
            clear h4 OI
            go_wp2_with fail
            refine wp_region_held_drew (S := (Kn w4 [(w2.heap.size, [.bool v, .int .u64 h, .int .u64 l, .int .i64 k], 28)])) (by kernel_rfl) ?hS200 (fun hHeld => ?rest200)
            case hS200 => (first | with_reducible exact K5.drew | with_reducible exact hHeld | with_reducible exact hHeld.below hb5)
            refine wpAnyH_take (i := 0) (oi := _) (v := ?v201) (List.getElem?_toArray.trans rfl) (by kernel_rfl) (by kernel_rfl) (by kernel_rfl) (fun _ _ _ h => h) (Or.inl ⟨by rfl, ?hy201⟩) (by assumption) ?rest201
            case hy201 => (intro wq hSw; (try simp only [Kn, Facts, CellsAt] at hSw); go_simp; try with_reducible rfl)
            try simp only [Act.put, List.setIfInBounds_toArray, List.set_cons_zero, List.set_cons_succ]
            refine wpAnyH_take (i := 1) (oi := _) (v := ?v202) (List.getElem?_toArray.trans rfl) (by kernel_rfl) (by kernel_rfl) (by kernel_rfl) (fun _ _ _ h => h) (Or.inl ⟨by rfl, ?hy202⟩) (by assumption) ?rest202
            case hy202 => (intro wq hSw; (try simp only [Kn, Facts, CellsAt] at hSw); go_simp; try with_reducible rfl)
            try simp only [Act.put, List.setIfInBounds_toArray, List.set_cons_zero, List.set_cons_succ]
            refine wpAnyH_take (i := 2) (oi := _) (v := ?v203) (List.getElem?_toArray.trans rfl) (by kernel_rfl) (by kernel_rfl) (by kernel_rfl) (fun _ _ _ h => h) (Or.inl ⟨by rfl, ?hy203⟩) (by assumption) ?rest203
            case hy203 => (intro wq hSw; (try simp only [Kn, Facts, CellsAt] at hSw); go_simp; try with_reducible rfl)
            try simp only [Act.put, List.setIfInBounds_toArray, List.set_cons_zero, List.set_cons_succ]
            refine wpAnyH_take (i := 3) (oi := _) (v := ?v204) (List.getElem?_toArray.trans rfl) (by kernel_rfl) (by kernel_rfl) (by kernel_rfl) (fun _ _ _ h => h) (Or.inl ⟨by rfl, ?hy204⟩) (by assumption) ?rest204
            case hy204 => (intro wq hSw; (try simp only [Kn, Facts, CellsAt] at hSw); go_simp; try with_reducible rfl)
            try simp only [Act.put, List.setIfInBounds_toArray, List.set_cons_zero, List.set_cons_succ]
            refine wpAnyH_take (i := 5) (oi := _) (v := ?v205) (List.getElem?_toArray.trans rfl) (by kernel_rfl) (by kernel_rfl) (by kernel_rfl) (fun _ _ _ h => h) (Or.inl ⟨by rfl, ?hy205⟩) (by assumption) ?rest205
            case hy205 => (intro wq hSw; (try simp only [Kn, Facts, CellsAt] at hSw); go_simp; try with_reducible rfl)
            try simp only [Act.put, List.setIfInBounds_toArray, List.set_cons_zero, List.set_cons_succ]
            refine wpAnyH_ready (rs := [4]) (by kernel_rfl) (by simp) ?rdy206
            refine AllReadyH.cons (List.getElem?_toArray.trans rfl) (fun K hK => ?stp206) AllReadyH.nil
            go_simp
            go_wp2_with fail
            (refine (size_c a4 T _ (M5.out.below hHeld.bel).head0).mono ?_; rintro e w5 ⟨rfl, rfl⟩)
            go_wp2_with fail
            refine hK.out _ _ ?hSn206 (fun hHeld2 => ?rest206)
            case hSn206 => (first | with_reducible exact K5.drew | with_reducible exact hHeld | with_reducible exact hHeld.below hb5)
            clear hK K hHeld
            have hHeld := hHeld2
            clear hHeld2
            try simp only [Act.put, List.setIfInBounds_toArray, List.set_cons_zero, List.set_cons_succ]
            refine wpAnyH_ready (rs := [6]) (by kernel_rfl) (by simp) ?rdy207
            refine AllReadyH.cons (List.getElem?_toArray.trans rfl) (fun K hK => ?stp207) AllReadyH.nil
            go_simp
            go_wp2_with fail
            (refine (SZ.out _).mono ?_; rintro e w6 ⟨rfl, hb5⟩)
            go_wp2_with fail
            refine hK.out _ _ ?hSn207 (fun hHeld2 => ?rest207)
            case hSn207 => (first | with_reducible exact K5.drew | with_reducible exact hHeld | with_reducible exact hHeld.below hb5)
            clear hK K hHeld
            have hHeld := hHeld2
            clear hHeld2
            try simp only [Act.put, List.setIfInBounds_toArray, List.set_cons_zero, List.set_cons_succ]
            refine wpAnyH_take (i := 7) (oi := _) (v := ?v208) (List.getElem?_toArray.trans rfl) (by kernel_rfl) (by kernel_rfl) (by kernel_rfl) (fun _ _ _ h => h) (Or.inl ⟨by rfl, ?hy208⟩) (by assumption) ?rest208
            case hy208 => (intro wq hSw; (try simp only [Kn, Facts, CellsAt] at hSw); go_simp; try with_reducible rfl)
            try simp only [Act.put, List.setIfInBounds_toArray, List.set_cons_zero, List.set_cons_succ]
            refine wpAnyH_take (i := 8) (oi := _) (v := ?v209) (List.getElem?_toArray.trans rfl) (by kernel_rfl) (by kernel_rfl) (by kernel_rfl) (fun _ _ _ h => h) (Or.inl ⟨by rfl, ?hy209⟩) (by assumption) ?rest209
            case hy209 => (intro wq hSw; (try simp only [Kn, Facts, CellsAt] at hSw); go_simp; try with_reducible rfl)
            try simp only [Act.put, List.setIfInBounds_toArray, List.set_cons_zero, List.set_cons_succ]
            refine wpAnyH_take (i := 9) (oi := _) (v := ?v210) (List.getElem?_toArray.trans rfl) (by kernel_rfl) (by kernel_rfl) (by kernel_rfl) (fun _ _ _ h => h) (Or.inl ⟨by rfl, ?hy210⟩) (by assumption) ?rest210
            case hy210 => (intro wq hSw; (try simp only [Kn, Facts, CellsAt] at hSw); go_simp; try with_reducible rfl)
            try simp only [Act.put, List.setIfInBounds_toArray, List.set_cons_zero, List.set_cons_succ]
            refine wpAnyH_take (i := 10) (oi := _) (v := ?v211) (List.getElem?_toArray.trans rfl) (by kernel_rfl) (by kernel_rfl) (by kernel_rfl) (fun _ _ _ h => h) (Or.inl ⟨by rfl, ?hy211⟩) (by assumption) ?rest211
            case hy211 => (intro wq hSw; (try simp only [Kn, Facts, CellsAt] at hSw); go_simp; try with_reducible rfl)
            try simp only [Act.put, List.setIfInBounds_toArray, List.set_cons_zero, List.set_cons_succ]
            refine wpAnyH_ready (rs := [11]) (by kernel_rfl) (by simp) ?rdy212
            refine AllReadyH.cons (List.getElem?_toArray.trans rfl) (fun K hK => ?stp212) AllReadyH.nil
            go_simp
            go_wp2_with fail
            (refine (size_c a4 T _ (M5.out.below hHeld.bel).head0).mono ?_; rintro e w7 ⟨rfl, rfl⟩)
            go_wp2_with fail
            refine hK.out _ _ ?hSn212 (fun hHeld2 => ?rest212)
            case hSn212 => (first | with_reducible exact K5.drew | with_reducible exact hHeld | with_reducible exact hHeld.below hb5)
            clear hK K hHeld
            have hHeld := hHeld2
            clear hHeld2
            try simp only [Act.put, List.setIfInBounds_toArray, List.set_cons_zero, List.set_cons_succ]
            refine wpAnyH_take (i := 12) (oi := _) (v := ?v213) (List.getElem?_toArray.trans rfl) (by kernel_rfl) (by kernel_rfl) (by kernel_rfl) (fun _ _ _ h => h) (Or.inl ⟨by rfl, ?hy213⟩) (by assumption) ?rest213
            case hy213 => (intro wq hSw; (try simp only [Kn, Facts, CellsAt] at hSw); go_simp; try with_reducible rfl)
            try simp only [Act.put, List.setIfInBounds_toArray, List.set_cons_zero, List.set_cons_succ]
            refine wpAnyH_take (i := 13) (oi := _) (v := ?v214) (List.getElem?_toArray.trans rfl) (by kernel_rfl) (by kernel_rfl) (by kernel_rfl) (fun _ _ _ h => h) (Or.inl ⟨by rfl, ?hy214⟩) (by assumption) ?rest214
            case hy214 => (intro wq hSw; (try simp only [Kn, Facts, CellsAt] at hSw); go_simp; try with_reducible rfl)
            try simp only [Act.put, List.setIfInBounds_toArray, List.set_cons_zero, List.set_cons_succ]
            refine wpAnyH_done (by kernel_rfl) ?fin200 _
            have BB := K4.out.bel.trans (hHeld.bel.mono K4.out.bel.size)
            clear hHeld K5 SZ hb5 M5
            go_wp2
            go_ret2
            exact Or.inr ⟨NO.out, rfl, BB⟩
        · have hTN' : ¬ (T : Int) = (N : Int) := by omega
          have NO : Hid (∀ v n k f, ¬ OfIs s v n k f) := fun v' n' k' f' hc => by
            obtain ⟨c1, c2, c3, c4, _⟩ := (OI.out v' n' k' f').1 hc
            rw [HP.out] at c1
            cases c1
            rw [HT.out, HN.out] at c4
            exact hTN c4
          clear hTN OI
          go_wp2_with fail
          refine wp_region_held_drew (S := (Kn w4 [(w2.heap.size, [.bool v, .int .u64 h, .int .u64 l, .int .i64 k], 28)])) (by kernel_rfl) ?hS300 (fun hHeld => ?rest300)
          case hS300 => (first | with_reducible exact K5.drew | with_reducible exact hHeld | with_reducible exact hHeld.below hb5)
          refine wpAnyH_take (i := 0) (oi := _) (v := ?v301) (List.getElem?_toArray.trans rfl) (by kernel_rfl) (by kernel_rfl) (by kernel_rfl) (fun _ _ _ h => h) (Or.inl ⟨by rfl, ?hy301⟩) (by assumption) ?rest301
          case hy301 => (intro wq hSw; (try simp only [Kn, Facts, CellsAt] at hSw); go_simp; try with_reducible rfl)
          try simp only [Act.put, List.setIfInBounds_toArray, List.set_cons_zero, List.set_cons_succ]
          refine wpAnyH_take (i := 1) (oi := _) (v := ?v302) (List.getElem?_toArray.trans rfl) (by kernel_rfl) (by kernel_rfl) (by kernel_rfl) (fun _ _ _ h => h) (Or.inl ⟨by rfl, ?hy302⟩) (by assumption) ?rest302
          case hy302 => (intro wq hSw; (try simp only [Kn, Facts, CellsAt] at hSw); go_simp; try with_reducible rfl)
          try simp only [Act.put, List.setIfInBounds_toArray, List.set_cons_zero, List.set_cons_succ]
          refine wpAnyH_take (i := 2) (oi := _) (v := ?v303) (List.getElem?_toArray.trans rfl) (by kernel_rfl) (by kernel_rfl) (by kernel_rfl) (fun _ _ _ h => h) (Or.inl ⟨by rfl, ?hy303⟩) (by assumption) ?rest303
          case hy303 => (intro wq hSw; (try simp only [Kn, Facts, CellsAt] at hSw); go_simp; try with_reducible rfl)
          try simp only [Act.put, List.setIfInBounds_toArray, List.set_cons_zero, List.set_cons_succ]
          refine wpAnyH_take (i := 3) (oi := _) (v := ?v304) (List.getElem?_toArray.trans rfl) (by kernel_rfl) (by kernel_rfl) (by kernel_rfl) (fun _ _ _ h => h) (Or.inl ⟨by rfl, ?hy304⟩) (by assumption) ?rest304
          case hy304 => (intro wq hSw; (try simp only [Kn, Facts, CellsAt] at hSw); go_simp; try with_reducible rfl)
          try simp only [Act.put, List.setIfInBounds_toArray, List.set_cons_zero, List.set_cons_succ]
          refine wpAnyH_take (i := 5) (oi := _) (v := ?v305) (List.getElem?_toArray.trans rfl) (by kernel_rfl) (by kernel_rfl) (by kernel_rfl) (fun _ _ _ h => h) (Or.inl ⟨by rfl, ?hy305⟩) (by assumption) ?rest305
          case hy305 => (intro wq hSw; (try simp only [Kn, Facts, CellsAt] at hSw); go_simp; try with_reducible rfl)
          try simp only [Act.put, List.setIfInBounds_toArray, List.set_cons_zero, List.set_cons_succ]
          refine wpAnyH_ready (rs := [4]) (by kernel_rfl) (by simp) ?rdy306
          refine AllReadyH.cons (List.getElem?_toArray.trans rfl) (fun K hK => ?stp306) AllReadyH.nil
          go_simp
          go_wp2_with fail
          (refine (size_c a4 T _ (M5.out.below hHeld.bel).head0).mono ?_; rintro e w5 ⟨rfl, rfl⟩)
          go_wp2_with fail
          refine hK.out _ _ ?hSn306 (fun hHeld2 => ?rest306)
          case hSn306 => (first | with_reducible exact K5.drew | with_reducible exact hHeld | with_reducible exact hHeld.below hb5)
          clear hK K hHeld
          have hHeld := hHeld2
          clear hHeld2
          try simp only [Act.put, List.setIfInBounds_toArray, List.set_cons_zero, List.set_cons_succ]
          refine wpAnyH_ready (rs := [6]) (by kernel_rfl) (by simp) ?rdy307
          refine AllReadyH.cons (List.getElem?_toArray.trans rfl) (fun K hK => ?stp307) AllReadyH.nil
          go_simp
          go_wp2_with fail
          (refine (SZ.out _).mono ?_; rintro e w6 ⟨rfl, hb5⟩)
          go_wp2_with fail
          refine hK.out _ _ ?hSn307 (fun hHeld2 => ?rest307)
          case hSn307 => (first | with_reducible exact K5.drew | with_reducible exact hHeld | with_reducible exact hHeld.below hb5)
          clear hK K hHeld
          have hHeld := hHeld2
          clear hHeld2
          try simp only [Act.put, List.setIfInBounds_toArray, List.set_cons_zero, List.set_cons_succ]
          refine wpAnyH_take (i := 7) (oi := _) (v := (.bool true)) (List.getElem?_toArray.trans rfl) (by kernel_rfl) (by kernel_rfl) (by kernel_rfl) (fun _ _ _ h => h) (Or.inl ⟨by rfl, ?hy308⟩) (by assumption) ?rest308
          case hy308 => (intro wq hSw; (try simp only [Kn, Facts, CellsAt] at hSw); go_simp; (all_goals (first | exact hTN' | simpa using hTN')))
          try simp only [Act.put, List.setIfInBounds_toArray, List.set_cons_zero, List.set_cons_succ]
          refine wpAnyH_take (i := 8) (oi := _) (v := ?v309) (List.getElem?_toArray.trans rfl) (by kernel_rfl) (by kernel_rfl) (by kernel_rfl) (fun _ _ _ h => h) (Or.inl ⟨by rfl, ?hy309⟩) (by assumption) ?rest309
          case hy309 => (intro wq hSw; (try simp only [Kn, Facts, CellsAt] at hSw); go_simp; try with_reducible rfl)
          try simp only [Act.put, List.setIfInBounds_toArray, List.set_cons_zero, List.set_cons_succ]
          refine wpAnyH_take (i := 9) (oi := _) (v := ?v310) (List.getElem?_toArray.trans rfl) (by kernel_rfl) (by kernel_rfl) (by kernel_rfl) (fun _ _ _ h => h) (Or.inl ⟨by rfl, ?hy310⟩) (by assumption) ?rest310
          case hy310 => (intro wq hSw; (try simp only [Kn, Facts, CellsAt] at hSw); go_simp; try with_reducible rfl)
          try simp only [Act.put, List.setIfInBounds_toArray, List.set_cons_zero, List.set_cons_succ]
          refine wpAnyH_take (i := 10) (oi := _) (v := undef) (List.getElem?_toArray.trans rfl) (by kernel_rfl) (by kernel_rfl) (by kernel_rfl) (fun _ _ _ h => h) (Or.inr ⟨by rfl, rfl⟩) (by assumption) ?rest311
          try simp only [Act.put, List.setIfInBounds_toArray, List.set_cons_zero, List.set_cons_succ]
          refine wpAnyH_take (i := 11) (oi := _) (v := undef) (List.getElem?_toArray.trans rfl) (by kernel_rfl) (by kernel_rfl) (by kernel_rfl) (fun _ _ _ h => h) (Or.inr ⟨by rfl, rfl⟩) (by assumption) ?rest312
          try simp only [Act.put, List.setIfInBounds_toArray, List.set_cons_zero, List.set_cons_succ]
          refine wpAnyH_take (i := 12) (oi := _) (v := undef) (List.getElem?_toArray.trans rfl) (by kernel_rfl) (by kernel_rfl) (by kernel_rfl) (fun _ _ _ h => h) (Or.inr ⟨by rfl, rfl⟩) (by assumption) ?rest313
          try simp only [Act.put, List.setIfInBounds_toArray, List.set_cons_zero, List.set_cons_succ]
          refine wpAnyH_take (i := 13) (oi := _) (v := ?v314) (List.getElem?_toArray.trans rfl) (by kernel_rfl) (by kernel_rfl) (by kernel_rfl) (fun _ _ _ h => h) (Or.inl ⟨by rfl, ?hy314⟩) (by assumption) ?rest314
          case hy314 => (intro wq hSw; (try simp only [Kn, Facts, CellsAt] at hSw); go_simp; try with_reducible rfl)
          try simp only [Act.put, List.setIfInBounds_toArray, List.set_cons_zero, List.set_cons_succ]
          refine wpAnyH_done (by kernel_rfl) ?fin300 _
          have BB := K4.out.bel.trans (hHeld.bel.mono K4.out.bel.size)
          clear hHeld K5 SZ hb5 M5
          go_wp2
          go_ret2
          exact Or.inr ⟨NO.out, rfl, BB⟩
      · have NO : Hid (∀ v n k f, ¬ OfIs s v n k f) := fun v' n' k' f' hc => by
          obtain ⟨c1, c2, c3, _⟩ := (OI.out v' n' k' f').1 hc
          exact hok c3
        have K5 := K3.out.below hb
        have BB := K5.bel
        clear hok OI OB K3 F
        go_wp2_with fail
        refine wp_region_held_drew (S := (Kn w [(w2.heap.size, [.bool v, .int .u64 h, .int .u64 l, .int .i64 k], 28)])) (by kernel_rfl) ?hS400 (fun hHeld => ?rest400)
        case hS400 => (first | with_reducible exact K5.drew)
        refine wpAnyH_take (i := 0) (oi := _) (v := ?v401) (List.getElem?_toArray.trans rfl) (by kernel_rfl) (by kernel_rfl) (by kernel_rfl) (fun _ _ _ h => h) (Or.inl ⟨by rfl, ?hy401⟩) (by assumption) ?rest401
        case hy401 => (intro wq hSw; (try simp only [Kn, Facts, CellsAt] at hSw); go_simp; try with_reducible rfl)
        try simp only [Act.put, List.setIfInBounds_toArray, List.set_cons_zero, List.set_cons_succ]
        refine wpAnyH_take (i := 1) (oi := _) (v := ?v402) (List.getElem?_toArray.trans rfl) (by kernel_rfl) (by kernel_rfl) (by kernel_rfl) (fun _ _ _ h => h) (Or.inl ⟨by rfl, ?hy402⟩) (by assumption) ?rest402
        case hy402 => (intro wq hSw; (try simp only [Kn, Facts, CellsAt] at hSw); go_simp; try with_reducible rfl)
        try simp only [Act.put, List.setIfInBounds_toArray, List.set_cons_zero, List.set_cons_succ]
        refine wpAnyH_take (i := 2) (oi := _) (v := ?v403) (List.getElem?_toArray.trans rfl) (by kernel_rfl) (by kernel_rfl) (by kernel_rfl) (fun _ _ _ h => h) (Or.inl ⟨by rfl, ?hy403⟩) (by assumption) ?rest403
        case hy403 => (intro wq hSw; (try simp only [Kn, Facts, CellsAt] at hSw); go_simp; try with_reducible rfl)
        try simp only [Act.put, List.setIfInBounds_toArray, List.set_cons_zero, List.set_cons_succ]
        refine wpAnyH_take (i := 3) (oi := _) (v := undef) (List.getElem?_toArray.trans rfl) (by kernel_rfl) (by kernel_rfl) (by kernel_rfl) (fun _ _ _ h => h) (Or.inr ⟨by rfl, rfl⟩) (by assumption) ?rest404
        try simp only [Act.put, List.setIfInBounds_toArray, List.set_cons_zero, List.set_cons_succ]
        refine wpAnyH_take (i := 4) (oi := _) (v := undef) (List.getElem?_toArray.trans rfl) (by kernel_rfl) (by kernel_rfl) (by kernel_rfl) (fun _ _ _ h => h) (Or.inr ⟨by rfl, rfl⟩) (by assumption) ?rest405
        try simp only [Act.put, List.setIfInBounds_toArray, List.set_cons_zero, List.set_cons_succ]
        refine wpAnyH_take (i := 5) (oi := _) (v := undef) (List.getElem?_toArray.trans rfl) (by kernel_rfl) (by kernel_rfl) (by kernel_rfl) (fun _ _ _ h => h) (Or.inr ⟨by rfl, rfl⟩) (by assumption) ?rest406
        try simp only [Act.put, List.setIfInBounds_toArray, List.set_cons_zero, List.set_cons_succ]
        refine wpAnyH_take (i := 6) (oi := _) (v := undef) (List.getElem?_toArray.trans rfl) (by kernel_rfl) (by kernel_rfl) (by kernel_rfl) (fun _ _ _ h => h) (Or.inr ⟨by rfl, rfl⟩) (by assumption) ?rest407
        try simp only [Act.put, List.setIfInBounds_toArray, List.set_cons_zero, List.set_cons_succ]
        refine wpAnyH_take (i := 7) (oi := _) (v := undef) (List.getElem?_toArray.trans rfl) (by kernel_rfl) (by kernel_rfl) (by kernel_rfl) (fun _ _ _ h => h) (Or.inr ⟨by rfl, rfl⟩) (by assumption) ?rest408
        try simp only [Act.put, List.setIfInBounds_toArray, List.set_cons_zero, List.set_cons_succ]
        refine wpAnyH_take (i := 8) (oi := _) (v := ?v409) (List.getElem?_toArray.trans rfl) (by kernel_rfl) (by kernel_rfl) (by kernel_rfl) (fun _ _ _ h => h) (Or.inl ⟨by rfl, ?hy409⟩) (by assumption) ?rest409
        case hy409 => (intro wq hSw; (try simp only [Kn, Facts, CellsAt] at hSw); go_simp; try with_reducible rfl)
        try simp only [Act.put, List.setIfInBounds_toArray, List.set_cons_zero, List.set_cons_succ]
        refine wpAnyH_take (i := 9) (oi := _) (v := ?v410) (List.getElem?_toArray.trans rfl) (by kernel_rfl) (by kernel_rfl) (by kernel_rfl) (fun _ _ _ h => h) (Or.inl ⟨by rfl, ?hy410⟩) (by assumption) ?rest410
        case hy410 => (intro wq hSw; (try simp only [Kn, Facts, CellsAt] at hSw); go_simp; try with_reducible rfl)
        try simp only [Act.put, List.setIfInBounds_toArray, List.set_cons_zero, List.set_cons_succ]
        refine wpAnyH_take (i := 10) (oi := _) (v := undef) (List.getElem?_toArray.trans rfl) (by kernel_rfl) (by kernel_rfl) (by kernel_rfl) (fun _ _ _ h => h) (Or.inr ⟨by rfl, rfl⟩) (by assumption) ?rest411
        try simp only [Act.put, List.setIfInBounds_toArray, List.set_cons_zero, List.set_cons_succ]
        refine wpAnyH_take (i := 11) (oi := _) (v := undef) (List.getElem?_toArray.trans rfl) (by kernel_rfl) (by kernel_rfl) (by kernel_rfl) (fun _ _ _ h => h) (Or.inr ⟨by rfl, rfl⟩) (by assumption) ?rest412
        try simp only [Act.put, List.setIfInBounds_toArray, List.set_cons_zero, List.set_cons_succ]
        refine wpAnyH_take (i := 12) (oi := _) (v := undef) (List.getElem?_toArray.trans rfl) (by kernel_rfl) (by kernel_rfl) (by kernel_rfl) (fun _ _ _ h => h) (Or.inr ⟨by rfl, rfl⟩) (by assumption) ?rest413
        try simp only [Act.put, List.setIfInBounds_toArray, List.set_cons_zero, List.set_cons_succ]
        refine wpAnyH_take (i := 13) (oi := _) (v := ?v414) (List.getElem?_toArray.trans rfl) (by kernel_rfl) (by kernel_rfl) (by kernel_rfl) (fun _ _ _ h => h) (Or.inl ⟨by rfl, ?hy414⟩) (by assumption) ?rest414
        case hy414 => (intro wq hSw; (try simp only [Kn, Facts, CellsAt] at hSw); go_simp; try with_reducible rfl)
        try simp only [Act.put, List.setIfInBounds_toArray, List.set_cons_zero, List.set_cons_succ]
        refine wpAnyH_done (by kernel_rfl) ?fin400 _
        clear hHeld K5
        go_wp2
        go_ret2
        exact Or.inr ⟨NO.out, rfl, by repeat (first | with_reducible exact Below.refl _ _ | with_reducible refine Below.drew ?_ | with_reducible refine Below.alloc ?_ (by first | omega | (simp <;> omega)) _ | with_reducible refine Below.setCell ?_ (by first | omega | (simp <;> omega)) _ | with_reducible refine Below.trans ?_ (Below.mono BB (by first | omega | (simp <;> omega))))⟩
    · have NO : Hid (∀ v n k f, ¬ OfIs s v n k f) := fun v' n' k' f' hc => by
        obtain ⟨c1, c2, _⟩ := (OI.out v' n' k' f').1 hc
        rw [HP.out] at c1
        cases c1
        exact hpr c2
      have hne := str_differ hpr
      have B := K3.out.bel
      generalize prP v n (k : Int) = TP at *
      clear hpr K3 F OI HP NH OB Lx
      go_wp2
      go_ret2
      exact Or.inr ⟨NO.out, rfl, B⟩
  · have NO : Hid (∀ v n k f, ¬ OfIs s v n k f) := fun v n k f hc => by
      have := ((OI.out v n k f).1 hc).1
      rw [hpar] at this
      cases this
    have B := KH.out.bel
    clear hp hpar OI KH OB Lx
    go_wp2
    go_ret2
    exact Or.inr ⟨NO.out, rfl, B⟩
end Go.Proofs.YtighdocmncbdnaaGreatDoor

namespace Go.Proofs.YtighdocmncbdnaaGreatDoor
open Go.ChangeShapes Go.WideShapes Go.ChangeAt Go.RowKit
set_option linter.unusedVariables false
set_option linter.unusedSimpArgs false

theorem cutG_join (b : UInt8) : ∀ l, ((cutG [b] l).2.2 = true → l = (cutG [b] l).1 ++ [b] ++ (cutG [b] l).2.1) ∧ ((cutG [b] l).2.2 = false → (cutG [b] l).2.1 = [])
  | [] => by simp [cutG]
  | c :: l => by
    have ih := cutG_join b l
    unfold cutG
    by_cases h : [b].isPrefixOf (c :: l) = true
    · rw [if_pos h]
      have e : b = c := by simpa [List.isPrefixOf] using h
      subst e
      simp
    · rw [if_neg h]
      refine ⟨fun h2 => ?_, fun h2 => ih.2 h2⟩
      have := ih.1 h2
      simp only [List.cons_append]
      rw [← this]

theorem of_bytes {s : ByteArray} {v : Bool} {n k : Nat} {f : Nat → Bool} (h : OfIs s v n k f) : poS v n k f = s := by
  obtain ⟨h1, h2, h3, h4, h5, h6, h7⟩ := h
  have J := cutG_join 0 s.data.toList
  have fd : (cutG [0] s.data.toList).2.2 = true := by
    cases e : (cutG [0] s.data.toList).2.2
    · have e2 := J.2 e
      obtain ⟨_, b2, _⟩ := h3
      rw [e2] at b2
      have : (⟨([] : List UInt8).toArray⟩ : ByteArray).size = 0 := rfl
      rw [this] at b2
      unfold bytesN at b2
      omega
    · rfl
  have eq := J.1 fd
  generalize (cutG [0] s.data.toList).1 = A at *
  generalize (cutG [0] s.data.toList).2.1 = D at *
  have ef : (fun p => f p && !kpF (lkP v k) (szP v n k) p) = bitS ⟨D.toArray⟩ := by
    funext p
    rw [h7]
    cases e1 : kpF (lkP v k) (szP v n k) p
    · simp [e1]
    · cases e2 : bitS ⟨D.toArray⟩ p
      · simp [e1, e2]
      · exact absurd ⟨p, e1, e2⟩ h6
  unfold poS
  rw [ef, h2, ← h4, bytes_back h3]
  have e3 : s = ⟨(A ++ [0] ++ D).toArray⟩ := by
    rw [← eq]
  rw [e3]
  have e4 : ∀ x y : List UInt8, (⟨x.toArray⟩ : ByteArray) ++ ⟨y.toArray⟩ = ⟨(x ++ y).toArray⟩ := fun x y => by
    apply ByteArray.ext
    simp
  rw [show (⟨#[0]⟩ : ByteArray) = ⟨([0] : List UInt8).toArray⟩ from rfl, e4, e4]

set_option maxRecDepth 100000 in
set_option maxHeartbeats 3200000 in
theorem pobytes_walk (s : ByteArray) (w : World) (hL : LW w) (hT : TB w) (hml : s.size ≤ maxLen) : Calls Tryz.prog 7 #[.string s] w fun e w' => e = .returned (.bool true) ∧ Below w.heap.size w w' := by
  have hz := hL.sz
  have Lx := hide (fun W (hb : Below w.heap.size w W) => hL.of hb hz)
  have AW := hide (awake6_c w hL hT)
  by_cases h9 : s.size ≤ 9000
  · have h9' : ¬ ((s.size : Int) > 9000) := by omega
    have OF := hide (fun w' hL' => poOf_c s h9 w' hL')
    have BT := hide (fun v n k f (h : OfIs s v n k f) => of_bytes h)
    clear hL hT hz h9 hml
    go_enter Tryz.func7, Tryz.ntmps7
    go_wp2_with fail
    refine AW.out.mono ?_
    rintro e w0 ⟨rfl, hb⟩
    have B0 := hide hb
    clear hb AW
    go_wp2_with fail
    refine (OF.out _ (Lx.out _ B0.out)).mono ?_
    rintro e w1 (⟨v, n, k, f, h, l, x, a, g, ho, hn, rfl, hP, hb, _, _⟩ | ⟨hno, rfl, hb⟩)
    · have H0 := hide ho
      have N0 := hide hn
      have P1 := hide hP
      have B1 := hide (B0.out.trans (hb.mono B0.out.size))
      have h0 : 0 < szP v n k := by have := ho.2.2.2.2.1; omega
      have YB := hide (poBytes_c N0.out h0 _ (Lx.out _ B1.out) hP)
      rw [BT.out _ _ _ _ ho] at YB
      have LF := hide (fun w' (P' : PoAt w' v h l k x a g (szP v n k) f) => poLeft_c rfl w' P')
      have YY := hide (fun w' hL' (P' : PoAt w' v h l k x a g (szP v n k) f) => poBytes_c N0.out h0 w' hL' P')
      rw [BT.out _ _ _ _ ho] at YY
      clear ho hn hP hb B0
      go_wp2_with fail
      refine YB.out.mono ?_
      rintro e w2 ⟨rfl, hb⟩
      have P2 := hide (P1.out.below hb)
      have B2 := hide (B1.out.trans (hb.mono B1.out.size))
      clear YB hb P1 B1
      go_wp2_with fail
      refine (OF.out _ (Lx.out _ B2.out)).mono ?_
      rintro e w3 (⟨v', n', k', f', h', l', x', a', g', ho, hn, rfl, hP, hb, _, _⟩ | ⟨hno, rfl, hb⟩)
      · obtain ⟨rfl, rfl, rfl, rfl⟩ := H0.out.uniq ho
        have N3 := hide hn
        have P3 := hide (P2.out.below hb)
        have Q3 := hide hP
        have B3 := hide (B2.out.trans (hb.mono B2.out.size))
        have Y2 := hide (fun w' hL' (P' : PoAt w' v h' l' k x' a' g' (szP v n k) f) => poBytes_c N3.out h0 w' hL' P')
        rw [BT.out _ _ _ _ ho] at Y2
        have LF2 := hide (fun w' (P' : PoAt w' v h' l' k x' a' g' (szP v n k) f) => poLeft_c rfl w' P')
        generalize ((szP v n k : Nat) : Int) - (cnt f (szP v n k) : Nat) = C at LF LF2
        clear ho hn hP hb OF P2 B2 H0 BT h0
        go_wp2_with fail
        refine (YY.out _ (Lx.out _ B3.out) P3.out).mono ?_
        rintro e w4 ⟨rfl, hb⟩
        have P4 := hide (P3.out.below hb)
        have Q4 := hide (Q3.out.below hb)
        have B4 := hide (B3.out.trans (hb.mono B3.out.size))
        clear hb P3 Q3 B3 YY
        go_wp2_with fail
        refine (Y2.out _ (Lx.out _ B4.out) Q4.out).mono ?_
        rintro e w5 ⟨rfl, hb⟩
        have P5 := hide (P4.out.below hb)
        have Q5 := hide (Q4.out.below hb)
        have B5 := hide (B4.out.trans (hb.mono B4.out.size))
        clear hb P4 Q4 B4 Y2
        go_wp2_with fail
        refine (LF2.out _ Q5.out).mono ?_
        rintro e w6 ⟨rfl, hb⟩
        have P6 := hide (P5.out.below hb)
        have B6 := hide (B5.out.trans (hb.mono B5.out.size))
        clear hb P5 Q5 B5 LF2
        go_wp2_with fail
        refine (LF.out _ P6.out).mono ?_
        rintro e w7 ⟨rfl, hb⟩
        have B7 := hide (B6.out.trans (hb.mono B6.out.size))
        clear hb P6 B6 LF
        go_wp2
        go_ret
        exact ⟨by first | rfl | simp, B7.out⟩
      · exact absurd H0.out (hno _ _ _ _)
    · have B1 := hide (B0.out.trans (hb.mono B0.out.size))
      clear hno hb B0 OF BT
      go_wp2
      go_ret
      exact ⟨by first | rfl | simp, B1.out⟩
  · have h9' : (s.size : Int) > 9000 := by omega
    clear hL hT hz h9
    go_enter Tryz.func7, Tryz.ntmps7
    go_wp2_with fail
    refine AW.out.mono ?_
    rintro e w0 ⟨rfl, hb⟩
    clear AW Lx
    go_wp2
    go_ret
    exact ⟨rfl, hb⟩
end Go.Proofs.YtighdocmncbdnaaGreatDoor
