/-
  Texts RPr4, RPrM, RPrN of the proof.
-/
import Derived.Test.YtipjmmhlfmahbaaGreatDoorP1
import Derived.Test.YtipjmmhlfmahbaaGreatDoorP25
import Derived.Test.YtipjmmhlfmahbaaGreatDoorP26
import Derived.Test.YtipjmmhlfmahbaaGreatDoorP19

namespace Go.Proofs.YtipjmmhlfmahbaaGreatDoor
open Go.ChangeShapes Go.WideShapes Go.ChangeAt Go.RowKit
set_option linter.unusedVariables false
set_option linter.unusedSimpArgs false

theorem bytes_app (x y : List UInt8) : (⟨x.toArray⟩ : ByteArray) ++ ⟨y.toArray⟩ = ⟨(x ++ y).toArray⟩ := by
  apply ByteArray.ext
  simp

/-- Four cells that are read. -/
def Q4 (w : World) (g : Nat) (x0 x1 x2 x3 : Int) (W : World) : Prop :=
  (W.cell? ⟨g, 0, none⟩ = some (.int .u8 x0) ∧ W.cell? ⟨g, 1, none⟩ = some (.int .u8 x1) ∧ W.cell? ⟨g, 2, none⟩ = some (.int .u8 x2) ∧ W.cell? ⟨g, 3, none⟩ = some (.int .u8 x3)) ∧ Below w.heap.size w W ∧ g < W.heap.size

theorem Q4.below {w W W' : World} {g : Nat} {x0 x1 x2 x3 : Int} (s : Q4 w g x0 x1 x2 x3 W) (k : Below W.heap.size W W') : Q4 w g x0 x1 x2 x3 W' :=
  ⟨⟨(k.cell (p := ⟨g, 0, none⟩) s.2.2).trans s.1.1, (k.cell (p := ⟨g, 1, none⟩) s.2.2).trans s.1.2.1, (k.cell (p := ⟨g, 2, none⟩) s.2.2).trans s.1.2.2.1, (k.cell (p := ⟨g, 3, none⟩) s.2.2).trans s.1.2.2.2⟩, s.2.1.trans (k.mono s.2.1.size), Nat.lt_of_lt_of_le s.2.2 k.size⟩

theorem Q4.drew {w W : World} {g : Nat} {x0 x1 x2 x3 : Int} (s : Q4 w g x0 x1 x2 x3 W) : Q4 w g x0 x1 x2 x3 W.drew := s.below (by repeat (first | with_reducible exact Below.refl _ _ | with_reducible refine Below.drew ?_ | with_reducible refine Below.alloc ?_ (by first | omega | (simp <;> omega)) _ | with_reducible refine Below.setCell ?_ (by first | omega | (simp <;> omega)) _))

theorem prS_parts {a b0 b1 b2 b3 : Nat} (h : topP a 32 8 4 = [b0, b1, b2, b3]) : prS a = ⟨(Lib.decDigits b0).toArray⟩ ++ ⟨#[46]⟩ ++ ⟨(Lib.decDigits b1).toArray⟩ ++ ⟨#[46]⟩ ++ ⟨(Lib.decDigits b2).toArray⟩ ++ ⟨#[46]⟩ ++ ⟨(Lib.decDigits b3).toArray⟩ := by
  unfold prS joinT
  rw [h, show (⟨#[46]⟩ : ByteArray) = ⟨([46] : List UInt8).toArray⟩ from rfl]
  simp only [bytes_app, List.map_cons, List.map_nil, Lib.join_cons, Lib.joinTail, List.flatten_cons, List.flatten_nil]
  have e : ∀ n, (txtP 10 n).data.toList = Lib.decDigits n := fun n => by unfold txtP; rw [if_pos rfl]
  simp only [e, List.append_assoc, List.cons_append, List.nil_append, List.append_nil]

set_option maxRecDepth 100000 in
set_option maxHeartbeats 3200000 in
theorem rprint02_v4 {h l : Int} {a : Nat} (ha : IsNum h l a) (hok : okA false a = true) (w : World) :
    Calls Tryz.prog 21 #[av false h l] w fun e w' => e = .returned (.string (prS a)) ∧ Below w.heap.size w w' := by
  obtain ⟨b0, b1, b2, b3, htop⟩ : ∃ b0 b1 b2 b3, topP a 32 8 4 = [b0, b1, b2, b3] := ⟨_, _, _, _, rfl⟩
  have hb : ∀ n ∈ topP a 32 8 4, n < 256 := fun n hn => by
    simp only [topP, List.nil_append, List.cons_append, List.mem_append, List.mem_cons, List.mem_singleton, List.not_mem_nil, or_false, false_or] at hn
    have m : ∀ x : Nat, x % 2 ^ 8 < 256 := fun x => Nat.mod_lt _ (by decide)
    rcases hn with h | h | h | h <;> rw [h] <;> exact m _
  rw [htop] at hb
  have c0 := hb b0 (by simp)
  have c1 := hb b1 (by simp)
  have c2 := hb b2 (by simp)
  have c3 := hb b3 (by simp)
  have RT : Hid (∀ w', Calls Tryz.prog 23 #[av false h l] w' fun e w1 => e = .returned (.bool true) ∧ Below w'.heap.size w' w1) := fun w' => hok ▸ rright_c ha w'
  have BY := hide (fun w' => rbytes_4 ha w')
  rw [htop] at BY
  have D := hide (fun (n : Nat) (hn : n < 256) w' => rdec_c hn w')
  have PS := hide (prS_parts htop)
  have sz : ∀ n, n < 256 → ((⟨(Lib.decDigits n).toArray⟩ : ByteArray)).size ≤ 20 := fun n hn => by
    have := decDigits_len (n := n) (by omega)
    show (Lib.decDigits n).toArray.size ≤ 20
    rw [List.size_toArray]
    exact this
  have s0 := sz b0 c0
  have s1 := sz b1 c1
  have s2 := sz b2 c2
  have s3 := sz b3 c3
  have D0 := hide (D.out b0 c0)
  have D1 := hide (D.out b1 c1)
  have D2 := hide (D.out b2 c2)
  have D3 := hide (D.out b3 c3)
  generalize (⟨(Lib.decDigits b0).toArray⟩ : ByteArray) = t0 at *
  generalize (⟨(Lib.decDigits b1).toArray⟩ : ByteArray) = t1 at *
  generalize (⟨(Lib.decDigits b2).toArray⟩ : ByteArray) = t2 at *
  generalize (⟨(Lib.decDigits b3).toArray⟩ : ByteArray) = t3 at *
  have K0 : Kn w [(w.heap.size, [.bool false, .int .u64 h, .int .u64 l], 26)] (w.alloc (.cells #[.bool false, .int .u64 h, .int .u64 l] 26)) := (Kn.nil w).push rfl
  have e0 : IntKind.i64.wrap (b0 : Int) = b0 := by simp [IntKind.wrap, IntKind.bits, IntKind.signed]; omega
  have e1 : IntKind.i64.wrap (b1 : Int) = b1 := by simp [IntKind.wrap, IntKind.bits, IntKind.signed]; omega
  have e2 : IntKind.i64.wrap (b2 : Int) = b2 := by simp [IntKind.wrap, IntKind.bits, IntKind.signed]; omega
  have e3 : IntKind.i64.wrap (b3 : Int) = b3 := by simp [IntKind.wrap, IntKind.bits, IntKind.signed]; omega
  clear ha hok hb sz D htop
  go_enter Tryz.func21, Tryz.ntmps21
  go_wp2_with fail
  refine (RT.out _).mono ?_
  rintro e w1 ⟨rfl, hb⟩
  have K1 := K0.below hb
  have F := K1.1
  simp only [Facts, CellsAt] at F
  clear RT hb K0
  go_wp2_with fail
  refine (BY.out _).mono ?_
  rintro e w2 ⟨sv, rfl, ho, hb⟩
  have K2 := K1.below hb
  have F2 := K2.1
  simp only [Facts, CellsAt] at F2
  obtain ⟨g, cap, hsv, hc⟩ : ∃ g cap, sv = .slice (some ⟨g, 0, none⟩) 4 cap ∧ Q4 w g b0 b1 b2 b3 w2 := by
    rcases ho.2 with ⟨_, q⟩ | ⟨g, cap, cur, q, q2, q3, _⟩
    · omega
    · have ad : ∀ i : Nat, (⟨g, 0, none⟩ : Addr).add i = ⟨g, i, none⟩ := fun i => by
        unfold Addr.add
        split <;> simp_all
      have cc := fun i v hv => ho.cells (g := g) (by rw [q]; rfl) i v hv
      refine ⟨g, cap, q, ⟨?_, ?_, ?_, ?_⟩, K2.bel, (Array.getElem?_eq_some_iff.1 q3).1⟩
      · have := cc 0 _ rfl; rwa [ad] at this
      · have := cc 1 _ rfl; rwa [ad] at this
      · have := cc 2 _ rfl; rwa [ad] at this
      · have := cc 3 _ rfl; rwa [ad] at this
  subst hsv
  clear BY ho hb K1 F K2
  go_upto_region 5 with fail
  refine wp_region_held_drew (S := (Q4 w g b0 b1 b2 b3)) (by kernel_rfl) ?hS100 (fun hHeld => ?rest100)
  case hS100 => (first | with_reducible exact hc.drew | with_reducible exact hHeld.below hb3 | with_reducible exact hHeld.below hb4 | with_reducible exact hHeld.below hb5 | with_reducible exact hHeld.below hb6)
  refine wpAnyH_take (i := 0) (oi := _) (v := ?v101) (List.getElem?_toArray.trans rfl) (by kernel_rfl) (by kernel_rfl) (by kernel_rfl) (fun _ _ _ h => h) (Or.inl ⟨by rfl, ?hy101⟩) (by assumption) ?rest101
  case hy101 => (intro wq hSw; (try simp only [Two, Q4] at hSw); go_simp; try with_reducible rfl)
  try simp only [Act.put, List.setIfInBounds_toArray, List.set_cons_zero, List.set_cons_succ]
  refine wpAnyH_take (i := 1) (oi := _) (v := ?v102) (List.getElem?_toArray.trans rfl) (by kernel_rfl) (by kernel_rfl) (by kernel_rfl) (fun _ _ _ h => h) (Or.inl ⟨by rfl, ?hy102⟩) (by assumption) ?rest102
  case hy102 => (intro wq hSw; (try simp only [Two, Q4] at hSw); go_simp; try with_reducible rfl)
  try simp only [Act.put, List.setIfInBounds_toArray, List.set_cons_zero, List.set_cons_succ]
  refine wpAnyH_take (i := 2) (oi := _) (v := ?v103) (List.getElem?_toArray.trans rfl) (by kernel_rfl) (by kernel_rfl) (by kernel_rfl) (fun _ _ _ h => h) (Or.inl ⟨by rfl, ?hy103⟩) (by assumption) ?rest103
  case hy103 => (intro wq hSw; (try simp only [Two, Q4] at hSw); go_simp; try with_reducible rfl)
  try simp only [Act.put, List.setIfInBounds_toArray, List.set_cons_zero, List.set_cons_succ]
  refine wpAnyH_take (i := 3) (oi := _) (v := ?v104) (List.getElem?_toArray.trans rfl) (by kernel_rfl) (by kernel_rfl) (by kernel_rfl) (fun _ _ _ h => h) (Or.inl ⟨by rfl, ?hy104⟩) (by assumption) ?rest104
  case hy104 => (intro wq hSw; (try simp only [Two, Q4] at hSw); go_simp; try with_reducible rfl)
  try simp only [Act.put, List.setIfInBounds_toArray, List.set_cons_zero, List.set_cons_succ]
  refine wpAnyH_take (i := 6) (oi := _) (v := ?v105) (List.getElem?_toArray.trans rfl) (by kernel_rfl) (by kernel_rfl) (by kernel_rfl) (fun _ _ _ h => h) (Or.inl ⟨by rfl, ?hy105⟩) (by assumption) ?rest105
  case hy105 => (intro wq hSw; (try simp only [Two, Q4] at hSw); go_simp; try with_reducible rfl)
  try simp only [Act.put, List.setIfInBounds_toArray, List.set_cons_zero, List.set_cons_succ]
  refine wpAnyH_take (i := 7) (oi := _) (v := ?v106) (List.getElem?_toArray.trans rfl) (by kernel_rfl) (by kernel_rfl) (by kernel_rfl) (fun _ _ _ h => h) (Or.inl ⟨by rfl, ?hy106⟩) (by assumption) ?rest106
  case hy106 => (intro wq hSw; (try simp only [Two, Q4] at hSw); go_simp; try with_reducible rfl)
  try simp only [Act.put, List.setIfInBounds_toArray, List.set_cons_zero, List.set_cons_succ]
  refine wpAnyH_take (i := 8) (oi := _) (v := ?v107) (List.getElem?_toArray.trans rfl) (by kernel_rfl) (by kernel_rfl) (by kernel_rfl) (fun _ _ _ h => h) (Or.inl ⟨by rfl, ?hy107⟩) (by assumption) ?rest107
  case hy107 => (intro wq hSw; (try simp only [Two, Q4] at hSw); go_simp; try with_reducible rfl)
  try simp only [Act.put, List.setIfInBounds_toArray, List.set_cons_zero, List.set_cons_succ]
  refine wpAnyH_take (i := 9) (oi := _) (v := ?v108) (List.getElem?_toArray.trans rfl) (by kernel_rfl) (by kernel_rfl) (by kernel_rfl) (fun _ _ _ h => h) (Or.inl ⟨by rfl, ?hy108⟩) (by assumption) ?rest108
  case hy108 => (intro wq hSw; (try simp only [Two, Q4] at hSw); go_simp; try with_reducible rfl)
  try simp only [Act.put, List.setIfInBounds_toArray, List.set_cons_zero, List.set_cons_succ]
  refine wpAnyH_take (i := 13) (oi := _) (v := ?v109) (List.getElem?_toArray.trans rfl) (by kernel_rfl) (by kernel_rfl) (by kernel_rfl) (fun _ _ _ h => h) (Or.inl ⟨by rfl, ?hy109⟩) (by assumption) ?rest109
  case hy109 => (intro wq hSw; (try simp only [Two, Q4] at hSw); go_simp; try with_reducible rfl)
  try simp only [Act.put, List.setIfInBounds_toArray, List.set_cons_zero, List.set_cons_succ]
  refine wpAnyH_take (i := 14) (oi := _) (v := ?v110) (List.getElem?_toArray.trans rfl) (by kernel_rfl) (by kernel_rfl) (by kernel_rfl) (fun _ _ _ h => h) (Or.inl ⟨by rfl, ?hy110⟩) (by assumption) ?rest110
  case hy110 => (intro wq hSw; (try simp only [Two, Q4] at hSw); go_simp; try with_reducible rfl)
  try simp only [Act.put, List.setIfInBounds_toArray, List.set_cons_zero, List.set_cons_succ]
  refine wpAnyH_take (i := 15) (oi := _) (v := ?v111) (List.getElem?_toArray.trans rfl) (by kernel_rfl) (by kernel_rfl) (by kernel_rfl) (fun _ _ _ h => h) (Or.inl ⟨by rfl, ?hy111⟩) (by assumption) ?rest111
  case hy111 => (intro wq hSw; (try simp only [Two, Q4] at hSw); go_simp; try with_reducible rfl)
  try simp only [Act.put, List.setIfInBounds_toArray, List.set_cons_zero, List.set_cons_succ]
  refine wpAnyH_take (i := 16) (oi := _) (v := ?v112) (List.getElem?_toArray.trans rfl) (by kernel_rfl) (by kernel_rfl) (by kernel_rfl) (fun _ _ _ h => h) (Or.inl ⟨by rfl, ?hy112⟩) (by assumption) ?rest112
  case hy112 => (intro wq hSw; (try simp only [Two, Q4] at hSw); go_simp; try with_reducible rfl)
  try simp only [Act.put, List.setIfInBounds_toArray, List.set_cons_zero, List.set_cons_succ]
  refine wpAnyH_take (i := 20) (oi := _) (v := ?v113) (List.getElem?_toArray.trans rfl) (by kernel_rfl) (by kernel_rfl) (by kernel_rfl) (fun _ _ _ h => h) (Or.inl ⟨by rfl, ?hy113⟩) (by assumption) ?rest113
  case hy113 => (intro wq hSw; (try simp only [Two, Q4] at hSw); go_simp; try with_reducible rfl)
  try simp only [Act.put, List.setIfInBounds_toArray, List.set_cons_zero, List.set_cons_succ]
  refine wpAnyH_take (i := 21) (oi := _) (v := ?v114) (List.getElem?_toArray.trans rfl) (by kernel_rfl) (by kernel_rfl) (by kernel_rfl) (fun _ _ _ h => h) (Or.inl ⟨by rfl, ?hy114⟩) (by assumption) ?rest114
  case hy114 => (intro wq hSw; (try simp only [Two, Q4] at hSw); go_simp; try with_reducible rfl)
  try simp only [Act.put, List.setIfInBounds_toArray, List.set_cons_zero, List.set_cons_succ]
  refine wpAnyH_take (i := 22) (oi := _) (v := ?v115) (List.getElem?_toArray.trans rfl) (by kernel_rfl) (by kernel_rfl) (by kernel_rfl) (fun _ _ _ h => h) (Or.inl ⟨by rfl, ?hy115⟩) (by assumption) ?rest115
  case hy115 => (intro wq hSw; (try simp only [Two, Q4] at hSw); go_simp; try with_reducible rfl)
  try simp only [Act.put, List.setIfInBounds_toArray, List.set_cons_zero, List.set_cons_succ]
  refine wpAnyH_take (i := 23) (oi := _) (v := ?v116) (List.getElem?_toArray.trans rfl) (by kernel_rfl) (by kernel_rfl) (by kernel_rfl) (fun _ _ _ h => h) (Or.inl ⟨by rfl, ?hy116⟩) (by assumption) ?rest116
  case hy116 => (intro wq hSw; (try simp only [Two, Q4] at hSw); go_simp; try with_reducible rfl)
  try simp only [Act.put, List.setIfInBounds_toArray, List.set_cons_zero, List.set_cons_succ]
  refine wpAnyH_ready (rs := [4]) (by kernel_rfl) (by simp) ?rdy117
  refine AllReadyH.cons (List.getElem?_toArray.trans rfl) (fun K hK => ?stp117) AllReadyH.nil
  go_simp
  go_wp2_with fail
  (refine (D0.out _).mono ?_; rintro e w3 ⟨rfl, hb3⟩)
  go_wp2_with fail
  refine hK.out _ _ ?hSn117 (fun hHeld2 => ?rest117)
  case hSn117 => (first | with_reducible exact hc.drew | with_reducible exact hHeld.below hb3 | with_reducible exact hHeld.below hb4 | with_reducible exact hHeld.below hb5 | with_reducible exact hHeld.below hb6)
  clear hK K hHeld
  have hHeld := hHeld2
  clear hHeld2
  try simp only [Act.put, List.setIfInBounds_toArray, List.set_cons_zero, List.set_cons_succ]
  refine wpAnyH_take (i := 5) (oi := _) (v := (.string (t0 ++ ⟨#[46]⟩))) (List.getElem?_toArray.trans rfl) (by kernel_rfl) (by kernel_rfl) (by kernel_rfl) (fun _ _ _ h => h) (Or.inl ⟨by rfl, ?hy118⟩) (by assumption) ?rest118
  case hy118 => (intro wq hSw; (try simp only [Two, Q4] at hSw); go_simp; (all_goals omega))
  try simp only [Act.put, List.setIfInBounds_toArray, List.set_cons_zero, List.set_cons_succ]
  refine wpAnyH_ready (rs := [10]) (by kernel_rfl) (by simp) ?rdy119
  refine AllReadyH.cons (List.getElem?_toArray.trans rfl) (fun K hK => ?stp119) AllReadyH.nil
  go_simp
  go_wp2_with fail
  (refine (D1.out _).mono ?_; rintro e w4 ⟨rfl, hb4⟩)
  go_wp2_with fail
  refine hK.out _ _ ?hSn119 (fun hHeld2 => ?rest119)
  case hSn119 => (first | with_reducible exact hc.drew | with_reducible exact hHeld.below hb3 | with_reducible exact hHeld.below hb4 | with_reducible exact hHeld.below hb5 | with_reducible exact hHeld.below hb6)
  clear hK K hHeld
  have hHeld := hHeld2
  clear hHeld2
  try simp only [Act.put, List.setIfInBounds_toArray, List.set_cons_zero, List.set_cons_succ]
  refine wpAnyH_take (i := 11) (oi := _) (v := (.string (t0 ++ ⟨#[46]⟩ ++ t1))) (List.getElem?_toArray.trans rfl) (by kernel_rfl) (by kernel_rfl) (by kernel_rfl) (fun _ _ _ h => h) (Or.inl ⟨by rfl, ?hy120⟩) (by assumption) ?rest120
  case hy120 => (intro wq hSw; (try simp only [Two, Q4] at hSw); go_simp; (all_goals omega))
  try simp only [Act.put, List.setIfInBounds_toArray, List.set_cons_zero, List.set_cons_succ]
  refine wpAnyH_take (i := 12) (oi := _) (v := (.string (t0 ++ ⟨#[46]⟩ ++ t1 ++ ⟨#[46]⟩))) (List.getElem?_toArray.trans rfl) (by kernel_rfl) (by kernel_rfl) (by kernel_rfl) (fun _ _ _ h => h) (Or.inl ⟨by rfl, ?hy121⟩) (by assumption) ?rest121
  case hy121 => (intro wq hSw; (try simp only [Two, Q4] at hSw); go_simp; (all_goals omega))
  try simp only [Act.put, List.setIfInBounds_toArray, List.set_cons_zero, List.set_cons_succ]
  refine wpAnyH_ready (rs := [17]) (by kernel_rfl) (by simp) ?rdy122
  refine AllReadyH.cons (List.getElem?_toArray.trans rfl) (fun K hK => ?stp122) AllReadyH.nil
  go_simp
  go_wp2_with fail
  (refine (D2.out _).mono ?_; rintro e w5 ⟨rfl, hb5⟩)
  go_wp2_with fail
  refine hK.out _ _ ?hSn122 (fun hHeld2 => ?rest122)
  case hSn122 => (first | with_reducible exact hc.drew | with_reducible exact hHeld.below hb3 | with_reducible exact hHeld.below hb4 | with_reducible exact hHeld.below hb5 | with_reducible exact hHeld.below hb6)
  clear hK K hHeld
  have hHeld := hHeld2
  clear hHeld2
  try simp only [Act.put, List.setIfInBounds_toArray, List.set_cons_zero, List.set_cons_succ]
  refine wpAnyH_take (i := 18) (oi := _) (v := (.string (t0 ++ ⟨#[46]⟩ ++ t1 ++ ⟨#[46]⟩ ++ t2))) (List.getElem?_toArray.trans rfl) (by kernel_rfl) (by kernel_rfl) (by kernel_rfl) (fun _ _ _ h => h) (Or.inl ⟨by rfl, ?hy123⟩) (by assumption) ?rest123
  case hy123 => (intro wq hSw; (try simp only [Two, Q4] at hSw); go_simp; (all_goals omega))
  try simp only [Act.put, List.setIfInBounds_toArray, List.set_cons_zero, List.set_cons_succ]
  refine wpAnyH_take (i := 19) (oi := _) (v := (.string (t0 ++ ⟨#[46]⟩ ++ t1 ++ ⟨#[46]⟩ ++ t2 ++ ⟨#[46]⟩))) (List.getElem?_toArray.trans rfl) (by kernel_rfl) (by kernel_rfl) (by kernel_rfl) (fun _ _ _ h => h) (Or.inl ⟨by rfl, ?hy124⟩) (by assumption) ?rest124
  case hy124 => (intro wq hSw; (try simp only [Two, Q4] at hSw); go_simp; (all_goals omega))
  try simp only [Act.put, List.setIfInBounds_toArray, List.set_cons_zero, List.set_cons_succ]
  refine wpAnyH_ready (rs := [24]) (by kernel_rfl) (by simp) ?rdy125
  refine AllReadyH.cons (List.getElem?_toArray.trans rfl) (fun K hK => ?stp125) AllReadyH.nil
  go_simp
  go_wp2_with fail
  (refine (D3.out _).mono ?_; rintro e w6 ⟨rfl, hb6⟩)
  go_wp2_with fail
  refine hK.out _ _ ?hSn125 (fun hHeld2 => ?rest125)
  case hSn125 => (first | with_reducible exact hc.drew | with_reducible exact hHeld.below hb3 | with_reducible exact hHeld.below hb4 | with_reducible exact hHeld.below hb5 | with_reducible exact hHeld.below hb6)
  clear hK K hHeld
  have hHeld := hHeld2
  clear hHeld2
  try simp only [Act.put, List.setIfInBounds_toArray, List.set_cons_zero, List.set_cons_succ]
  refine wpAnyH_take (i := 25) (oi := _) (v := (.string (t0 ++ ⟨#[46]⟩ ++ t1 ++ ⟨#[46]⟩ ++ t2 ++ ⟨#[46]⟩ ++ t3))) (List.getElem?_toArray.trans rfl) (by kernel_rfl) (by kernel_rfl) (by kernel_rfl) (fun _ _ _ h => h) (Or.inl ⟨by rfl, ?hy126⟩) (by assumption) ?rest126
  case hy126 => (intro wq hSw; (try simp only [Two, Q4] at hSw); go_simp; (all_goals omega))
  try simp only [Act.put, List.setIfInBounds_toArray, List.set_cons_zero, List.set_cons_succ]
  refine wpAnyH_take (i := 26) (oi := _) (v := ?v127) (List.getElem?_toArray.trans rfl) (by kernel_rfl) (by kernel_rfl) (by kernel_rfl) (fun _ _ _ h => h) (Or.inl ⟨by rfl, ?hy127⟩) (by assumption) ?rest127
  case hy127 => (intro wq hSw; (try simp only [Two, Q4] at hSw); go_simp; try with_reducible rfl)
  try simp only [Act.put, List.setIfInBounds_toArray, List.set_cons_zero, List.set_cons_succ]
  refine wpAnyH_done (by kernel_rfl) ?fin100 _
  have B := hHeld.2.1
  clear hHeld hc hb3 hb4 hb5 hb6 D0 D1 D2 D3
  go_wp2
  go_ret
  exact ⟨by rw [PS.out]; rfl, B⟩
end Go.Proofs.YtipjmmhlfmahbaaGreatDoor

namespace Go.Proofs.YtipjmmhlfmahbaaGreatDoor
open Go.ChangeShapes Go.WideShapes Go.ChangeAt Go.RowKit
set_option linter.unusedVariables false
set_option linter.unusedSimpArgs false

/-- How many noughts stand first. -/
def lead : List Nat → Nat
  | [] => 0
  | x :: r => if x = 0 then lead r + 1 else 0

/-- The first of the longest rows of noughts among those that begin below i: where, how long. -/
def bestR (gs : List Nat) : Nat → Nat × Nat
  | 0 => (0, 0)
  | i + 1 => if (bestR gs i).2 < lead (gs.drop i) then (i, lead (gs.drop i)) else bestR gs i

theorem lead_le : ∀ gs : List Nat, lead gs ≤ gs.length
  | [] => Nat.le_refl _
  | x :: r => by
    have := lead_le r
    unfold lead
    split
    · simp only [List.length_cons]; omega
    · omega

theorem best_le (gs : List Nat) : ∀ i, i ≤ gs.length → (bestR gs i).1 + (bestR gs i).2 ≤ gs.length ∧ (i = 0 ∨ (bestR gs i).1 < i)
  | 0, _ => by simp [bestR]
  | i + 1, h => by
    have ih := best_le gs i (by omega)
    have l := lead_le (gs.drop i)
    rw [List.length_drop] at l
    unfold bestR
    split
    · exact ⟨by show i + lead (gs.drop i) ≤ _; omega, Or.inr (Nat.lt_succ_self i)⟩
    · rename_i hn
      refine ⟨ih.1, Or.inr ?_⟩
      rcases ih.2 with e | e
      · subst e; show (0 : Nat) < 0 + 1; omega
      · omega

/-- Where noughts stand. -/
def zb (gs : List Nat) : List Nat := gs.map fun x => if x = 0 then 0 else 1

theorem lead_zb : ∀ gs : List Nat, lead (zb gs) = lead gs
  | [] => rfl
  | x :: r => by
    have ih := lead_zb r
    unfold zb at *
    by_cases h : x = 0
    · simp [lead, h, ih]
    · simp [lead, h]

theorem best_zb (gs : List Nat) : ∀ i, bestR (zb gs) i = bestR gs i
  | 0 => rfl
  | i + 1 => by
    have e : (zb gs).drop i = zb (gs.drop i) := by unfold zb; rw [List.map_drop]
    unfold bestR
    rw [best_zb gs i, e, lead_zb]

theorem loF_zb : ∀ (gs : List Nat) (k b m s : Nat), loF (zb gs) k b m s = loF gs k b m s
  | [], _, _, _, _ => rfl
  | x :: r, k, b, m, s => by
    have ih := loF_zb r
    unfold zb at *
    by_cases h : x = 0
    · subst h
      simp only [List.map_cons, loF, if_true, ih]
    · simp only [List.map_cons, loF, if_neg h, ih, if_pos h, ne_eq, not_false_eq_true, if_true, Nat.one_ne_zero]

theorem agree_b : ∀ b0 b1 b2 b3 b4 b5 b6 b7 : Bool, (fun gs : List Nat => (2 ≤ (bestR gs 8).2 → loR gs = ((bestR gs 8).1, (bestR gs 8).1 + (bestR gs 8).2)) ∧ ((bestR gs 8).2 < 2 → (loR gs).1 = (loR gs).2)) [b0.toNat, b1.toNat, b2.toNat, b3.toNat, b4.toNat, b5.toNat, b6.toNat, b7.toNat] := by
  decide +kernel

theorem best_lo {gs : List Nat} (h : gs.length = 8) : (2 ≤ (bestR gs 8).2 → loR gs = ((bestR gs 8).1, (bestR gs 8).1 + (bestR gs 8).2)) ∧ ((bestR gs 8).2 < 2 → (loR gs).1 = (loR gs).2) := by
  match gs, h with
  | [a0, a1, a2, a3, a4, a5, a6, a7], _ =>
    have e : zb [a0, a1, a2, a3, a4, a5, a6, a7] = [(!decide (a0 = 0)).toNat, (!decide (a1 = 0)).toNat, (!decide (a2 = 0)).toNat, (!decide (a3 = 0)).toNat, (!decide (a4 = 0)).toNat, (!decide (a5 = 0)).toNat, (!decide (a6 = 0)).toNat, (!decide (a7 = 0)).toNat] := by
      have q : ∀ x : Nat, (if x = 0 then 0 else 1) = (!decide (x = 0)).toNat := fun x => by by_cases h : x = 0 <;> simp [h]
      unfold zb
      simp only [List.map_cons, List.map_nil, q]
    have k := agree_b (!decide (a0 = 0)) (!decide (a1 = 0)) (!decide (a2 = 0)) (!decide (a3 = 0)) (!decide (a4 = 0)) (!decide (a5 = 0)) (!decide (a6 = 0)) (!decide (a7 = 0))
    rw [← e] at k
    have l : loR (zb [a0, a1, a2, a3, a4, a5, a6, a7]) = loR [a0, a1, a2, a3, a4, a5, a6, a7] := by unfold loR; rw [loF_zb]
    simpa only [best_zb, l] using k

/-- One more text in the row. -/
theorem joinT_more (b : Int) (ns : List Nat) (x : Nat) (sep : List UInt8) : joinT b (ns ++ [x]) sep = if ns = [] then (txtP b x).data.toList else joinT b ns sep ++ (sep ++ (txtP b x).data.toList) := by
  cases ns with
  | nil => simp [joinT, Lib.join_cons, Lib.joinTail]
  | cons y r =>
    rw [if_neg (by simp)]
    unfold joinT
    rw [List.cons_append, List.map_cons, List.map_cons, Lib.join_cons, Lib.join_cons, List.map_append, List.append_assoc]
    congr 1
    simp [Lib.joinTail, List.map_append, List.flatten_append]

/-- The text of the first i groups, where the row of noughts at f, m long, is left out. -/
def pr6 (gs : List Nat) (f m i : Nat) : List UInt8 :=
  if 2 ≤ m ∧ f < i then joinT 16 (gs.take f) [58] ++ [58, 58] ++ joinT 16 ((gs.take i).drop (f + m)) [58] else joinT 16 (gs.take i) [58]

theorem prL_is (a : Nat) (h : (topP a 128 16 8).length = 8) : prL a = ⟨(pr6 (topP a 128 16 8) (bestR (topP a 128 16 8) 8).1 (bestR (topP a 128 16 8) 8).2 8).toArray⟩ := by
  have k := best_lo h
  have l := best_le (topP a 128 16 8) 8 (by omega)
  unfold prL
  generalize topP a 128 16 8 = gs at *
  have t8 : gs.take 8 = gs := List.take_of_length_le (by omega)
  unfold pr6
  rw [t8]
  by_cases c : 2 ≤ (bestR gs 8).2
  · have k1 := k.1 c
    rw [k1, if_neg (by show ¬ ((bestR gs 8).1 = (bestR gs 8).1 + (bestR gs 8).2); omega), if_pos (⟨c, by omega⟩ : 2 ≤ (bestR gs 8).2 ∧ (bestR gs 8).1 < 8)]
  · rw [if_pos (k.2 (by omega)), if_neg (fun d => c d.1)]
end Go.Proofs.YtipjmmhlfmahbaaGreatDoor

namespace Go.Proofs.YtipjmmhlfmahbaaGreatDoor
open Go.ChangeShapes Go.WideShapes Go.ChangeAt Go.RowKit
set_option linter.unusedVariables false
set_option linter.unusedSimpArgs false

/-- A text that ends in something else than a colon. -/
def EndN (t : List UInt8) : Prop := ∃ r x, t = r ++ [x] ∧ x ≠ 58

theorem EndN.pre {t : List UInt8} (h : EndN t) (u : List UInt8) : EndN (u ++ t) := by
  obtain ⟨r, x, rfl, hx⟩ := h
  exact ⟨u ++ r, x, by rw [List.append_assoc], hx⟩

theorem dig_ne : ∀ d : Fin 16, UInt8.ofNat (hexI ((d.val : Nat) : Int)).toNat ≠ 58 := by decide +kernel

theorem low_end (u : Nat) : ∀ j, 0 < j → EndN ((lowH u j).map fun n => UInt8.ofNat n.toNat)
  | 1, _ => ⟨[], _, rfl, by
      have := dig_ne ⟨u / 16 ^ 0 % 16, Nat.mod_lt _ (by decide)⟩
      exact this⟩
  | j + 2, _ => by
    have ih := low_end u (j + 1) (by omega)
    show EndN (UInt8.ofNat (hexI ((u / 16 ^ (j + 1) % 16 : Nat) : Int)).toNat :: (lowH u (j + 1)).map fun n => UInt8.ofNat n.toNat)
    exact EndN.pre ih [_]

theorem hex_end (u : Nat) : EndN (hexT u).data.toList := by
  unfold hexT strOfNums
  exact low_end u _ (by unfold hexLen; split <;> try split <;> try split
                        all_goals omega)

theorem txt16 (n : Nat) : (txtP 16 n).data.toList = (hexT n).data.toList := by unfold txtP; rw [if_neg (by decide)]

theorem join_end (x : Nat) (ns : List Nat) : EndN (joinT 16 (ns ++ [x]) [58]) := by
  rw [joinT_more, txt16]
  split
  · exact hex_end x
  · rw [← List.append_assoc]
    exact (hex_end x).pre _

/-- One more group behind a text: behind nothing, behind a colon, or behind neither. -/
def More (t hx u : List UInt8) : Prop := (t = [] ∧ u = hx) ∨ (∃ r, t = r ++ [58] ∧ u = t ++ hx) ∨ (EndN t ∧ u = t ++ [58] ++ hx)

theorem join_more (X : List UInt8) (ns : List Nat) (x : Nat) (hX : ns = [] → X = [] ∨ ∃ r, X = r ++ [58]) : More (X ++ joinT 16 ns [58]) (hexT x).data.toList (X ++ joinT 16 (ns ++ [x]) [58]) := by
  rw [joinT_more, txt16]
  rcases List.eq_nil_or_concat ns with e | ⟨r, y, e⟩
  · subst e
    rw [if_pos rfl]
    have j0 : joinT 16 ([] : List Nat) [58] = [] := rfl
    rw [j0, List.append_nil]
    rcases hX rfl with e | ⟨r, e⟩
    · subst e
      exact Or.inl ⟨rfl, rfl⟩
    · exact Or.inr (Or.inl ⟨r, e, rfl⟩)
  · rw [List.concat_eq_append] at e
    rw [if_neg (by rw [e]; simp), e]
    exact Or.inr (Or.inr ⟨(join_end y r).pre X, by simp only [List.append_assoc]⟩)

theorem pr6_step (gs : List Nat) (f m i : Nat) (hi : i < gs.length) (h : m < 2 ∨ i < f ∨ f + m ≤ i) : More (pr6 gs f m i) (hexT (gs.getD i 0)).data.toList (pr6 gs f m (i + 1)) := by
  have tk : gs.take (i + 1) = gs.take i ++ [gs.getD i 0] := by
    rw [List.take_add_one, List.getD_eq_getElem?_getD, List.getElem?_eq_getElem hi]
    rfl
  by_cases c : 2 ≤ m ∧ f < i
  · have fm : f + m ≤ i := by omega
    unfold pr6
    rw [if_pos c, if_pos ⟨c.1, by omega⟩, tk, List.drop_append_of_le_length (by rw [List.length_take]; omega)]
    exact join_more _ _ _ (fun _ => Or.inr ⟨joinT 16 (gs.take f) [58] ++ [58], by simp⟩)
  · have c2 : ¬ (2 ≤ m ∧ f < i + 1) := fun d => by omega
    unfold pr6
    rw [if_neg c, if_neg c2, tk]
    have := join_more [] (gs.take i) (gs.getD i 0) (fun _ => Or.inl rfl)
    simpa only [List.nil_append] using this

theorem pr6_skip (gs : List Nat) (f m : Nat) (hm : 2 ≤ m) (hl : f + m ≤ gs.length) : pr6 gs f m (f + m) = pr6 gs f m f ++ [58, 58] := by
  unfold pr6
  rw [if_pos ⟨hm, by omega⟩, if_neg (fun d => by omega), List.drop_of_length_le (by rw [List.length_take]; omega)]
  show _ ++ [] = _
  rw [List.append_nil]

theorem joinL_len (b : Int) (ns : List Nat) (h : ∀ n ∈ ns, n < 65536) : (joinT b ns [58]).length ≤ 101 * ns.length := by
  cases ns with
  | nil => exact Nat.le_refl _
  | cons x r =>
    have hx : ∀ n, n < 65536 → (txtP b n).data.toList.length ≤ 100 := fun n hn => by
      have := txtP_size (b := b) hn
      rw [Array.length_toList]
      exact this
    unfold joinT
    rw [List.map_cons, Lib.join_cons, List.length_append, List.length_cons]
    have a := hx x (h x (by simp))
    have q : (Lib.joinTail [58] (r.map fun n => (txtP b n).data.toList)).length ≤ 101 * r.length := by
      have hr : ∀ n ∈ r, n < 65536 := fun n hn => h n (by simp [hn])
      clear h a
      induction r with
      | nil => simp [Lib.joinTail]
      | cons y u ih =>
        have k := hx y (hr y (by simp))
        have i := ih (fun n hn => hr n (by simp [hn]))
        simp only [List.map_cons, Lib.joinTail, List.flatten_cons, List.length_append, List.length_cons, List.length_nil] at i ⊢
        omega
    omega

theorem pr6_size (gs : List Nat) (h : ∀ n ∈ gs, n < 65536) (h8 : gs.length ≤ 8) (f m i : Nat) : (pr6 gs f m i).length ≤ 2000 := by
  have t (k : Nat) : ((gs.take k).length ≤ 8) := by rw [List.length_take]; omega
  have d (k j : Nat) : (((gs.take k).drop j).length ≤ 8) := by have := t k; rw [List.length_drop]; omega
  have a (k : Nat) := joinL_len 16 (gs.take k) (fun n hn => h n (List.mem_of_mem_take hn))
  have b (k j : Nat) := joinL_len 16 ((gs.take k).drop j) (fun n hn => h n (List.mem_of_mem_take (List.mem_of_mem_drop hn)))
  unfold pr6
  split
  · have := a f
    have := b i (f + m)
    have := t f
    have := d i (f + m)
    simp only [List.length_append, List.length_cons, List.length_nil]
    omega
  · have := a i
    have := t i
    omega

theorem pr6_zero (gs : List Nat) (f m : Nat) : pr6 gs f m 0 = [] := by
  unfold pr6
  rw [if_neg (fun d => by omega)]
  rfl
end Go.Proofs.YtipjmmhlfmahbaaGreatDoor
