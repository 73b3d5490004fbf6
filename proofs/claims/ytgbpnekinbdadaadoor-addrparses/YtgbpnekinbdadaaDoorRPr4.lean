/-
  Print of the reference of package addr, for addresses that are not V6.
-/
import Derived.Test.YtgbpnekinbdadaaDoorRHex
import Derived.Test.YtgbpnekinbdadaaDoorRef2
import Derived.Test.YtgbpnekinbdadaaDoorKn
namespace Go.Proofs.YtgbpnekinbdadaaDoor
open Go.ChangeShapes Go.WideShapes Go.ChangeAt Go.RowKit
set_option linter.unusedVariables false
set_option linter.unusedSimpArgs false

theorem bytes_app (x y : List UInt8) : (⟨x.toArray⟩ : ByteArray) ++ ⟨y.toArray⟩ = ⟨(x ++ y).toArray⟩ := by
  apply ByteArray.ext
  simp

/-- Four cells that are read. -/
def Q4 (w : World) (g : Nat) (x0 x1 x2 x3 : Int) (W : World) : Prop :=
  (W.cell? ⟨g, 0, none⟩ = some (.int .u8 x0) ∧ W.cell? ⟨g, 1, none⟩ = some (.int .u8 x1) ∧ W.cell? ⟨g, 2, none⟩ = some (.int .u8 x2) ∧ W.cell? ⟨g, 3, none⟩ = some (.int .u8 x3)) ∧ Below w.heap.size w W ∧ g < W.heap.size

theorem Q4.below {w W W' : World} {g : Nat} {x0 x1 x2 x3 : Int} (s : Q4 w g x0 x1 x2 x3 W) (k : Below W.heap.size W W') : Q4 w g x0 x1 x2 x3 W' :=
  ⟨⟨(k.cell (p := ⟨g, 0, none⟩) s.2.2).trans s.1.1, (k.cell (p := ⟨g, 1, none⟩) s.2.2).trans s.1.2.1, (k.cell (p := ⟨g, 2, none⟩) s.2.2).trans s.1.2.2.1, (k.cell (p := ⟨g, 3, none⟩) s.2.2).trans s.1.2.2.2⟩, s.2.1.trans (k.mono s.2.1.size), Nat.lt_of_lt_of_le s.2.2 k.size⟩

theorem Q4.drew {w W : World} {g : Nat} {x0 x1 x2 x3 : Int} (s : Q4 w g x0 x1 x2 x3 W) : Q4 w g x0 x1 x2 x3 W.drew := s.below (by repeat (first | with_reducible exact Below.refl _ _ | with_reducible refine Below.drew ?_ | with_reducible refine Below.alloc ?_ (by first | omega | (simp <;> omega)) _ | with_reducible refine Below.setCell ?_ (by first | omega | (simp <;> omega)) _))

theorem prS_parts {a b0 b1 b2 b3 : Nat} (h : topP a 32 8 4 = [b0, b1, b2, b3]) : prS a = ⟨(Lib.decDigits b0).toArray⟩ ++ ⟨#[46]⟩ ++ ⟨(Lib.decDigits b1).toArray⟩ ++ ⟨#[46]⟩ ++ ⟨(Lib.decDigits b2).toArray⟩ ++ ⟨#[46]⟩ ++ ⟨(Lib.decDigits b3).toArray⟩ := by
  unfold prS joinT
  rw [h, show (⟨#[46]⟩ : ByteArray) = ⟨([46] : List UInt8).toArray⟩ from rfl]
  simp only [bytes_app, List.map_cons, List.map_nil, Lib.join_cons, Lib.joinTail, List.flatten_cons, List.flatten_nil]
  have e : ∀ n, (txtP 10 n).data.toList = Lib.decDigits n := fun n => by unfold txtP; rw [if_pos rfl]
  simp only [e, List.append_assoc, List.cons_append, List.nil_append, List.append_nil]

set_option maxRecDepth 100000 in
set_option maxHeartbeats 3200000 in
theorem rprint02_v4 {h l : Int} {a : Nat} (ha : IsNum h l a) (hok : okA false a = true) (w : World) :
    Calls Tryd.prog 11 #[av false h l] w fun e w' => e = .returned (.string (prS a)) ∧ Below w.heap.size w w' := by
  obtain ⟨b0, b1, b2, b3, htop⟩ : ∃ b0 b1 b2 b3, topP a 32 8 4 = [b0, b1, b2, b3] := ⟨_, _, _, _, rfl⟩
  have hb : ∀ n ∈ topP a 32 8 4, n < 256 := fun n hn => by
    simp only [topP, List.nil_append, List.cons_append, List.mem_append, List.mem_cons, List.mem_singleton, List.not_mem_nil, or_false, false_or] at hn
    have m : ∀ x : Nat, x % 2 ^ 8 < 256 := fun x => Nat.mod_lt _ (by decide)
    rcases hn with h | h | h | h <;> rw [h] <;> exact m _
  rw [htop] at hb
  have c0 := hb b0 (by simp)
  have c1 := hb b1 (by simp)
  have c2 := hb b2 (by simp)
  have c3 := hb b3 (by simp)
  have RT : Hid (∀ w', Calls Tryd.prog 12 #[av false h l] w' fun e w1 => e = .returned (.bool true) ∧ Below w'.heap.size w' w1) := fun w' => hok ▸ rright_c ha w'
  have BY := hide (fun w' => rbytes_4 ha w')
  rw [htop] at BY
  have D := hide (fun (n : Nat) (hn : n < 256) w' => rdec_c hn w')
  have PS := hide (prS_parts htop)
  have sz : ∀ n, n < 256 → ((⟨(Lib.decDigits n).toArray⟩ : ByteArray)).size ≤ 20 := fun n hn => by
    have := decDigits_len (n := n) (by omega)
    show (Lib.decDigits n).toArray.size ≤ 20
    rw [List.size_toArray]
    exact this
  have s0 := sz b0 c0
  have s1 := sz b1 c1
  have s2 := sz b2 c2
  have s3 := sz b3 c3
  have D0 := hide (D.out b0 c0)
  have D1 := hide (D.out b1 c1)
  have D2 := hide (D.out b2 c2)
  have D3 := hide (D.out b3 c3)
  generalize (⟨(Lib.decDigits b0).toArray⟩ : ByteArray) = t0 at *
  generalize (⟨(Lib.decDigits b1).toArray⟩ : ByteArray) = t1 at *
  generalize (⟨(Lib.decDigits b2).toArray⟩ : ByteArray) = t2 at *
  generalize (⟨(Lib.decDigits b3).toArray⟩ : ByteArray) = t3 at *
  have K0 : Kn w [(w.heap.size, [.bool false, .int .u64 h, .int .u64 l], 26)] (w.alloc (.cells #[.bool false, .int .u64 h, .int .u64 l] 26)) := (Kn.nil w).push rfl
  have e0 : IntKind.i64.wrap (b0 : Int) = b0 := by simp [IntKind.wrap, IntKind.bits, IntKind.signed]; omega
  have e1 : IntKind.i64.wrap (b1 : Int) = b1 := by simp [IntKind.wrap, IntKind.bits, IntKind.signed]; omega
  have e2 : IntKind.i64.wrap (b2 : Int) = b2 := by simp [IntKind.wrap, IntKind.bits, IntKind.signed]; omega
  have e3 : IntKind.i64.wrap (b3 : Int) = b3 := by simp [IntKind.wrap, IntKind.bits, IntKind.signed]; omega
  clear ha hok hb sz D htop
  go_enter Tryd.func11, Tryd.ntmps11
  go_wp2_with fail
  refine (RT.out _).mono ?_
  rintro e w1 ⟨rfl, hb⟩
  have K1 := K0.below hb
  have F := K1.1
  simp only [Facts, CellsAt] at F
  clear RT hb K0
  go_wp2_with fail
  refine (BY.out _).mono ?_
  rintro e w2 ⟨sv, rfl, ho, hb⟩
  have K2 := K1.below hb
  have F2 := K2.1
  simp only [Facts, CellsAt] at F2
  obtain ⟨g, cap, hsv, hc⟩ : ∃ g cap, sv = .slice (some ⟨g, 0, none⟩) 4 cap ∧ Q4 w g b0 b1 b2 b3 w2 := by
    rcases ho.2 with ⟨_, q⟩ | ⟨g, cap, cur, q, q2, q3, _⟩
    · omega
    · have ad : ∀ i : Nat, (⟨g, 0, none⟩ : Addr).add i = ⟨g, i, none⟩ := fun i => by
        unfold Addr.add
        split <;> simp_all
      have cc := fun i v hv => ho.cells (g := g) (by rw [q]; rfl) i v hv
      refine ⟨g, cap, q, ⟨?_, ?_, ?_, ?_⟩, K2.bel, (Array.getElem?_eq_some_iff.1 q3).1⟩
      · have := cc 0 _ rfl; rwa [ad] at this
      · have := cc 1 _ rfl; rwa [ad] at this
      · have := cc 2 _ rfl; rwa [ad] at this
      · have := cc 3 _ rfl; rwa [ad] at this
  subst hsv
  clear BY ho hb K1 F K2
  go_upto_region 5 with fail
  refine wp_region_held_drew (S := (Q4 w g b0 b1 b2 b3)) (by kernel_rfl) ?hS100 (fun hHeld => ?rest100)
  case hS100 => (first | with_reducible exact hc.drew | with_reducible exact hHeld.below hb3 | with_reducible exact hHeld.below hb4 | with_reducible exact hHeld.below hb5 | with_reducible exact hHeld.below hb6)
  refine wpAnyH_take (i := 0) (oi := _) (v := ?v101) (List.getElem?_toArray.trans rfl) (by kernel_rfl) (by kernel_rfl) (by kernel_rfl) (fun _ _ _ h => h) (Or.inl ⟨by rfl, ?hy101⟩) (by assumption) ?rest101
  case hy101 => (intro wq hSw; (try simp only [Two, Q4] at hSw); go_simp; try with_reducible rfl)
  try simp only [Act.put, List.setIfInBounds_toArray, List.set_cons_zero, List.set_cons_succ]
  refine wpAnyH_take (i := 1) (oi := _) (v := ?v102) (List.getElem?_toArray.trans rfl) (by kernel_rfl) (by kernel_rfl) (by kernel_rfl) (fun _ _ _ h => h) (Or.inl ⟨by rfl, ?hy102⟩) (by assumption) ?rest102
  case hy102 => (intro wq hSw; (try simp only [Two, Q4] at hSw); go_simp; try with_reducible rfl)
  try simp only [Act.put, List.setIfInBounds_toArray, List.set_cons_zero, List.set_cons_succ]
  refine wpAnyH_take (i := 2) (oi := _) (v := ?v103) (List.getElem?_toArray.trans rfl) (by kernel_rfl) (by kernel_rfl) (by kernel_rfl) (fun _ _ _ h => h) (Or.inl ⟨by rfl, ?hy103⟩) (by assumption) ?rest103
  case hy103 => (intro wq hSw; (try simp only [Two, Q4] at hSw); go_simp; try with_reducible rfl)
  try simp only [Act.put, List.setIfInBounds_toArray, List.set_cons_zero, List.set_cons_succ]
  refine wpAnyH_take (i := 3) (oi := _) (v := ?v104) (List.getElem?_toArray.trans rfl) (by kernel_rfl) (by kernel_rfl) (by kernel_rfl) (fun _ _ _ h => h) (Or.inl ⟨by rfl, ?hy104⟩) (by assumption) ?rest104
  case hy104 => (intro wq hSw; (try simp only [Two, Q4] at hSw); go_simp; try with_reducible rfl)
  try simp only [Act.put, List.setIfInBounds_toArray, List.set_cons_zero, List.set_cons_succ]
  refine wpAnyH_take (i := 6) (oi := _) (v := ?v105) (List.getElem?_toArray.trans rfl) (by kernel_rfl) (by kernel_rfl) (by kernel_rfl) (fun _ _ _ h => h) (Or.inl ⟨by rfl, ?hy105⟩) (by assumption) ?rest105
  case hy105 => (intro wq hSw; (try simp only [Two, Q4] at hSw); go_simp; try with_reducible rfl)
  try simp only [Act.put, List.setIfInBounds_toArray, List.set_cons_zero, List.set_cons_succ]
  refine wpAnyH_take (i := 7) (oi := _) (v := ?v106) (List.getElem?_toArray.trans rfl) (by kernel_rfl) (by kernel_rfl) (by kernel_rfl) (fun _ _ _ h => h) (Or.inl ⟨by rfl, ?hy106⟩) (by assumption) ?rest106
  case hy106 => (intro wq hSw; (try simp only [Two, Q4] at hSw); go_simp; try with_reducible rfl)
  try simp only [Act.put, List.setIfInBounds_toArray, List.set_cons_zero, List.set_cons_succ]
  refine wpAnyH_take (i := 8) (oi := _) (v := ?v107) (List.getElem?_toArray.trans rfl) (by kernel_rfl) (by kernel_rfl) (by kernel_rfl) (fun _ _ _ h => h) (Or.inl ⟨by rfl, ?hy107⟩) (by assumption) ?rest107
  case hy107 => (intro wq hSw; (try simp only [Two, Q4] at hSw); go_simp; try with_reducible rfl)
  try simp only [Act.put, List.setIfInBounds_toArray, List.set_cons_zero, List.set_cons_succ]
  refine wpAnyH_take (i := 9) (oi := _) (v := ?v108) (List.getElem?_toArray.trans rfl) (by kernel_rfl) (by kernel_rfl) (by kernel_rfl) (fun _ _ _ h => h) (Or.inl ⟨by rfl, ?hy108⟩) (by assumption) ?rest108
  case hy108 => (intro wq hSw; (try simp only [Two, Q4] at hSw); go_simp; try with_reducible rfl)
  try simp only [Act.put, List.setIfInBounds_toArray, List.set_cons_zero, List.set_cons_succ]
  refine wpAnyH_take (i := 13) (oi := _) (v := ?v109) (List.getElem?_toArray.trans rfl) (by kernel_rfl) (by kernel_rfl) (by kernel_rfl) (fun _ _ _ h => h) (Or.inl ⟨by rfl, ?hy109⟩) (by assumption) ?rest109
  case hy109 => (intro wq hSw; (try simp only [Two, Q4] at hSw); go_simp; try with_reducible rfl)
  try simp only [Act.put, List.setIfInBounds_toArray, List.set_cons_zero, List.set_cons_succ]
  refine wpAnyH_take (i := 14) (oi := _) (v := ?v110) (List.getElem?_toArray.trans rfl) (by kernel_rfl) (by kernel_rfl) (by kernel_rfl) (fun _ _ _ h => h) (Or.inl ⟨by rfl, ?hy110⟩) (by assumption) ?rest110
  case hy110 => (intro wq hSw; (try simp only [Two, Q4] at hSw); go_simp; try with_reducible rfl)
  try simp only [Act.put, List.setIfInBounds_toArray, List.set_cons_zero, List.set_cons_succ]
  refine wpAnyH_take (i := 15) (oi := _) (v := ?v111) (List.getElem?_toArray.trans rfl) (by kernel_rfl) (by kernel_rfl) (by kernel_rfl) (fun _ _ _ h => h) (Or.inl ⟨by rfl, ?hy111⟩) (by assumption) ?rest111
  case hy111 => (intro wq hSw; (try simp only [Two, Q4] at hSw); go_simp; try with_reducible rfl)
  try simp only [Act.put, List.setIfInBounds_toArray, List.set_cons_zero, List.set_cons_succ]
  refine wpAnyH_take (i := 16) (oi := _) (v := ?v112) (List.getElem?_toArray.trans rfl) (by kernel_rfl) (by kernel_rfl) (by kernel_rfl) (fun _ _ _ h => h) (Or.inl ⟨by rfl, ?hy112⟩) (by assumption) ?rest112
  case hy112 => (intro wq hSw; (try simp only [Two, Q4] at hSw); go_simp; try with_reducible rfl)
  try simp only [Act.put, List.setIfInBounds_toArray, List.set_cons_zero, List.set_cons_succ]
  refine wpAnyH_take (i := 20) (oi := _) (v := ?v113) (List.getElem?_toArray.trans rfl) (by kernel_rfl) (by kernel_rfl) (by kernel_rfl) (fun _ _ _ h => h) (Or.inl ⟨by rfl, ?hy113⟩) (by assumption) ?rest113
  case hy113 => (intro wq hSw; (try simp only [Two, Q4] at hSw); go_simp; try with_reducible rfl)
  try simp only [Act.put, List.setIfInBounds_toArray, List.set_cons_zero, List.set_cons_succ]
  refine wpAnyH_take (i := 21) (oi := _) (v := ?v114) (List.getElem?_toArray.trans rfl) (by kernel_rfl) (by kernel_rfl) (by kernel_rfl) (fun _ _ _ h => h) (Or.inl ⟨by rfl, ?hy114⟩) (by assumption) ?rest114
  case hy114 => (intro wq hSw; (try simp only [Two, Q4] at hSw); go_simp; try with_reducible rfl)
  try simp only [Act.put, List.setIfInBounds_toArray, List.set_cons_zero, List.set_cons_succ]
  refine wpAnyH_take (i := 22) (oi := _) (v := ?v115) (List.getElem?_toArray.trans rfl) (by kernel_rfl) (by kernel_rfl) (by kernel_rfl) (fun _ _ _ h => h) (Or.inl ⟨by rfl, ?hy115⟩) (by assumption) ?rest115
  case hy115 => (intro wq hSw; (try simp only [Two, Q4] at hSw); go_simp; try with_reducible rfl)
  try simp only [Act.put, List.setIfInBounds_toArray, List.set_cons_zero, List.set_cons_succ]
  refine wpAnyH_take (i := 23) (oi := _) (v := ?v116) (List.getElem?_toArray.trans rfl) (by kernel_rfl) (by kernel_rfl) (by kernel_rfl) (fun _ _ _ h => h) (Or.inl ⟨by rfl, ?hy116⟩) (by assumption) ?rest116
  case hy116 => (intro wq hSw; (try simp only [Two, Q4] at hSw); go_simp; try with_reducible rfl)
  try simp only [Act.put, List.setIfInBounds_toArray, List.set_cons_zero, List.set_cons_succ]
  refine wpAnyH_ready (rs := [4]) (by kernel_rfl) (by simp) ?rdy117
  refine AllReadyH.cons (List.getElem?_toArray.trans rfl) (fun K hK => ?stp117) AllReadyH.nil
  go_simp
  go_wp2_with fail
  (refine (D0.out _).mono ?_; rintro e w3 ⟨rfl, hb3⟩)
  go_wp2_with fail
  refine hK.out _ _ ?hSn117 (fun hHeld2 => ?rest117)
  case hSn117 => (first | with_reducible exact hc.drew | with_reducible exact hHeld.below hb3 | with_reducible exact hHeld.below hb4 | with_reducible exact hHeld.below hb5 | with_reducible exact hHeld.below hb6)
  clear hK K hHeld
  have hHeld := hHeld2
  clear hHeld2
  try simp only [Act.put, List.setIfInBounds_toArray, List.set_cons_zero, List.set_cons_succ]
  refine wpAnyH_take (i := 5) (oi := _) (v := (.string (t0 ++ ⟨#[46]⟩))) (List.getElem?_toArray.trans rfl) (by kernel_rfl) (by kernel_rfl) (by kernel_rfl) (fun _ _ _ h => h) (Or.inl ⟨by rfl, ?hy118⟩) (by assumption) ?rest118
  case hy118 => (intro wq hSw; (try simp only [Two, Q4] at hSw); go_simp; (all_goals omega))
  try simp only [Act.put, List.setIfInBounds_toArray, List.set_cons_zero, List.set_cons_succ]
  refine wpAnyH_ready (rs := [10]) (by kernel_rfl) (by simp) ?rdy119
  refine AllReadyH.cons (List.getElem?_toArray.trans rfl) (fun K hK => ?stp119) AllReadyH.nil
  go_simp
  go_wp2_with fail
  (refine (D1.out _).mono ?_; rintro e w4 ⟨rfl, hb4⟩)
  go_wp2_with fail
  refine hK.out _ _ ?hSn119 (fun hHeld2 => ?rest119)
  case hSn119 => (first | with_reducible exact hc.drew | with_reducible exact hHeld.below hb3 | with_reducible exact hHeld.below hb4 | with_reducible exact hHeld.below hb5 | with_reducible exact hHeld.below hb6)
  clear hK K hHeld
  have hHeld := hHeld2
  clear hHeld2
  try simp only [Act.put, List.setIfInBounds_toArray, List.set_cons_zero, List.set_cons_succ]
  refine wpAnyH_take (i := 11) (oi := _) (v := (.string (t0 ++ ⟨#[46]⟩ ++ t1))) (List.getElem?_toArray.trans rfl) (by kernel_rfl) (by kernel_rfl) (by kernel_rfl) (fun _ _ _ h => h) (Or.inl ⟨by rfl, ?hy120⟩) (by assumption) ?rest120
  case hy120 => (intro wq hSw; (try simp only [Two, Q4] at hSw); go_simp; (all_goals omega))
  try simp only [Act.put, List.setIfInBounds_toArray, List.set_cons_zero, List.set_cons_succ]
  refine wpAnyH_take (i := 12) (oi := _) (v := (.string (t0 ++ ⟨#[46]⟩ ++ t1 ++ ⟨#[46]⟩))) (List.getElem?_toArray.trans rfl) (by kernel_rfl) (by kernel_rfl) (by kernel_rfl) (fun _ _ _ h => h) (Or.inl ⟨by rfl, ?hy121⟩) (by assumption) ?rest121
  case hy121 => (intro wq hSw; (try simp only [Two, Q4] at hSw); go_simp; (all_goals omega))
  try simp only [Act.put, List.setIfInBounds_toArray, List.set_cons_zero, List.set_cons_succ]
  refine wpAnyH_ready (rs := [17]) (by kernel_rfl) (by simp) ?rdy122
  refine AllReadyH.cons (List.getElem?_toArray.trans rfl) (fun K hK => ?stp122) AllReadyH.nil
  go_simp
  go_wp2_with fail
  (refine (D2.out _).mono ?_; rintro e w5 ⟨rfl, hb5⟩)
  go_wp2_with fail
  refine hK.out _ _ ?hSn122 (fun hHeld2 => ?rest122)
  case hSn122 => (first | with_reducible exact hc.drew | with_reducible exact hHeld.below hb3 | with_reducible exact hHeld.below hb4 | with_reducible exact hHeld.below hb5 | with_reducible exact hHeld.below hb6)
  clear hK K hHeld
  have hHeld := hHeld2
  clear hHeld2
  try simp only [Act.put, List.setIfInBounds_toArray, List.set_cons_zero, List.set_cons_succ]
  refine wpAnyH_take (i := 18) (oi := _) (v := (.string (t0 ++ ⟨#[46]⟩ ++ t1 ++ ⟨#[46]⟩ ++ t2))) (List.getElem?_toArray.trans rfl) (by kernel_rfl) (by kernel_rfl) (by kernel_rfl) (fun _ _ _ h => h) (Or.inl ⟨by rfl, ?hy123⟩) (by assumption) ?rest123
  case hy123 => (intro wq hSw; (try simp only [Two, Q4] at hSw); go_simp; (all_goals omega))
  try simp only [Act.put, List.setIfInBounds_toArray, List.set_cons_zero, List.set_cons_succ]
  refine wpAnyH_take (i := 19) (oi := _) (v := (.string (t0 ++ ⟨#[46]⟩ ++ t1 ++ ⟨#[46]⟩ ++ t2 ++ ⟨#[46]⟩))) (List.getElem?_toArray.trans rfl) (by kernel_rfl) (by kernel_rfl) (by kernel_rfl) (fun _ _ _ h => h) (Or.inl ⟨by rfl, ?hy124⟩) (by assumption) ?rest124
  case hy124 => (intro wq hSw; (try simp only [Two, Q4] at hSw); go_simp; (all_goals omega))
  try simp only [Act.put, List.setIfInBounds_toArray, List.set_cons_zero, List.set_cons_succ]
  refine wpAnyH_ready (rs := [24]) (by kernel_rfl) (by simp) ?rdy125
  refine AllReadyH.cons (List.getElem?_toArray.trans rfl) (fun K hK => ?stp125) AllReadyH.nil
  go_simp
  go_wp2_with fail
  (refine (D3.out _).mono ?_; rintro e w6 ⟨rfl, hb6⟩)
  go_wp2_with fail
  refine hK.out _ _ ?hSn125 (fun hHeld2 => ?rest125)
  case hSn125 => (first | with_reducible exact hc.drew | with_reducible exact hHeld.below hb3 | with_reducible exact hHeld.below hb4 | with_reducible exact hHeld.below hb5 | with_reducible exact hHeld.below hb6)
  clear hK K hHeld
  have hHeld := hHeld2
  clear hHeld2
  try simp only [Act.put, List.setIfInBounds_toArray, List.set_cons_zero, List.set_cons_succ]
  refine wpAnyH_take (i := 25) (oi := _) (v := (.string (t0 ++ ⟨#[46]⟩ ++ t1 ++ ⟨#[46]⟩ ++ t2 ++ ⟨#[46]⟩ ++ t3))) (List.getElem?_toArray.trans rfl) (by kernel_rfl) (by kernel_rfl) (by kernel_rfl) (fun _ _ _ h => h) (Or.inl ⟨by rfl, ?hy126⟩) (by assumption) ?rest126
  case hy126 => (intro wq hSw; (try simp only [Two, Q4] at hSw); go_simp; (all_goals omega))
  try simp only [Act.put, List.setIfInBounds_toArray, List.set_cons_zero, List.set_cons_succ]
  refine wpAnyH_take (i := 26) (oi := _) (v := ?v127) (List.getElem?_toArray.trans rfl) (by kernel_rfl) (by kernel_rfl) (by kernel_rfl) (fun _ _ _ h => h) (Or.inl ⟨by rfl, ?hy127⟩) (by assumption) ?rest127
  case hy127 => (intro wq hSw; (try simp only [Two, Q4] at hSw); go_simp; try with_reducible rfl)
  try simp only [Act.put, List.setIfInBounds_toArray, List.set_cons_zero, List.set_cons_succ]
  refine wpAnyH_done (by kernel_rfl) ?fin100 _
  have B := hHeld.2.1
  clear hHeld hc hb3 hb4 hb5 hb6 D0 D1 D2 D3
  go_wp2
  go_ret
  exact ⟨by rw [PS.out]; rfl, B⟩
end Go.Proofs.YtgbpnekinbdadaaDoor
