/-
  Texts RPr4, RPr5 of the proof.
-/
import Derived.Test.YtgbpnekinbdadaaGreatDoorPQ33
import Derived.Test.YtgbpnekinbdadaaGreatDoorPQ44
import Derived.Test.YtgbpnekinbdadaaGreatDoorPQ31
import Derived.Test.YtgbpnekinbdadaaGreatDoorPQ32
import Derived.Test.YtgbpnekinbdadaaGreatDoorPQ0

namespace Go.Proofs.YtgbpnekinbdadaaGreatDoor
open Go.ChangeShapes Go.WideShapes Go.ChangeAt Go.RowKit
set_option linter.unusedVariables false
set_option linter.unusedSimpArgs false

theorem bytes_app (x y : List UInt8) : (⟨x.toArray⟩ : ByteArray) ++ ⟨y.toArray⟩ = ⟨(x ++ y).toArray⟩ := by
 apply ByteArray.ext
 simp

/-- Four cells that are read. -/
def Q4 (w : World) (g : Nat) (x0 x1 x2 x3 : Int) (W : World) : Prop :=
 (W.cell? ⟨g, 0, none⟩ = some (.int .u8 x0) ∧ W.cell? ⟨g, 1, none⟩ = some (.int .u8 x1) ∧ W.cell? ⟨g, 2, none⟩ = some (.int .u8 x2) ∧ W.cell? ⟨g, 3, none⟩ = some (.int .u8 x3)) ∧ Below w.heap.size w W ∧ g < W.heap.size

theorem Q4.below {w W W' : World} {g : Nat} {x0 x1 x2 x3 : Int} (s : Q4 w g x0 x1 x2 x3 W) (k : Below W.heap.size W W') : Q4 w g x0 x1 x2 x3 W' :=
 ⟨⟨(k.cell (p := ⟨g, 0, none⟩) s.2.2).trans s.1.1, (k.cell (p := ⟨g, 1, none⟩) s.2.2).trans s.1.2.1, (k.cell (p := ⟨g, 2, none⟩) s.2.2).trans s.1.2.2.1, (k.cell (p := ⟨g, 3, none⟩) s.2.2).trans s.1.2.2.2⟩, s.2.1.trans (k.mono s.2.1.size), Nat.lt_of_lt_of_le s.2.2 k.size⟩

theorem Q4.drew {w W : World} {g : Nat} {x0 x1 x2 x3 : Int} (s : Q4 w g x0 x1 x2 x3 W) : Q4 w g x0 x1 x2 x3 W.drew := s.below (by repeat (first | with_reducible exact Below.refl _ _ | with_reducible refine Below.drew ?_ | with_reducible refine Below.alloc ?_ (by first | omega | (simp <;> omega)) _ | with_reducible refine Below.setCell ?_ (by first | omega | (simp <;> omega)) _))

theorem prS_parts {a b0 b1 b2 b3 : Nat} (h : topP a 32 8 4 = [b0, b1, b2, b3]) : prS a = ⟨(Lib.decDigits b0).toArray⟩ ++ ⟨#[46]⟩ ++ ⟨(Lib.decDigits b1).toArray⟩ ++ ⟨#[46]⟩ ++ ⟨(Lib.decDigits b2).toArray⟩ ++ ⟨#[46]⟩ ++ ⟨(Lib.decDigits b3).toArray⟩ := by
 unfold prS joinT
 rw [h, show (⟨#[46]⟩ : ByteArray) = ⟨([46] : List UInt8).toArray⟩ from rfl]
 simp only [bytes_app, List.map_cons, List.map_nil, Lib.join_cons, Lib.joinTail, List.flatten_cons, List.flatten_nil]
 have e : ∀ n, (txtP 10 n).data.toList = Lib.decDigits n := fun n => by unfold txtP; rw [if_pos rfl]
 simp only [e, List.append_assoc, List.cons_append, List.nil_append, List.append_nil]

set_option maxRecDepth 100000 in
set_option maxHeartbeats 3200000 in
theorem rprint02_v4 {h l : Int} {a : Nat} (ha : IsNum h l a) (hok : okA false a = true) (w : World) :
  Calls Tryz.prog 40 #[av false h l] w fun e w' => e = .returned (.string (prS a)) ∧ Below w.heap.size w w' := by
 obtain ⟨b0, b1, b2, b3, htop⟩ : ∃ b0 b1 b2 b3, topP a 32 8 4 = [b0, b1, b2, b3] := ⟨_, _, _, _, rfl⟩
 have hb : ∀ n ∈ topP a 32 8 4, n < 256 := fun n hn => by
  simp only [topP, List.nil_append, List.cons_append, List.mem_append, List.mem_cons, List.mem_singleton, List.not_mem_nil, or_false, false_or] at hn
  have m : ∀ x : Nat, x % 2 ^ 8 < 256 := fun x => Nat.mod_lt _ (by decide)
  rcases hn with h | h | h | h <;> rw [h] <;> exact m _
 rw [htop] at hb
 have c0 := hb b0 (by simp)
 have c1 := hb b1 (by simp)
 have c2 := hb b2 (by simp)
 have c3 := hb b3 (by simp)
 have RT : Hid (∀ w', Calls Tryz.prog 42 #[av false h l] w' fun e w1 => e = .returned (.bool true) ∧ Below w'.heap.size w' w1) := fun w' => hok ▸ rright_c ha w'
 have BY := hide (fun w' => rbytes_4 ha w')
 rw [htop] at BY
 have D := hide (fun (n : Nat) (hn : n < 256) w' => rdec_c hn w')
 have PS := hide (prS_parts htop)
 have sz : ∀ n, n < 256 → ((⟨(Lib.decDigits n).toArray⟩ : ByteArray)).size ≤ 20 := fun n hn => by
  have := decDigits_len (n := n) (by omega)
  show (Lib.decDigits n).toArray.size ≤ 20
  rw [List.size_toArray]
  exact this
 have s0 := sz b0 c0
 have s1 := sz b1 c1
 have s2 := sz b2 c2
 have s3 := sz b3 c3
 have D0 := hide (D.out b0 c0)
 have D1 := hide (D.out b1 c1)
 have D2 := hide (D.out b2 c2)
 have D3 := hide (D.out b3 c3)
 generalize (⟨(Lib.decDigits b0).toArray⟩ : ByteArray) = t0 at *
 generalize (⟨(Lib.decDigits b1).toArray⟩ : ByteArray) = t1 at *
 generalize (⟨(Lib.decDigits b2).toArray⟩ : ByteArray) = t2 at *
 generalize (⟨(Lib.decDigits b3).toArray⟩ : ByteArray) = t3 at *
 have K0 : Kn w [(w.heap.size, [.bool false, .int .u64 h, .int .u64 l], 26)] (w.alloc (.cells #[.bool false, .int .u64 h, .int .u64 l] 26)) := (Kn.nil w).push rfl
 have e0 : IntKind.i64.wrap (b0 : Int) = b0 := by simp [IntKind.wrap, IntKind.bits, IntKind.signed]; omega
 have e1 : IntKind.i64.wrap (b1 : Int) = b1 := by simp [IntKind.wrap, IntKind.bits, IntKind.signed]; omega
 have e2 : IntKind.i64.wrap (b2 : Int) = b2 := by simp [IntKind.wrap, IntKind.bits, IntKind.signed]; omega
 have e3 : IntKind.i64.wrap (b3 : Int) = b3 := by simp [IntKind.wrap, IntKind.bits, IntKind.signed]; omega
 clear ha hok hb sz D htop
 go_enter Tryz.func40, Tryz.ntmps40
 go_wp2_with fail
 refine (RT.out _).mono ?_
 rintro e w1 ⟨rfl, hb⟩
 have K1 := K0.below hb
 have F := K1.1
 simp only [Facts, CellsAt] at F
 clear RT hb K0
 go_wp2_with fail
 refine (BY.out _).mono ?_
 rintro e w2 ⟨sv, rfl, ho, hb⟩
 have K2 := K1.below hb
 have F2 := K2.1
 simp only [Facts, CellsAt] at F2
 obtain ⟨g, cap, hsv, hc⟩ : ∃ g cap, sv = .slice (some ⟨g, 0, none⟩) 4 cap ∧ Q4 w g b0 b1 b2 b3 w2 := by
  rcases ho.2 with ⟨_, q⟩ | ⟨g, cap, cur, q, q2, q3, _⟩
  ·omega
  ·have ad : ∀ i : Nat, (⟨g, 0, none⟩ : Addr).add i = ⟨g, i, none⟩ := fun i => by
    unfold Addr.add
    split <;> simp_all
   have cc := fun i v hv => ho.cells (g := g) (by rw [q]; rfl) i v hv
   refine ⟨g, cap, q, ⟨?_, ?_, ?_, ?_⟩, K2.bel, (Array.getElem?_eq_some_iff.1 q3).1⟩
   ·have := cc 0 _ rfl; rwa [ad] at this
   ·have := cc 1 _ rfl; rwa [ad] at this
   ·have := cc 2 _ rfl; rwa [ad] at this
   ·have := cc 3 _ rfl; rwa [ad] at this
 subst hsv
 clear BY ho hb K1 F K2
 go_upto_region 5 with fail
 refine wp_region_held_drew (S := (Q4 w g b0 b1 b2 b3)) (by kernel_rfl) ?hS100 (fun hHeld => ?rest100)
 case hS100 => with_reducible exact hc.drew
 refine w8 0 ?_ (ga7 rfl) (by kernel_rfl) (fun _ _ _ h => h) ⟨by rfl, ?y101⟩ hHeld ?_
 case y101 => (intro wq hSw; (try simp only [Two, Q4] at hSw); go_simp; try with_reducible rfl)
 try simp only [Act.put, a7, b7, c7]
 refine w8 1 ?_ (ga7 rfl) (by kernel_rfl) (fun _ _ _ h => h) ⟨by rfl, ?y102⟩ hHeld ?_
 case y102 => (intro wq hSw; (try simp only [Two, Q4] at hSw); go_simp; try with_reducible rfl)
 try simp only [Act.put, a7, b7, c7]
 refine w8 2 ?_ (ga7 rfl) (by kernel_rfl) (fun _ _ _ h => h) ⟨by rfl, ?y103⟩ hHeld ?_
 case y103 => (intro wq hSw; (try simp only [Two, Q4] at hSw); go_simp; try with_reducible rfl)
 try simp only [Act.put, a7, b7, c7]
 refine w8 3 ?_ (ga7 rfl) (by kernel_rfl) (fun _ _ _ h => h) ⟨by rfl, ?y104⟩ hHeld ?_
 case y104 => (intro wq hSw; (try simp only [Two, Q4] at hSw); go_simp; try with_reducible rfl)
 try simp only [Act.put, a7, b7, c7]
 refine w8 6 ?_ (ga7 rfl) (by kernel_rfl) (fun _ _ _ h => h) ⟨by rfl, ?y105⟩ hHeld ?_
 case y105 => (intro wq hSw; (try simp only [Two, Q4] at hSw); go_simp; try with_reducible rfl)
 try simp only [Act.put, a7, b7, c7]
 refine w8 7 ?_ (ga7 rfl) (by kernel_rfl) (fun _ _ _ h => h) ⟨by rfl, ?y106⟩ hHeld ?_
 case y106 => (intro wq hSw; (try simp only [Two, Q4] at hSw); go_simp; try with_reducible rfl)
 try simp only [Act.put, a7, b7, c7]
 refine w8 8 ?_ (ga7 rfl) (by kernel_rfl) (fun _ _ _ h => h) ⟨by rfl, ?y107⟩ hHeld ?_
 case y107 => (intro wq hSw; (try simp only [Two, Q4] at hSw); go_simp; try with_reducible rfl)
 try simp only [Act.put, a7, b7, c7]
 refine w8 9 ?_ (ga7 rfl) (by kernel_rfl) (fun _ _ _ h => h) ⟨by rfl, ?y108⟩ hHeld ?_
 case y108 => (intro wq hSw; (try simp only [Two, Q4] at hSw); go_simp; try with_reducible rfl)
 try simp only [Act.put, a7, b7, c7]
 refine w8 13 ?_ (ga7 rfl) (by kernel_rfl) (fun _ _ _ h => h) ⟨by rfl, ?y109⟩ hHeld ?_
 case y109 => (intro wq hSw; (try simp only [Two, Q4] at hSw); go_simp; try with_reducible rfl)
 try simp only [Act.put, a7, b7, c7]
 refine w8 14 ?_ (ga7 rfl) (by kernel_rfl) (fun _ _ _ h => h) ⟨by rfl, ?y110⟩ hHeld ?_
 case y110 => (intro wq hSw; (try simp only [Two, Q4] at hSw); go_simp; try with_reducible rfl)
 try simp only [Act.put, a7, b7, c7]
 refine w8 15 ?_ (ga7 rfl) (by kernel_rfl) (fun _ _ _ h => h) ⟨by rfl, ?y111⟩ hHeld ?_
 case y111 => (intro wq hSw; (try simp only [Two, Q4] at hSw); go_simp; try with_reducible rfl)
 try simp only [Act.put, a7, b7, c7]
 refine w8 16 ?_ (ga7 rfl) (by kernel_rfl) (fun _ _ _ h => h) ⟨by rfl, ?y112⟩ hHeld ?_
 case y112 => (intro wq hSw; (try simp only [Two, Q4] at hSw); go_simp; try with_reducible rfl)
 try simp only [Act.put, a7, b7, c7]
 refine w8 20 ?_ (ga7 rfl) (by kernel_rfl) (fun _ _ _ h => h) ⟨by rfl, ?y113⟩ hHeld ?_
 case y113 => (intro wq hSw; (try simp only [Two, Q4] at hSw); go_simp; try with_reducible rfl)
 try simp only [Act.put, a7, b7, c7]
 refine w8 21 ?_ (ga7 rfl) (by kernel_rfl) (fun _ _ _ h => h) ⟨by rfl, ?y114⟩ hHeld ?_
 case y114 => (intro wq hSw; (try simp only [Two, Q4] at hSw); go_simp; try with_reducible rfl)
 try simp only [Act.put, a7, b7, c7]
 refine w8 22 ?_ (ga7 rfl) (by kernel_rfl) (fun _ _ _ h => h) ⟨by rfl, ?y115⟩ hHeld ?_
 case y115 => (intro wq hSw; (try simp only [Two, Q4] at hSw); go_simp; try with_reducible rfl)
 try simp only [Act.put, a7, b7, c7]
 refine w8 23 ?_ (ga7 rfl) (by kernel_rfl) (fun _ _ _ h => h) ⟨by rfl, ?y116⟩ hHeld ?_
 case y116 => (intro wq hSw; (try simp only [Two, Q4] at hSw); go_simp; try with_reducible rfl)
 try simp only [Act.put, a7, b7, c7]
 refine wpAnyH_ready (rs := [4]) (by kernel_rfl) (by simp) ?rdy117
 refine AllReadyH.cons (ga7 rfl) (fun K hK => ?stp117) AllReadyH.nil
 go_simp
 go_wp2_with fail
 (refine (D0.out _).mono ?_; rintro e w3 ⟨rfl, hb3⟩)
 go_wp2_with fail
 refine hK.out _ _ ?hSn117 (fun hHeld2 => ?rest117)
 case hSn117 => with_reducible exact hHeld.below hb3
 clear hK K hHeld
 have hHeld := hHeld2
 clear hHeld2
 try simp only [Act.put, a7, b7, c7]
 refine w8 5 ((.string (t0 ++ ⟨#[46]⟩))) (ga7 rfl) (by kernel_rfl) (fun _ _ _ h => h) ⟨by rfl, ?y118⟩ hHeld ?_
 case y118 => (intro wq hSw; (try simp only [Two, Q4] at hSw); go_simp; (all_goals omega))
 try simp only [Act.put, a7, b7, c7]
 refine wpAnyH_ready (rs := [10]) (by kernel_rfl) (by simp) ?rdy119
 refine AllReadyH.cons (ga7 rfl) (fun K hK => ?stp119) AllReadyH.nil
 go_simp
 go_wp2_with fail
 (refine (D1.out _).mono ?_; rintro e w4 ⟨rfl, hb4⟩)
 go_wp2_with fail
 refine hK.out _ _ ?hSn119 (fun hHeld2 => ?rest119)
 case hSn119 => with_reducible exact hHeld.below hb4
 clear hK K hHeld
 have hHeld := hHeld2
 clear hHeld2
 try simp only [Act.put, a7, b7, c7]
 refine w8 11 ((.string (t0 ++ ⟨#[46]⟩ ++ t1))) (ga7 rfl) (by kernel_rfl) (fun _ _ _ h => h) ⟨by rfl, ?y120⟩ hHeld ?_
 case y120 => (intro wq hSw; (try simp only [Two, Q4] at hSw); go_simp; (all_goals omega))
 try simp only [Act.put, a7, b7, c7]
 refine w8 12 ((.string (t0 ++ ⟨#[46]⟩ ++ t1 ++ ⟨#[46]⟩))) (ga7 rfl) (by kernel_rfl) (fun _ _ _ h => h) ⟨by rfl, ?y121⟩ hHeld ?_
 case y121 => (intro wq hSw; (try simp only [Two, Q4] at hSw); go_simp; (all_goals omega))
 try simp only [Act.put, a7, b7, c7]
 refine wpAnyH_ready (rs := [17]) (by kernel_rfl) (by simp) ?rdy122
 refine AllReadyH.cons (ga7 rfl) (fun K hK => ?stp122) AllReadyH.nil
 go_simp
 go_wp2_with fail
 (refine (D2.out _).mono ?_; rintro e w5 ⟨rfl, hb5⟩)
 go_wp2_with fail
 refine hK.out _ _ ?hSn122 (fun hHeld2 => ?rest122)
 case hSn122 => with_reducible exact hHeld.below hb5
 clear hK K hHeld
 have hHeld := hHeld2
 clear hHeld2
 try simp only [Act.put, a7, b7, c7]
 refine w8 18 ((.string (t0 ++ ⟨#[46]⟩ ++ t1 ++ ⟨#[46]⟩ ++ t2))) (ga7 rfl) (by kernel_rfl) (fun _ _ _ h => h) ⟨by rfl, ?y123⟩ hHeld ?_
 case y123 => (intro wq hSw; (try simp only [Two, Q4] at hSw); go_simp; (all_goals omega))
 try simp only [Act.put, a7, b7, c7]
 refine w8 19 ((.string (t0 ++ ⟨#[46]⟩ ++ t1 ++ ⟨#[46]⟩ ++ t2 ++ ⟨#[46]⟩))) (ga7 rfl) (by kernel_rfl) (fun _ _ _ h => h) ⟨by rfl, ?y124⟩ hHeld ?_
 case y124 => (intro wq hSw; (try simp only [Two, Q4] at hSw); go_simp; (all_goals omega))
 try simp only [Act.put, a7, b7, c7]
 refine wpAnyH_ready (rs := [24]) (by kernel_rfl) (by simp) ?rdy125
 refine AllReadyH.cons (ga7 rfl) (fun K hK => ?stp125) AllReadyH.nil
 go_simp
 go_wp2_with fail
 (refine (D3.out _).mono ?_; rintro e w6 ⟨rfl, hb6⟩)
 go_wp2_with fail
 refine hK.out _ _ ?hSn125 (fun hHeld2 => ?rest125)
 case hSn125 => with_reducible exact hHeld.below hb6
 clear hK K hHeld
 have hHeld := hHeld2
 clear hHeld2
 try simp only [Act.put, a7, b7, c7]
 refine w8 25 ((.string (t0 ++ ⟨#[46]⟩ ++ t1 ++ ⟨#[46]⟩ ++ t2 ++ ⟨#[46]⟩ ++ t3))) (ga7 rfl) (by kernel_rfl) (fun _ _ _ h => h) ⟨by rfl, ?y126⟩ hHeld ?_
 case y126 => (intro wq hSw; (try simp only [Two, Q4] at hSw); go_simp; (all_goals omega))
 try simp only [Act.put, a7, b7, c7]
 refine w8 26 ?_ (ga7 rfl) (by kernel_rfl) (fun _ _ _ h => h) ⟨by rfl, ?y127⟩ hHeld ?_
 case y127 => (intro wq hSw; (try simp only [Two, Q4] at hSw); go_simp; try with_reducible rfl)
 try simp only [Act.put, a7, b7, c7]
 refine wpAnyH_done (by kernel_rfl) ?fin100 _
 have B := hHeld.2.1
 clear hHeld hc hb3 hb4 hb5 hb6 D0 D1 D2 D3
 go_wp2
 go_ret
 exact ⟨by rw [PS.out]; rfl, B⟩


set_option maxHeartbeats 800000 in
theorem rprint02_no {v : Bool} {h l : Int} {a : Nat} (ha : IsNum h l a) (hok : okA v a = false) (w : World) :
  Calls Tryz.prog 40 #[av v h l] w fun e w' => e = .returned (.string (prA v a)) ∧ Below w.heap.size w w' := by
 have RT : Hid (∀ w', Calls Tryz.prog 42 #[av v h l] w' fun e w1 => e = .returned (.bool false) ∧ Below w'.heap.size w' w1) := fun w' => hok ▸ rright_c ha w'
 have PA : Hid (prA v a = ⟨#[]⟩) := by show _ = _; unfold prA; rw [if_neg (by rw [hok]; simp)]
 have K0 : Kn w [(w.heap.size, [.bool v, .int .u64 h, .int .u64 l], 26)] (w.alloc (.cells #[.bool v, .int .u64 h, .int .u64 l] 26)) := (Kn.nil w).push rfl
 clear ha hok
 go_enter Tryz.func40, Tryz.ntmps40
 go_wp2_with fail
 refine (RT.out _).mono ?_
 rintro e w1 ⟨rfl, hb⟩
 have B := (K0.below hb).bel
 clear RT hb K0
 go_wp2
 go_ret
 exact ⟨by rw [PA.out]; rfl, B⟩

set_option maxHeartbeats 800000 in
theorem rprint03_no {v : Bool} {h l b : Int} {n : Nat} (hp : IsNum h l n) (hk : okP v n b = false) (w : World) :
  Calls Tryz.prog 9 #[pv v h l b] w fun e w' => e = .returned (.string (prP v n b)) ∧ Below w.heap.size w w' := by
 have RT : Hid (∀ w', Calls Tryz.prog 10 #[pv v h l b] w' fun e w1 => e = .returned (.bool false) ∧ Below w'.heap.size w' w1) := fun w' => hk ▸ rpright_c hp w'
 have PA : Hid (prP v n b = ⟨#[]⟩) := by show _ = _; unfold prP; rw [if_neg (by rw [hk]; simp)]
 have K0 : Kn w [(w.heap.size, [.bool v, .int .u64 h, .int .u64 l, .int .i64 b], 28)] (w.alloc (.cells #[.bool v, .int .u64 h, .int .u64 l, .int .i64 b] 28)) := (Kn.nil w).push rfl
 clear hp hk
 go_enter Tryz.func9, Tryz.ntmps9
 go_wp2_with fail
 refine (RT.out _).mono ?_
 rintro e w1 ⟨rfl, hb⟩
 have B := (K0.below hb).bel
 clear RT hb K0
 go_wp2
 go_ret
 exact ⟨by rw [PA.out]; rfl, B⟩

set_option maxRecDepth 100000 in
set_option maxHeartbeats 1600000 in
theorem rprint03_ok {v : Bool} {h l b : Int} {n : Nat} (hp : IsNum h l n) (hk : okP v n b = true)
  (PR : Hid (∀ w', Calls Tryz.prog 40 #[av v h l] w' fun e w1 => e = .returned (.string (prA v n)) ∧ Below w'.heap.size w' w1)) (w : World) :
  Calls Tryz.prog 9 #[pv v h l b] w fun e w' => e = .returned (.string (prP v n b)) ∧ Below w.heap.size w w' := by
 have RT : Hid (∀ w', Calls Tryz.prog 10 #[pv v h l b] w' fun e w1 => e = .returned (.bool true) ∧ Below w'.heap.size w' w1) := fun w' => hk ▸ rpright_c hp w'
 obtain ⟨_, b0, b1⟩ := fitsB_parts (okP_parts hk).1
 have hw := width_le v
 have DE : Hid (∀ w', Calls Tryz.prog 41 #[.int .i64 b] w' fun e w1 => e = .returned (.string (bitsT b)) ∧ Below w'.heap.size w' w1) := fun w' => by
  have := rdec_c (n := b.toNat) (by omega) w'
  rw [show ((b.toNat : Nat) : Int) = b by omega] at this
  exact this
 have PA : Hid (prP v n b = prA v n ++ ⟨#[47]⟩ ++ bitsT b) := by show _ = _; unfold prP; rw [if_pos hk]
 have s0 := prA_size v n
 have s1 : (bitsT b).size ≤ 20 := by
  have := decDigits_len (n := b.toNat) (by omega)
  show (Lib.decDigits b.toNat).toArray.size ≤ 20
  rw [List.size_toArray]
  exact this
 have K0 : Kn w [(w.heap.size, [.bool v, .int .u64 h, .int .u64 l, .int .i64 b], 28)] (w.alloc (.cells #[.bool v, .int .u64 h, .int .u64 l, .int .i64 b] 28)) := (Kn.nil w).push rfl
 generalize prA v n = t0 at *
 generalize bitsT b = t1 at *
 clear hp hk hw b0 b1
 go_enter Tryz.func9, Tryz.ntmps9
 go_wp2_with fail
 refine (RT.out _).mono ?_
 rintro e w1 ⟨rfl, hb⟩
 have K1 := K0.below hb
 clear RT hb K0
 go_wp2_with fail
 refine wp_region_held_drew (S := (Kn w [(w.heap.size, [.bool v, .int .u64 h, .int .u64 l, .int .i64 b], 28)])) (by kernel_rfl) ?hS100 (fun hHeld => ?rest100)
 case hS100 => with_reducible exact K1.drew
 refine w8 0 ?_ (ga7 rfl) (by kernel_rfl) (fun _ _ _ h => h) ⟨by rfl, ?y101⟩ hHeld ?_
 case y101 => (intro wq hSw; (try simp only [Two, Kn, Facts, CellsAt] at hSw); go_simp; try with_reducible rfl)
 try simp only [Act.put, a7, b7, c7]
 refine w8 1 ?_ (ga7 rfl) (by kernel_rfl) (fun _ _ _ h => h) ⟨by rfl, ?y102⟩ hHeld ?_
 case y102 => (intro wq hSw; (try simp only [Two, Kn, Facts, CellsAt] at hSw); go_simp; try with_reducible rfl)
 try simp only [Act.put, a7, b7, c7]
 refine w8 4 ?_ (ga7 rfl) (by kernel_rfl) (fun _ _ _ h => h) ⟨by rfl, ?y103⟩ hHeld ?_
 case y103 => (intro wq hSw; (try simp only [Two, Kn, Facts, CellsAt] at hSw); go_simp; try with_reducible rfl)
 try simp only [Act.put, a7, b7, c7]
 refine w8 5 ?_ (ga7 rfl) (by kernel_rfl) (fun _ _ _ h => h) ⟨by rfl, ?y104⟩ hHeld ?_
 case y104 => (intro wq hSw; (try simp only [Two, Kn, Facts, CellsAt] at hSw); go_simp; try with_reducible rfl)
 try simp only [Act.put, a7, b7, c7]
 refine wpAnyH_ready (rs := [2]) (by kernel_rfl) (by simp) ?rdy105
 refine AllReadyH.cons (ga7 rfl) (fun K hK => ?stp105) AllReadyH.nil
 go_simp
 go_wp2_with fail
 (refine (PR.out _).mono ?_; rintro e w4 ⟨rfl, hb4⟩)
 go_wp2_with fail
 refine hK.out _ _ ?hSn105 (fun hHeld2 => ?rest105)
 case hSn105 => with_reducible exact hHeld.below hb4
 clear hK K hHeld
 have hHeld := hHeld2
 clear hHeld2
 try simp only [Act.put, a7, b7, c7]
 refine w8 3 ((.string (t0 ++ ⟨#[47]⟩))) (ga7 rfl) (by kernel_rfl) (fun _ _ _ h => h) ⟨by rfl, ?y106⟩ hHeld ?_
 case y106 => (intro wq hSw; (try simp only [Two, Kn, Facts, CellsAt] at hSw); go_simp; (all_goals omega))
 try simp only [Act.put, a7, b7, c7]
 refine wpAnyH_ready (rs := [6]) (by kernel_rfl) (by simp) ?rdy107
 refine AllReadyH.cons (ga7 rfl) (fun K hK => ?stp107) AllReadyH.nil
 go_simp
 go_wp2_with fail
 (refine (DE.out _).mono ?_; rintro e w5 ⟨rfl, hb5⟩)
 go_wp2_with fail
 refine hK.out _ _ ?hSn107 (fun hHeld2 => ?rest107)
 case hSn107 => with_reducible exact hHeld.below hb5
 clear hK K hHeld
 have hHeld := hHeld2
 clear hHeld2
 try simp only [Act.put, a7, b7, c7]
 refine w8 7 ((.string (t0 ++ ⟨#[47]⟩ ++ t1))) (ga7 rfl) (by kernel_rfl) (fun _ _ _ h => h) ⟨by rfl, ?y108⟩ hHeld ?_
 case y108 => (intro wq hSw; (try simp only [Two, Kn, Facts, CellsAt] at hSw); go_simp; (all_goals omega))
 try simp only [Act.put, a7, b7, c7]
 refine w8 8 ?_ (ga7 rfl) (by kernel_rfl) (fun _ _ _ h => h) ⟨by rfl, ?y109⟩ hHeld ?_
 case y109 => (intro wq hSw; (try simp only [Two, Kn, Facts, CellsAt] at hSw); go_simp; try with_reducible rfl)
 try simp only [Act.put, a7, b7, c7]
 refine wpAnyH_done (by kernel_rfl) ?fin100 _
 have B := hHeld.bel
 clear hHeld K1 hb4 hb5 PR DE
 go_wp2
 go_ret
 exact ⟨by rw [PA.out]; rfl, B⟩
end Go.Proofs.YtgbpnekinbdadaaGreatDoor
