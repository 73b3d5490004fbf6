/-
  Texts PoR4, PoR5, PoR6 of the proof.
-/
import Derived.Test.YtgbpnekinbdadaaGreatDoorPQ38
import Derived.Test.YtgbpnekinbdadaaGreatDoorPQ35
import Derived.Test.YtgbpnekinbdadaaGreatDoorPQ0

namespace Go.Proofs.YtgbpnekinbdadaaGreatDoor
open Go.ChangeShapes Go.WideShapes Go.ChangeAt Go.RowKit
set_option linter.unusedVariables false
set_option linter.unusedSimpArgs false

set_option maxRecDepth 100000 in
set_option maxHeartbeats 1600000 in
theorem rleft06_c {v : Bool} {h l b : Int} {base r n N : Nat} {us : List Nat} (hN : 0 < N) (hN6 : N ≤ 65536) (hp : IsNum h l n) (ok : okP v n b = true) (hl6 : us.length ≤ 65536) {t : Bool} (ht : kpF (lkP v b) N (N - 1) = t) {C : Int} (hC : (N : Int) - 1 - (us.length : Int) - (if t then 1 else 0) = C) (w : World) (P : RpAt w base v h l b r N us) :
  Calls Tryz.prog 17 #[.pointer (some ⟨r, 0, none⟩)] w fun e w' => e = .returned (.int .i64 C) ∧ Below w.heap.size w w' := by
 have KP : Hid (∀ k, Calls Tryz.prog 51 #[.pointer (some ⟨r, 0, none⟩), .int .i64 ((N : Int) - 1)] (w.drewN k) fun e w1 => e = .returned (.bool t) ∧ Below (w.drewN k).heap.size (w.drewN k) w1) :=
  fun k => rkept06_c (i := N - 1) (by omega) (by omega) hN hN6 hp ok ht (w.drewN k) (P.below (below_drewN (Below.refl _ _) k))
 obtain ⟨sv, hb, ho⟩ := P.is
 obtain ⟨r0, r1, r2, r3, r4, r5, rl⟩ := hb.six
 obtain ⟨L, hL⟩ : ∃ L, us.length = L := ⟨_, rfl⟩
 rw [hL] at ho hl6 hC
 obtain ⟨q, cap, hs⟩ : ∃ (q : Option Addr) (cap : Nat), sv = .slice q L cap := by
  rcases ho.2 with ⟨h1, h0⟩ | ⟨g, cap, cur, h1, _⟩
  ·exact ⟨none, 0, by rw [h1, h0]⟩
  ·exact ⟨_, cap, h1⟩
 subst hs
 have w1 : IntKind.i64.wrap ((N : Int) - 1) = (N : Int) - 1 := by simp [IntKind.wrap, IntKind.bits, IntKind.signed]; omega
 have w2 : IntKind.i64.wrap ((N : Int) - 1 - (L : Int)) = (N : Int) - 1 - (L : Int) := by simp [IntKind.wrap, IntKind.bits, IntKind.signed]; omega
 have w3 : IntKind.i64.wrap ((N : Int) - 1 - (L : Int) - 1) = (N : Int) - 1 - (L : Int) - 1 := by simp [IntKind.wrap, IntKind.bits, IntKind.signed]; omega
 have HC := hide hC
 clear P ho hL hC ht hp ok hb
 go_enter Tryz.func17, Tryz.ntmps17
 go_upto_region 1 with fail
 go_quiet (fail)
 go_wp2_with fail
 refine (KP.out _).mono ?_
 rintro e w5 ⟨rfl, hb5⟩
 have B : Below w.heap.size w w5 := (below_drewN (Below.refl w.heap.size w) _).trans hb5
 clear KP hb5 r0 r1 r2 r3 r4 r5
 cases t
 ·have e : C = (N : Int) - 1 - (L : Int) := by rw [← HC.out]; simp
  subst e
  go_wp2
  go_ret
  exact ⟨rfl, B⟩
 ·have e : C = (N : Int) - 1 - (L : Int) - 1 := by rw [← HC.out]; simp
  subst e
  go_wp2
  go_ret
  exact ⟨rfl, B⟩

/-- What the reference's Number answers. -/
def nmR : Option Nat → Int
 | some i => i
 | none => -1

set_option maxRecDepth 100000 in
set_option maxHeartbeats 3200000 in
theorem rnum_any {v s : Bool} {h l b ah al kh kl ec : Int} {base r N : Nat} {us : List Nat} {o : Option Nat} (hN6 : N ≤ 65536) (w : World) (P0 : RpAt w base v h l b r N us)
  (NM : Hid (∀ w', Calls Tryz.prog 59 #[pv v h l b, av s ah al] w' fun e w1 => e = .returned (.tuple #[nv kh kl, .int .i64 ec]) ∧ Below w'.heap.size w' w1))
  (CS : Hid ((ec = 12 ∧ o = none) ∨ (ec = 0 ∧ 0 < kh ∧ o = none) ∨ (ec = 0 ∧ kh = 0 ∧ (N : Int) ≤ kl ∧ o = none) ∨ (ec = 0 ∧ kh = 0 ∧ ∃ i : Nat, i < N ∧ kl = (i : Int) ∧ ∃ t : Bool, (∀ w', RpAt w' base v h l b r N us → Calls Tryz.prog 51 #[.pointer (some ⟨r, 0, none⟩), .int .i64 (i : Int)] w' fun e w1 => e = .returned (.bool t) ∧ Below w'.heap.size w' w1) ∧ o = if t then none else some i))) :
  Calls Tryz.prog 21 #[.pointer (some ⟨r, 0, none⟩), av s ah al] w fun e w' => e = .returned (.int .i64 (nmR o)) ∧ Below w.heap.size w w' := by
 have P := hide P0
 obtain ⟨sv, hd, _⟩ := P0.is
 have R0 : Kn w [(w.heap.size, [.bool s, .int .u64 ah, .int .u64 al], 26), (r, [.bool v, .int .u64 h, .int .u64 l, .int .i64 b, .int .i64 N, sv], 59)] (w.alloc (.cells #[.bool s, .int .u64 ah, .int .u64 al] 26)) := ((Kn.nil w).cons hd).push rfl
 have hxl := hd.lt
 have hwN : IntKind.u64.wrap (N : Int) = N := by simp [IntKind.wrap, IntKind.bits, IntKind.signed]; omega
 obtain ⟨w0, hw0⟩ : ∃ w0, w0 = w.alloc (.cells #[.bool s, .int .u64 ah, .int .u64 al] 26) := ⟨_, rfl⟩
 rw [← hw0] at R0
 have LT := R0.lts
 simp only [Lts] at LT
 have hs0 := R0.bel.size
 clear P0 hd
 go_enter Tryz.func21, Tryz.ntmps21
 go_upto_region 1 with fail
 rw [← hw0]
 clear hw0
 go_cut [5, 6] (fun p t wc => ∃ X : Nat, p = .pointer (some ⟨X, 0, none⟩) ∧ t = .int .i64 ec ∧ w.heap.size < X ∧ Blk wc X #[.int .u64 kh, .int .u64 kl] 24 ∧ Kn w [(w.heap.size, [.bool s, .int .u64 ah, .int .u64 al], 26), (r, [.bool v, .int .u64 h, .int .u64 l, .int .i64 b, .int .i64 N, sv], 59)] wc)
 case first =>
  refine wp_region_held_drew (S := (Kn w [(w.heap.size, [.bool s, .int .u64 ah, .int .u64 al], 26), (r, [.bool v, .int .u64 h, .int .u64 l, .int .i64 b, .int .i64 N, sv], 59)])) (by kernel_rfl) ?hS5001 (fun hHeld => ?rest5001)
  case hS5001 => (first | with_reducible exact R0.drew | with_reducible exact (R0.alloc _).drew | with_reducible exact hHeld.below hb5 | with_reducible exact hHeld.alloc _ | with_reducible exact K5.alloc _ | with_reducible exact hHeld.far2 (by simp only [Off]; repeat' (first | exact trivial | refine And.intro ?_ ?_ | omega)) (by omega) _ _ | with_reducible exact K5.far2 (by simp only [Off]; repeat' (first | exact trivial | refine And.intro ?_ ?_ | omega)) (by omega) _ _ | with_reducible exact (K5.alloc _).far2 (by simp only [Off]; repeat' (first | exact trivial | refine And.intro ?_ ?_ | omega)) (by omega) _ _)
  refine w8 0 ?_ (ga7 rfl) (by kernel_rfl) (fun _ _ _ h => h) ⟨by rfl, ?y5002⟩ hHeld ?_
  case y5002 => (intro wq hSw; (try simp only [Two, Kn, Facts, CellsAt] at hSw); go_simp; try with_reducible rfl)
  try simp only [Act.put, a7, b7, c7]
  refine w8 1 ?_ (ga7 rfl) (by kernel_rfl) (fun _ _ _ h => h) ⟨by rfl, ?y5003⟩ hHeld ?_
  case y5003 => (intro wq hSw; (try simp only [Two, Kn, Facts, CellsAt] at hSw); go_simp; try with_reducible rfl)
  try simp only [Act.put, a7, b7, c7]
  refine w8 2 ?_ (ga7 rfl) (by kernel_rfl) (fun _ _ _ h => h) ⟨by rfl, ?y5004⟩ hHeld ?_
  case y5004 => (intro wq hSw; (try simp only [Two, Kn, Facts, CellsAt] at hSw); go_simp; try with_reducible rfl)
  try simp only [Act.put, a7, b7, c7]
  refine w8 3 ?_ (ga7 rfl) (by kernel_rfl) (fun _ _ _ h => h) ⟨by rfl, ?y5005⟩ hHeld ?_
  case y5005 => (intro wq hSw; (try simp only [Two, Kn, Facts, CellsAt] at hSw); go_simp; try with_reducible rfl)
  try simp only [Act.put, a7, b7, c7]
  refine w8 4 ?_ (ga7 rfl) (by kernel_rfl) (fun _ _ _ h => h) ⟨by rfl, ?y5006⟩ hHeld ?_
  case y5006 => (intro wq hSw; (try simp only [Two, Kn, Facts, CellsAt] at hSw); go_simp; try with_reducible rfl)
  try simp only [Act.put, a7, b7, c7]
  refine wpAnyH_ready (rs := [5, 9]) (by kernel_rfl) (by simp) ?rdy5007
  refine (AllReadyH.cons (ga7 rfl) (fun K hK => ?stp5007_5) (AllReadyH.cons (ga7 rfl) (fun K hK => ?stp5007_9) AllReadyH.nil))
  case stp5007_5 =>
   go_simp
   go_wp2_with fail
   (refine (NM.out _).mono ?_; rintro e w5 ⟨rfl, hb5⟩; have K5 := hHeld.below hb5; have s5 : w0.heap.size ≤ w5.heap.size := (by have := hb5.size; first | exact this | (simp at this; omega)); first | (have U5 : Blk w5 w0.heap.size #[.int .u64 0, .int .u64 0] 24 := Blk.via hb5 (Blk.new w0 #[.int .u64 0, .int .u64 0] 24) rfl; obtain ⟨u0, u1, u2, u3, u4⟩ := U5.two) | skip)
   go_wp2_with fail
   refine hK.out _ _ ?hSn5008 (fun hHeld2 => ?rest5008)
   case hSn5008 => (first | with_reducible exact R0.drew | with_reducible exact (R0.alloc _).drew | with_reducible exact hHeld.below hb5 | with_reducible exact hHeld.alloc _ | with_reducible exact K5.alloc _ | with_reducible exact hHeld.far2 (by simp only [Off]; repeat' (first | exact trivial | refine And.intro ?_ ?_ | omega)) (by omega) _ _ | with_reducible exact K5.far2 (by simp only [Off]; repeat' (first | exact trivial | refine And.intro ?_ ?_ | omega)) (by omega) _ _ | with_reducible exact (K5.alloc _).far2 (by simp only [Off]; repeat' (first | exact trivial | refine And.intro ?_ ?_ | omega)) (by omega) _ _)
   clear hK K hHeld
   have hHeld := hHeld2
   clear hHeld2
   try simp only [Act.put, a7, b7, c7]
   refine w8 6 ?_ (ga7 rfl) (by kernel_rfl) (fun _ _ _ h => h) ⟨by rfl, ?y5009⟩ hHeld ?_
   case y5009 => (intro wq hSw; (try simp only [Two, Kn, Facts, CellsAt] at hSw); go_simp; try with_reducible rfl)
   try simp only [Act.put, a7, b7, c7]
   refine w8 7 ?_ (ga7 rfl) (by kernel_rfl) (fun _ _ _ h => h) ⟨by rfl, ?y5010⟩ hHeld ?_
   case y5010 => (intro wq hSw; (try simp only [Two, Kn, Facts, CellsAt] at hSw); go_simp; try with_reducible rfl)
   try simp only [Act.put, a7, b7, c7]
   refine w8 8 ?_ (ga7 rfl) (by kernel_rfl) (fun _ _ _ h => h) ⟨by rfl, ?y5011⟩ hHeld ?_
   case y5011 => (intro wq hSw; (try simp only [Two, Kn, Facts, CellsAt] at hSw); go_simp; try with_reducible rfl)
   try simp only [Act.put, a7, b7, c7]
   refine wpAnyH_ready (rs := [9]) (by kernel_rfl) (by simp) ?rdy5012
   refine (AllReadyH.cons (ga7 rfl) (fun K hK => ?stp5012_9) AllReadyH.nil)
   case stp5012_9 =>
    go_simp
    go_wp2_with fail
    refine hK.out _ _ ?hSn5013 (fun hHeld2 => ?rest5013)
    case hSn5013 => (first | with_reducible exact R0.drew | with_reducible exact (R0.alloc _).drew | with_reducible exact hHeld.below hb5 | with_reducible exact hHeld.alloc _ | with_reducible exact K5.alloc _ | with_reducible exact hHeld.far2 (by simp only [Off]; repeat' (first | exact trivial | refine And.intro ?_ ?_ | omega)) (by omega) _ _ | with_reducible exact K5.far2 (by simp only [Off]; repeat' (first | exact trivial | refine And.intro ?_ ?_ | omega)) (by omega) _ _ | with_reducible exact (K5.alloc _).far2 (by simp only [Off]; repeat' (first | exact trivial | refine And.intro ?_ ?_ | omega)) (by omega) _ _)
    clear hK K hHeld
    have hHeld := hHeld2
    clear hHeld2
    try simp only [Act.put, a7, b7, c7]
    refine wpAnyH_ready (rs := [10]) (by kernel_rfl) (by simp) ?rdy5014
    refine (AllReadyH.cons (ga7 rfl) (fun K hK => ?stp5014_10) AllReadyH.nil)
    case stp5014_10 =>
     go_simp
     go_wp2_with fail
     refine hK.out _ _ ?hSn5015 (fun hHeld2 => ?rest5015)
     case hSn5015 => (first | with_reducible exact R0.drew | with_reducible exact (R0.alloc _).drew | with_reducible exact hHeld.below hb5 | with_reducible exact hHeld.alloc _ | with_reducible exact K5.alloc _ | with_reducible exact hHeld.far2 (by simp only [Off]; repeat' (first | exact trivial | refine And.intro ?_ ?_ | omega)) (by omega) _ _ | with_reducible exact K5.far2 (by simp only [Off]; repeat' (first | exact trivial | refine And.intro ?_ ?_ | omega)) (by omega) _ _ | with_reducible exact (K5.alloc _).far2 (by simp only [Off]; repeat' (first | exact trivial | refine And.intro ?_ ?_ | omega)) (by omega) _ _)
     clear hK K hHeld
     have hHeld := hHeld2
     clear hHeld2
     try simp only [Act.put, a7, b7, c7]
     refine w8 11 ?_ (ga7 rfl) (by kernel_rfl) (fun _ _ _ h => h) ⟨by rfl, ?y5016⟩ hHeld ?_
     case y5016 => (intro wq hSw; (try simp only [Two, Kn, Facts, CellsAt] at hSw); go_simp; try with_reducible rfl)
     try simp only [Act.put, a7, b7, c7]
     refine wpAnyH_done (by kernel_rfl) ?_ _
     go_wp2_with fail
     go_meet
     case rel => exact ⟨_, rfl, rfl, (by omega), (by repeat (first | with_reducible exact Blk.new _ _ _ | with_reducible exact U5 | with_reducible refine Blk.put2 (x := .int .u64 0) (y := .int .u64 0) ?_ _ _)), hHeld⟩
  case stp5007_9 =>
   go_simp
   go_wp2_with fail
   refine hK.out _ _ ?hSn5017 (fun hHeld2 => ?rest5017)
   case hSn5017 => (first | with_reducible exact R0.drew | with_reducible exact (R0.alloc _).drew | with_reducible exact hHeld.below hb5 | with_reducible exact hHeld.alloc _ | with_reducible exact K5.alloc _ | with_reducible exact hHeld.far2 (by simp only [Off]; repeat' (first | exact trivial | refine And.intro ?_ ?_ | omega)) (by omega) _ _ | with_reducible exact K5.far2 (by simp only [Off]; repeat' (first | exact trivial | refine And.intro ?_ ?_ | omega)) (by omega) _ _ | with_reducible exact (K5.alloc _).far2 (by simp only [Off]; repeat' (first | exact trivial | refine And.intro ?_ ?_ | omega)) (by omega) _ _)
   clear hK K hHeld
   have hHeld := hHeld2
   clear hHeld2
   try simp only [Act.put, a7, b7, c7]
   refine wpAnyH_ready (rs := [5]) (by kernel_rfl) (by simp) ?rdy5018
   refine (AllReadyH.cons (ga7 rfl) (fun K hK => ?stp5018_5) AllReadyH.nil)
   case stp5018_5 =>
    go_simp
    go_wp2_with fail
    (refine (NM.out _).mono ?_; rintro e w5 ⟨rfl, hb5⟩; have K5 := hHeld.below hb5; have s5 : w0.heap.size ≤ w5.heap.size := (by have := hb5.size; first | exact this | (simp at this; omega)); first | (have U5 : Blk w5 w0.heap.size #[.int .u64 0, .int .u64 0] 24 := Blk.via hb5 (Blk.new w0 #[.int .u64 0, .int .u64 0] 24) rfl; obtain ⟨u0, u1, u2, u3, u4⟩ := U5.two) | skip)
    go_wp2_with fail
    refine hK.out _ _ ?hSn5019 (fun hHeld2 => ?rest5019)
    case hSn5019 => (first | with_reducible exact R0.drew | with_reducible exact (R0.alloc _).drew | with_reducible exact hHeld.below hb5 | with_reducible exact hHeld.alloc _ | with_reducible exact K5.alloc _ | with_reducible exact hHeld.far2 (by simp only [Off]; repeat' (first | exact trivial | refine And.intro ?_ ?_ | omega)) (by omega) _ _ | with_reducible exact K5.far2 (by simp only [Off]; repeat' (first | exact trivial | refine And.intro ?_ ?_ | omega)) (by omega) _ _ | with_reducible exact (K5.alloc _).far2 (by simp only [Off]; repeat' (first | exact trivial | refine And.intro ?_ ?_ | omega)) (by omega) _ _)
    clear hK K hHeld
    have hHeld := hHeld2
    clear hHeld2
    try simp only [Act.put, a7, b7, c7]
    refine w8 6 ?_ (ga7 rfl) (by kernel_rfl) (fun _ _ _ h => h) ⟨by rfl, ?y5020⟩ hHeld ?_
    case y5020 => (intro wq hSw; (try simp only [Two, Kn, Facts, CellsAt] at hSw); go_simp; try with_reducible rfl)
    try simp only [Act.put, a7, b7, c7]
    refine w8 7 ?_ (ga7 rfl) (by kernel_rfl) (fun _ _ _ h => h) ⟨by rfl, ?y5021⟩ hHeld ?_
    case y5021 => (intro wq hSw; (try simp only [Two, Kn, Facts, CellsAt] at hSw); go_simp; try with_reducible rfl)
    try simp only [Act.put, a7, b7, c7]
    refine w8 8 ?_ (ga7 rfl) (by kernel_rfl) (fun _ _ _ h => h) ⟨by rfl, ?y5022⟩ hHeld ?_
    case y5022 => (intro wq hSw; (try simp only [Two, Kn, Facts, CellsAt] at hSw); go_simp; try with_reducible rfl)
    try simp only [Act.put, a7, b7, c7]
    refine wpAnyH_ready (rs := [10]) (by kernel_rfl) (by simp) ?rdy5023
    refine (AllReadyH.cons (ga7 rfl) (fun K hK => ?stp5023_10) AllReadyH.nil)
    case stp5023_10 =>
     go_simp
     go_wp2_with fail
     refine hK.out _ _ ?hSn5024 (fun hHeld2 => ?rest5024)
     case hSn5024 => (first | with_reducible exact R0.drew | with_reducible exact (R0.alloc _).drew | with_reducible exact hHeld.below hb5 | with_reducible exact hHeld.alloc _ | with_reducible exact K5.alloc _ | with_reducible exact hHeld.far2 (by simp only [Off]; repeat' (first | exact trivial | refine And.intro ?_ ?_ | omega)) (by omega) _ _ | with_reducible exact K5.far2 (by simp only [Off]; repeat' (first | exact trivial | refine And.intro ?_ ?_ | omega)) (by omega) _ _ | with_reducible exact (K5.alloc _).far2 (by simp only [Off]; repeat' (first | exact trivial | refine And.intro ?_ ?_ | omega)) (by omega) _ _)
     clear hK K hHeld
     have hHeld := hHeld2
     clear hHeld2
     try simp only [Act.put, a7, b7, c7]
     refine w8 11 ?_ (ga7 rfl) (by kernel_rfl) (fun _ _ _ h => h) ⟨by rfl, ?y5025⟩ hHeld ?_
     case y5025 => (intro wq hSw; (try simp only [Two, Kn, Facts, CellsAt] at hSw); go_simp; try with_reducible rfl)
     try simp only [Act.put, a7, b7, c7]
     refine wpAnyH_done (by kernel_rfl) ?_ _
     go_wp2_with fail
     go_meet
     case rel => exact ⟨_, rfl, rfl, (by omega), (by repeat (first | with_reducible exact Blk.new _ _ _ | with_reducible exact U5 | with_reducible refine Blk.put2 (x := .int .u64 0) (y := .int .u64 0) ?_ _ _)), hHeld⟩
 case rest =>
  obtain ⟨X, rfl, rfl, hX, N1, R⟩ := hcut
  have K1 := R.cons N1
  clear R0 LT hs0 NM N1 R
  rcases CS.out with ⟨rfl, rfl⟩ | ⟨rfl, ck, rfl⟩ | ⟨rfl, rfl, ck, rfl⟩ | ⟨rfl, rfl, i, hi, rfl, t, KE0, ho⟩
  ·clear CS
   go_upto_region 2 with fail
   refine wp_region_held_drew (S := (Kn w ((X, [.int .u64 kh, .int .u64 kl], 24) :: [(w.heap.size, [.bool s, .int .u64 ah, .int .u64 al], 26), (r, [.bool v, .int .u64 h, .int .u64 l, .int .i64 b, .int .i64 N, sv], 59)]))) (by kernel_rfl) ?hS100 (fun hHeld => ?rest100)
   case hS100 => (first | with_reducible exact K1.drew)
   refine w8 0 ?_ (ga7 rfl) (by kernel_rfl) (fun _ _ _ h => h) ⟨by rfl, ?y101⟩ hHeld ?_
   case y101 => (intro wq hSw; (try simp only [Two, Kn, Facts, CellsAt] at hSw); go_simp; try with_reducible rfl)
   try simp only [Act.put, a7, b7, c7]
   refine w8 1 ?_ (ga7 rfl) (by kernel_rfl) (fun _ _ _ h => h) ⟨by rfl, ?y102⟩ hHeld ?_
   case y102 => (intro wq hSw; (try simp only [Two, Kn, Facts, CellsAt] at hSw); go_simp; try with_reducible rfl)
   try simp only [Act.put, a7, b7, c7]
   refine w8 2 ?_ (ga7 rfl) (by kernel_rfl) (fun _ _ _ h => h) ⟨by rfl, ?y103⟩ hHeld ?_
   case y103 => (intro wq hSw; (try simp only [Two, Kn, Facts, CellsAt] at hSw); go_simp; try with_reducible rfl)
   try simp only [Act.put, a7, b7, c7]
   refine wpAnyH_take (i := 3) (oi := _) (v := undef) (ga7 rfl) (by kernel_rfl) (by kernel_rfl) (by kernel_rfl) (fun _ _ _ h => h) (Or.inr ⟨by rfl, rfl⟩) (by assumption) ?rest104
   try simp only [Act.put, a7, b7, c7]
   refine wpAnyH_take (i := 4) (oi := _) (v := undef) (ga7 rfl) (by kernel_rfl) (by kernel_rfl) (by kernel_rfl) (fun _ _ _ h => h) (Or.inr ⟨by rfl, rfl⟩) (by assumption) ?rest105
   try simp only [Act.put, a7, b7, c7]
   refine wpAnyH_take (i := 5) (oi := _) (v := undef) (ga7 rfl) (by kernel_rfl) (by kernel_rfl) (by kernel_rfl) (fun _ _ _ h => h) (Or.inr ⟨by rfl, rfl⟩) (by assumption) ?rest106
   try simp only [Act.put, a7, b7, c7]
   refine w8 6 ?_ (ga7 rfl) (by kernel_rfl) (fun _ _ _ h => h) ⟨by rfl, ?y107⟩ hHeld ?_
   case y107 => (intro wq hSw; (try simp only [Two, Kn, Facts, CellsAt] at hSw); go_simp; try with_reducible rfl)
   try simp only [Act.put, a7, b7, c7]
   refine w8 7 ?_ (ga7 rfl) (by kernel_rfl) (fun _ _ _ h => h) ⟨by rfl, ?y108⟩ hHeld ?_
   case y108 => (intro wq hSw; (try simp only [Two, Kn, Facts, CellsAt] at hSw); go_simp; try with_reducible rfl)
   try simp only [Act.put, a7, b7, c7]
   refine wpAnyH_take (i := 8) (oi := _) (v := undef) (ga7 rfl) (by kernel_rfl) (by kernel_rfl) (by kernel_rfl) (fun _ _ _ h => h) (Or.inr ⟨by rfl, rfl⟩) (by assumption) ?rest109
   try simp only [Act.put, a7, b7, c7]
   refine wpAnyH_take (i := 9) (oi := _) (v := undef) (ga7 rfl) (by kernel_rfl) (by kernel_rfl) (by kernel_rfl) (fun _ _ _ h => h) (Or.inr ⟨by rfl, rfl⟩) (by assumption) ?rest110
   try simp only [Act.put, a7, b7, c7]
   refine wpAnyH_take (i := 10) (oi := _) (v := undef) (ga7 rfl) (by kernel_rfl) (by kernel_rfl) (by kernel_rfl) (fun _ _ _ h => h) (Or.inr ⟨by rfl, rfl⟩) (by assumption) ?rest111
   try simp only [Act.put, a7, b7, c7]
   refine wpAnyH_take (i := 11) (oi := _) (v := undef) (ga7 rfl) (by kernel_rfl) (by kernel_rfl) (by kernel_rfl) (fun _ _ _ h => h) (Or.inr ⟨by rfl, rfl⟩) (by assumption) ?rest112
   try simp only [Act.put, a7, b7, c7]
   refine wpAnyH_take (i := 12) (oi := _) (v := undef) (ga7 rfl) (by kernel_rfl) (by kernel_rfl) (by kernel_rfl) (fun _ _ _ h => h) (Or.inr ⟨by rfl, rfl⟩) (by assumption) ?rest113
   try simp only [Act.put, a7, b7, c7]
   refine wpAnyH_take (i := 13) (oi := _) (v := undef) (ga7 rfl) (by kernel_rfl) (by kernel_rfl) (by kernel_rfl) (fun _ _ _ h => h) (Or.inr ⟨by rfl, rfl⟩) (by assumption) ?rest114
   try simp only [Act.put, a7, b7, c7]
   refine wpAnyH_take (i := 14) (oi := _) (v := undef) (ga7 rfl) (by kernel_rfl) (by kernel_rfl) (by kernel_rfl) (fun _ _ _ h => h) (Or.inr ⟨by rfl, rfl⟩) (by assumption) ?rest115
   try simp only [Act.put, a7, b7, c7]
   refine wpAnyH_take (i := 15) (oi := _) (v := undef) (ga7 rfl) (by kernel_rfl) (by kernel_rfl) (by kernel_rfl) (fun _ _ _ h => h) (Or.inr ⟨by rfl, rfl⟩) (by assumption) ?rest116
   try simp only [Act.put, a7, b7, c7]
   refine w8 16 ?_ (ga7 rfl) (by kernel_rfl) (fun _ _ _ h => h) ⟨by rfl, ?y117⟩ hHeld ?_
   case y117 => (intro wq hSw; (try simp only [Two, Kn, Facts, CellsAt] at hSw); go_simp; try with_reducible rfl)
   try simp only [Act.put, a7, b7, c7]
   refine w8 17 ?_ (ga7 rfl) (by kernel_rfl) (fun _ _ _ h => h) ⟨by rfl, ?y118⟩ hHeld ?_
   case y118 => (intro wq hSw; (try simp only [Two, Kn, Facts, CellsAt] at hSw); go_simp; try with_reducible rfl)
   try simp only [Act.put, a7, b7, c7]
   refine wpAnyH_take (i := 18) (oi := _) (v := undef) (ga7 rfl) (by kernel_rfl) (by kernel_rfl) (by kernel_rfl) (fun _ _ _ h => h) (Or.inr ⟨by rfl, rfl⟩) (by assumption) ?rest119
   try simp only [Act.put, a7, b7, c7]
   refine wpAnyH_take (i := 19) (oi := _) (v := undef) (ga7 rfl) (by kernel_rfl) (by kernel_rfl) (by kernel_rfl) (fun _ _ _ h => h) (Or.inr ⟨by rfl, rfl⟩) (by assumption) ?rest120
   try simp only [Act.put, a7, b7, c7]
   refine wpAnyH_take (i := 20) (oi := _) (v := undef) (ga7 rfl) (by kernel_rfl) (by kernel_rfl) (by kernel_rfl) (fun _ _ _ h => h) (Or.inr ⟨by rfl, rfl⟩) (by assumption) ?rest121
   try simp only [Act.put, a7, b7, c7]
   refine wpAnyH_take (i := 21) (oi := _) (v := undef) (ga7 rfl) (by kernel_rfl) (by kernel_rfl) (by kernel_rfl) (fun _ _ _ h => h) (Or.inr ⟨by rfl, rfl⟩) (by assumption) ?rest122
   try simp only [Act.put, a7, b7, c7]
   refine wpAnyH_take (i := 22) (oi := _) (v := undef) (ga7 rfl) (by kernel_rfl) (by kernel_rfl) (by kernel_rfl) (fun _ _ _ h => h) (Or.inr ⟨by rfl, rfl⟩) (by assumption) ?rest123
   try simp only [Act.put, a7, b7, c7]
   refine w8 23 ?_ (ga7 rfl) (by kernel_rfl) (fun _ _ _ h => h) ⟨by rfl, ?y124⟩ hHeld ?_
   case y124 => (intro wq hSw; (try simp only [Two, Kn, Facts, CellsAt] at hSw); go_simp; try with_reducible rfl)
   try simp only [Act.put, a7, b7, c7]
   refine wpAnyH_done (by kernel_rfl) ?fin100 _
   have B := K1.bel
   clear hHeld K1
   go_wp2
   go_ret
   exact ⟨rfl, by repeat (first | with_reducible exact Below.refl _ _ | with_reducible refine Below.drew ?_ | with_reducible refine Below.alloc ?_ (by first | omega | (simp <;> omega)) _ | with_reducible refine Below.setCell ?_ (by first | omega | (simp <;> omega)) _ | with_reducible refine Below.trans ?_ (Below.mono B (by first | omega | (simp <;> omega))))⟩
  ·clear CS
   go_upto_region 2 with fail
   refine wp_region_held_drew (S := (Kn w ((X, [.int .u64 kh, .int .u64 kl], 24) :: [(w.heap.size, [.bool s, .int .u64 ah, .int .u64 al], 26), (r, [.bool v, .int .u64 h, .int .u64 l, .int .i64 b, .int .i64 N, sv], 59)]))) (by kernel_rfl) ?hS200 (fun hHeld => ?rest200)
   case hS200 => (first | with_reducible exact K1.drew)
   refine w8 0 ?_ (ga7 rfl) (by kernel_rfl) (fun _ _ _ h => h) ⟨by rfl, ?y201⟩ hHeld ?_
   case y201 => (intro wq hSw; (try simp only [Two, Kn, Facts, CellsAt] at hSw); go_simp; try with_reducible rfl)
   try simp only [Act.put, a7, b7, c7]
   refine w8 1 ?_ (ga7 rfl) (by kernel_rfl) (fun _ _ _ h => h) ⟨by rfl, ?y202⟩ hHeld ?_
   case y202 => (intro wq hSw; (try simp only [Two, Kn, Facts, CellsAt] at hSw); go_simp; try with_reducible rfl)
   try simp only [Act.put, a7, b7, c7]
   refine w8 2 ?_ (ga7 rfl) (by kernel_rfl) (fun _ _ _ h => h) ⟨by rfl, ?y203⟩ hHeld ?_
   case y203 => (intro wq hSw; (try simp only [Two, Kn, Facts, CellsAt] at hSw); go_simp; try with_reducible rfl)
   try simp only [Act.put, a7, b7, c7]
   refine w8 3 ?_ (ga7 rfl) (by kernel_rfl) (fun _ _ _ h => h) ⟨by rfl, ?y204⟩ hHeld ?_
   case y204 => (intro wq hSw; (try simp only [Two, Kn, Facts, CellsAt] at hSw); go_simp; try with_reducible rfl)
   try simp only [Act.put, a7, b7, c7]
   refine w8 4 ?_ (ga7 rfl) (by kernel_rfl) (fun _ _ _ h => h) ⟨by rfl, ?y205⟩ hHeld ?_
   case y205 => (intro wq hSw; (try simp only [Two, Kn, Facts, CellsAt] at hSw); go_simp; try with_reducible rfl)
   try simp only [Act.put, a7, b7, c7]
   refine w8 5 ((.bool true)) (ga7 rfl) (by kernel_rfl) (fun _ _ _ h => h) ⟨by rfl, ?y206⟩ hHeld ?_
   case y206 => (intro wq hSw; (try simp only [Two, Kn, Facts, CellsAt] at hSw); go_simp; (all_goals (first | omega | (simp; omega))))
   try simp only [Act.put, a7, b7, c7]
   refine w8 6 ?_ (ga7 rfl) (by kernel_rfl) (fun _ _ _ h => h) ⟨by rfl, ?y207⟩ hHeld ?_
   case y207 => (intro wq hSw; (try simp only [Two, Kn, Facts, CellsAt] at hSw); go_simp; try with_reducible rfl)
   try simp only [Act.put, a7, b7, c7]
   refine w8 7 ?_ (ga7 rfl) (by kernel_rfl) (fun _ _ _ h => h) ⟨by rfl, ?y208⟩ hHeld ?_
   case y208 => (intro wq hSw; (try simp only [Two, Kn, Facts, CellsAt] at hSw); go_simp; try with_reducible rfl)
   try simp only [Act.put, a7, b7, c7]
   refine wpAnyH_take (i := 8) (oi := _) (v := undef) (ga7 rfl) (by kernel_rfl) (by kernel_rfl) (by kernel_rfl) (fun _ _ _ h => h) (Or.inr ⟨by rfl, rfl⟩) (by assumption) ?rest209
   try simp only [Act.put, a7, b7, c7]
   refine wpAnyH_take (i := 9) (oi := _) (v := undef) (ga7 rfl) (by kernel_rfl) (by kernel_rfl) (by kernel_rfl) (fun _ _ _ h => h) (Or.inr ⟨by rfl, rfl⟩) (by assumption) ?rest210
   try simp only [Act.put, a7, b7, c7]
   refine wpAnyH_take (i := 10) (oi := _) (v := undef) (ga7 rfl) (by kernel_rfl) (by kernel_rfl) (by kernel_rfl) (fun _ _ _ h => h) (Or.inr ⟨by rfl, rfl⟩) (by assumption) ?rest211
   try simp only [Act.put, a7, b7, c7]
   refine wpAnyH_take (i := 11) (oi := _) (v := undef) (ga7 rfl) (by kernel_rfl) (by kernel_rfl) (by kernel_rfl) (fun _ _ _ h => h) (Or.inr ⟨by rfl, rfl⟩) (by assumption) ?rest212
   try simp only [Act.put, a7, b7, c7]
   refine wpAnyH_take (i := 12) (oi := _) (v := undef) (ga7 rfl) (by kernel_rfl) (by kernel_rfl) (by kernel_rfl) (fun _ _ _ h => h) (Or.inr ⟨by rfl, rfl⟩) (by assumption) ?rest213
   try simp only [Act.put, a7, b7, c7]
   refine wpAnyH_take (i := 13) (oi := _) (v := undef) (ga7 rfl) (by kernel_rfl) (by kernel_rfl) (by kernel_rfl) (fun _ _ _ h => h) (Or.inr ⟨by rfl, rfl⟩) (by assumption) ?rest214
   try simp only [Act.put, a7, b7, c7]
   refine wpAnyH_take (i := 14) (oi := _) (v := undef) (ga7 rfl) (by kernel_rfl) (by kernel_rfl) (by kernel_rfl) (fun _ _ _ h => h) (Or.inr ⟨by rfl, rfl⟩) (by assumption) ?rest215
   try simp only [Act.put, a7, b7, c7]
   refine wpAnyH_take (i := 15) (oi := _) (v := undef) (ga7 rfl) (by kernel_rfl) (by kernel_rfl) (by kernel_rfl) (fun _ _ _ h => h) (Or.inr ⟨by rfl, rfl⟩) (by assumption) ?rest216
   try simp only [Act.put, a7, b7, c7]
   refine w8 16 ?_ (ga7 rfl) (by kernel_rfl) (fun _ _ _ h => h) ⟨by rfl, ?y217⟩ hHeld ?_
   case y217 => (intro wq hSw; (try simp only [Two, Kn, Facts, CellsAt] at hSw); go_simp; try with_reducible rfl)
   try simp only [Act.put, a7, b7, c7]
   refine w8 17 ?_ (ga7 rfl) (by kernel_rfl) (fun _ _ _ h => h) ⟨by rfl, ?y218⟩ hHeld ?_
   case y218 => (intro wq hSw; (try simp only [Two, Kn, Facts, CellsAt] at hSw); go_simp; try with_reducible rfl)
   try simp only [Act.put, a7, b7, c7]
   refine wpAnyH_take (i := 18) (oi := _) (v := undef) (ga7 rfl) (by kernel_rfl) (by kernel_rfl) (by kernel_rfl) (fun _ _ _ h => h) (Or.inr ⟨by rfl, rfl⟩) (by assumption) ?rest219
   try simp only [Act.put, a7, b7, c7]
   refine wpAnyH_take (i := 19) (oi := _) (v := undef) (ga7 rfl) (by kernel_rfl) (by kernel_rfl) (by kernel_rfl) (fun _ _ _ h => h) (Or.inr ⟨by rfl, rfl⟩) (by assumption) ?rest220
   try simp only [Act.put, a7, b7, c7]
   refine wpAnyH_take (i := 20) (oi := _) (v := undef) (ga7 rfl) (by kernel_rfl) (by kernel_rfl) (by kernel_rfl) (fun _ _ _ h => h) (Or.inr ⟨by rfl, rfl⟩) (by assumption) ?rest221
   try simp only [Act.put, a7, b7, c7]
   refine wpAnyH_take (i := 21) (oi := _) (v := undef) (ga7 rfl) (by kernel_rfl) (by kernel_rfl) (by kernel_rfl) (fun _ _ _ h => h) (Or.inr ⟨by rfl, rfl⟩) (by assumption) ?rest222
   try simp only [Act.put, a7, b7, c7]
   refine wpAnyH_take (i := 22) (oi := _) (v := undef) (ga7 rfl) (by kernel_rfl) (by kernel_rfl) (by kernel_rfl) (fun _ _ _ h => h) (Or.inr ⟨by rfl, rfl⟩) (by assumption) ?rest223
   try simp only [Act.put, a7, b7, c7]
   refine w8 23 ?_ (ga7 rfl) (by kernel_rfl) (fun _ _ _ h => h) ⟨by rfl, ?y224⟩ hHeld ?_
   case y224 => (intro wq hSw; (try simp only [Two, Kn, Facts, CellsAt] at hSw); go_simp; try with_reducible rfl)
   try simp only [Act.put, a7, b7, c7]
   refine wpAnyH_done (by kernel_rfl) ?fin200 _
   have B := K1.bel
   clear hHeld K1
   go_wp2
   go_ret
   exact ⟨rfl, by repeat (first | with_reducible exact Below.refl _ _ | with_reducible refine Below.drew ?_ | with_reducible refine Below.alloc ?_ (by first | omega | (simp <;> omega)) _ | with_reducible refine Below.setCell ?_ (by first | omega | (simp <;> omega)) _ | with_reducible refine Below.trans ?_ (Below.mono B (by first | omega | (simp <;> omega))))⟩
  ·clear CS
   go_upto_region 2 with fail
   refine wp_region_held_drew (S := (Kn w ((X, [.int .u64 0, .int .u64 kl], 24) :: [(w.heap.size, [.bool s, .int .u64 ah, .int .u64 al], 26), (r, [.bool v, .int .u64 h, .int .u64 l, .int .i64 b, .int .i64 N, sv], 59)]))) (by kernel_rfl) ?hS300 (fun hHeld => ?rest300)
   case hS300 => (first | with_reducible exact K1.drew)
   refine w8 0 ?_ (ga7 rfl) (by kernel_rfl) (fun _ _ _ h => h) ⟨by rfl, ?y301⟩ hHeld ?_
   case y301 => (intro wq hSw; (try simp only [Two, Kn, Facts, CellsAt] at hSw); go_simp; try with_reducible rfl)
   try simp only [Act.put, a7, b7, c7]
   refine w8 1 ?_ (ga7 rfl) (by kernel_rfl) (fun _ _ _ h => h) ⟨by rfl, ?y302⟩ hHeld ?_
   case y302 => (intro wq hSw; (try simp only [Two, Kn, Facts, CellsAt] at hSw); go_simp; try with_reducible rfl)
   try simp only [Act.put, a7, b7, c7]
   refine w8 2 ?_ (ga7 rfl) (by kernel_rfl) (fun _ _ _ h => h) ⟨by rfl, ?y303⟩ hHeld ?_
   case y303 => (intro wq hSw; (try simp only [Two, Kn, Facts, CellsAt] at hSw); go_simp; try with_reducible rfl)
   try simp only [Act.put, a7, b7, c7]
   refine w8 3 ?_ (ga7 rfl) (by kernel_rfl) (fun _ _ _ h => h) ⟨by rfl, ?y304⟩ hHeld ?_
   case y304 => (intro wq hSw; (try simp only [Two, Kn, Facts, CellsAt] at hSw); go_simp; try with_reducible rfl)
   try simp only [Act.put, a7, b7, c7]
   refine w8 4 ?_ (ga7 rfl) (by kernel_rfl) (fun _ _ _ h => h) ⟨by rfl, ?y305⟩ hHeld ?_
   case y305 => (intro wq hSw; (try simp only [Two, Kn, Facts, CellsAt] at hSw); go_simp; try with_reducible rfl)
   try simp only [Act.put, a7, b7, c7]
   refine w8 5 ((.bool false)) (ga7 rfl) (by kernel_rfl) (fun _ _ _ h => h) ⟨by rfl, ?y306⟩ hHeld ?_
   case y306 => (intro wq hSw; (try simp only [Two, Kn, Facts, CellsAt] at hSw); go_simp; (all_goals (first | omega | (simp; omega))))
   try simp only [Act.put, a7, b7, c7]
   refine w8 6 ?_ (ga7 rfl) (by kernel_rfl) (fun _ _ _ h => h) ⟨by rfl, ?y307⟩ hHeld ?_
   case y307 => (intro wq hSw; (try simp only [Two, Kn, Facts, CellsAt] at hSw); go_simp; try with_reducible rfl)
   try simp only [Act.put, a7, b7, c7]
   refine w8 7 ?_ (ga7 rfl) (by kernel_rfl) (fun _ _ _ h => h) ⟨by rfl, ?y308⟩ hHeld ?_
   case y308 => (intro wq hSw; (try simp only [Two, Kn, Facts, CellsAt] at hSw); go_simp; try with_reducible rfl)
   try simp only [Act.put, a7, b7, c7]
   refine w8 8 ?_ (ga7 rfl) (by kernel_rfl) (fun _ _ _ h => h) ⟨by rfl, ?y309⟩ hHeld ?_
   case y309 => (intro wq hSw; (try simp only [Two, Kn, Facts, CellsAt] at hSw); go_simp; try with_reducible rfl)
   try simp only [Act.put, a7, b7, c7]
   refine w8 9 ?_ (ga7 rfl) (by kernel_rfl) (fun _ _ _ h => h) ⟨by rfl, ?y310⟩ hHeld ?_
   case y310 => (intro wq hSw; (try simp only [Two, Kn, Facts, CellsAt] at hSw); go_simp; try with_reducible rfl)
   try simp only [Act.put, a7, b7, c7]
   refine w8 10 ?_ (ga7 rfl) (by kernel_rfl) (fun _ _ _ h => h) ⟨by rfl, ?y311⟩ hHeld ?_
   case y311 => (intro wq hSw; (try simp only [Two, Kn, Facts, CellsAt] at hSw); go_simp; try with_reducible rfl)
   try simp only [Act.put, a7, b7, c7]
   refine w8 11 ?_ (ga7 rfl) (by kernel_rfl) (fun _ _ _ h => h) ⟨by rfl, ?y312⟩ hHeld ?_
   case y312 => (intro wq hSw; (try simp only [Two, Kn, Facts, CellsAt] at hSw); go_simp; try with_reducible rfl)
   try simp only [Act.put, a7, b7, c7]
   refine w8 12 ?_ (ga7 rfl) (by kernel_rfl) (fun _ _ _ h => h) ⟨by rfl, ?y313⟩ hHeld ?_
   case y313 => (intro wq hSw; (try simp only [Two, Kn, Facts, CellsAt] at hSw); go_simp; try with_reducible rfl)
   try simp only [Act.put, a7, b7, c7]
   refine w8 13 ?_ (ga7 rfl) (by kernel_rfl) (fun _ _ _ h => h) ⟨by rfl, ?y314⟩ hHeld ?_
   case y314 => (intro wq hSw; (try simp only [Two, Kn, Facts, CellsAt] at hSw); go_simp; try with_reducible rfl)
   try simp only [Act.put, a7, b7, c7]
   refine w8 14 ?_ (ga7 rfl) (by kernel_rfl) (fun _ _ _ h => h) ⟨by rfl, ?y315⟩ hHeld ?_
   case y315 => (intro wq hSw; (try simp only [Two, Kn, Facts, CellsAt] at hSw); go_simp; try with_reducible rfl)
   try simp only [Act.put, a7, b7, c7]
   refine w8 15 ((.bool true)) (ga7 rfl) (by kernel_rfl) (fun _ _ _ h => h) ⟨by rfl, ?y316⟩ hHeld ?_
   case y316 => (intro wq hSw; (try simp only [Two, Kn, Facts, CellsAt] at hSw); go_simp; (all_goals (first | omega | (simp; omega))))
   try simp only [Act.put, a7, b7, c7]
   refine w8 16 ?_ (ga7 rfl) (by kernel_rfl) (fun _ _ _ h => h) ⟨by rfl, ?y317⟩ hHeld ?_
   case y317 => (intro wq hSw; (try simp only [Two, Kn, Facts, CellsAt] at hSw); go_simp; try with_reducible rfl)
   try simp only [Act.put, a7, b7, c7]
   refine w8 17 ?_ (ga7 rfl) (by kernel_rfl) (fun _ _ _ h => h) ⟨by rfl, ?y318⟩ hHeld ?_
   case y318 => (intro wq hSw; (try simp only [Two, Kn, Facts, CellsAt] at hSw); go_simp; try with_reducible rfl)
   try simp only [Act.put, a7, b7, c7]
   refine wpAnyH_take (i := 18) (oi := _) (v := undef) (ga7 rfl) (by kernel_rfl) (by kernel_rfl) (by kernel_rfl) (fun _ _ _ h => h) (Or.inr ⟨by rfl, rfl⟩) (by assumption) ?rest319
   try simp only [Act.put, a7, b7, c7]
   refine wpAnyH_take (i := 19) (oi := _) (v := undef) (ga7 rfl) (by kernel_rfl) (by kernel_rfl) (by kernel_rfl) (fun _ _ _ h => h) (Or.inr ⟨by rfl, rfl⟩) (by assumption) ?rest320
   try simp only [Act.put, a7, b7, c7]
   refine wpAnyH_take (i := 20) (oi := _) (v := undef) (ga7 rfl) (by kernel_rfl) (by kernel_rfl) (by kernel_rfl) (fun _ _ _ h => h) (Or.inr ⟨by rfl, rfl⟩) (by assumption) ?rest321
   try simp only [Act.put, a7, b7, c7]
   refine wpAnyH_take (i := 21) (oi := _) (v := undef) (ga7 rfl) (by kernel_rfl) (by kernel_rfl) (by kernel_rfl) (fun _ _ _ h => h) (Or.inr ⟨by rfl, rfl⟩) (by assumption) ?rest322
   try simp only [Act.put, a7, b7, c7]
   refine wpAnyH_take (i := 22) (oi := _) (v := undef) (ga7 rfl) (by kernel_rfl) (by kernel_rfl) (by kernel_rfl) (fun _ _ _ h => h) (Or.inr ⟨by rfl, rfl⟩) (by assumption) ?rest323
   try simp only [Act.put, a7, b7, c7]
   refine w8 23 ?_ (ga7 rfl) (by kernel_rfl) (fun _ _ _ h => h) ⟨by rfl, ?y324⟩ hHeld ?_
   case y324 => (intro wq hSw; (try simp only [Two, Kn, Facts, CellsAt] at hSw); go_simp; try with_reducible rfl)
   try simp only [Act.put, a7, b7, c7]
   refine wpAnyH_done (by kernel_rfl) ?fin300 _
   have B := K1.bel
   clear hHeld K1
   go_wp2
   go_ret
   exact ⟨rfl, by repeat (first | with_reducible exact Below.refl _ _ | with_reducible refine Below.drew ?_ | with_reducible refine Below.alloc ?_ (by first | omega | (simp <;> omega)) _ | with_reducible refine Below.setCell ?_ (by first | omega | (simp <;> omega)) _ | with_reducible refine Below.trans ?_ (Below.mono B (by first | omega | (simp <;> omega))))⟩
  ·have KE := hide KE0
   have hwi : IntKind.i64.wrap (i : Int) = i := by simp [IntKind.wrap, IntKind.bits, IntKind.signed]; omega
   have ck : ¬ (N : Int) ≤ (i : Int) := by omega
   clear CS KE0
   go_upto_region 2 with fail
   refine wp_region_held_drew (S := (Kn w ((X, [.int .u64 0, .int .u64 i], 24) :: [(w.heap.size, [.bool s, .int .u64 ah, .int .u64 al], 26), (r, [.bool v, .int .u64 h, .int .u64 l, .int .i64 b, .int .i64 N, sv], 59)]))) (by kernel_rfl) ?hS400 (fun hHeld => ?rest400)
   case hS400 => with_reducible exact K1.drew
   refine w8 0 ?_ (ga7 rfl) (by kernel_rfl) (fun _ _ _ h => h) ⟨by rfl, ?y401⟩ hHeld ?_
   case y401 => (intro wq hSw; (try simp only [Two, Kn, Facts, CellsAt] at hSw); go_simp; try with_reducible rfl)
   try simp only [Act.put, a7, b7, c7]
   refine w8 1 ?_ (ga7 rfl) (by kernel_rfl) (fun _ _ _ h => h) ⟨by rfl, ?y402⟩ hHeld ?_
   case y402 => (intro wq hSw; (try simp only [Two, Kn, Facts, CellsAt] at hSw); go_simp; try with_reducible rfl)
   try simp only [Act.put, a7, b7, c7]
   refine w8 2 ?_ (ga7 rfl) (by kernel_rfl) (fun _ _ _ h => h) ⟨by rfl, ?y403⟩ hHeld ?_
   case y403 => (intro wq hSw; (try simp only [Two, Kn, Facts, CellsAt] at hSw); go_simp; try with_reducible rfl)
   try simp only [Act.put, a7, b7, c7]
   refine w8 3 ?_ (ga7 rfl) (by kernel_rfl) (fun _ _ _ h => h) ⟨by rfl, ?y404⟩ hHeld ?_
   case y404 => (intro wq hSw; (try simp only [Two, Kn, Facts, CellsAt] at hSw); go_simp; try with_reducible rfl)
   try simp only [Act.put, a7, b7, c7]
   refine w8 4 ?_ (ga7 rfl) (by kernel_rfl) (fun _ _ _ h => h) ⟨by rfl, ?y405⟩ hHeld ?_
   case y405 => (intro wq hSw; (try simp only [Two, Kn, Facts, CellsAt] at hSw); go_simp; try with_reducible rfl)
   try simp only [Act.put, a7, b7, c7]
   refine w8 5 ((.bool false)) (ga7 rfl) (by kernel_rfl) (fun _ _ _ h => h) ⟨by rfl, ?y406⟩ hHeld ?_
   case y406 => (intro wq hSw; (try simp only [Two, Kn, Facts, CellsAt] at hSw); go_simp; (all_goals (first | omega | (simp; omega))))
   try simp only [Act.put, a7, b7, c7]
   refine w8 6 ?_ (ga7 rfl) (by kernel_rfl) (fun _ _ _ h => h) ⟨by rfl, ?y407⟩ hHeld ?_
   case y407 => (intro wq hSw; (try simp only [Two, Kn, Facts, CellsAt] at hSw); go_simp; try with_reducible rfl)
   try simp only [Act.put, a7, b7, c7]
   refine w8 7 ?_ (ga7 rfl) (by kernel_rfl) (fun _ _ _ h => h) ⟨by rfl, ?y408⟩ hHeld ?_
   case y408 => (intro wq hSw; (try simp only [Two, Kn, Facts, CellsAt] at hSw); go_simp; try with_reducible rfl)
   try simp only [Act.put, a7, b7, c7]
   refine w8 8 ?_ (ga7 rfl) (by kernel_rfl) (fun _ _ _ h => h) ⟨by rfl, ?y409⟩ hHeld ?_
   case y409 => (intro wq hSw; (try simp only [Two, Kn, Facts, CellsAt] at hSw); go_simp; try with_reducible rfl)
   try simp only [Act.put, a7, b7, c7]
   refine w8 9 ?_ (ga7 rfl) (by kernel_rfl) (fun _ _ _ h => h) ⟨by rfl, ?y410⟩ hHeld ?_
   case y410 => (intro wq hSw; (try simp only [Two, Kn, Facts, CellsAt] at hSw); go_simp; try with_reducible rfl)
   try simp only [Act.put, a7, b7, c7]
   refine w8 10 ?_ (ga7 rfl) (by kernel_rfl) (fun _ _ _ h => h) ⟨by rfl, ?y411⟩ hHeld ?_
   case y411 => (intro wq hSw; (try simp only [Two, Kn, Facts, CellsAt] at hSw); go_simp; try with_reducible rfl)
   try simp only [Act.put, a7, b7, c7]
   refine w8 11 ?_ (ga7 rfl) (by kernel_rfl) (fun _ _ _ h => h) ⟨by rfl, ?y412⟩ hHeld ?_
   case y412 => (intro wq hSw; (try simp only [Two, Kn, Facts, CellsAt] at hSw); go_simp; try with_reducible rfl)
   try simp only [Act.put, a7, b7, c7]
   refine w8 12 ?_ (ga7 rfl) (by kernel_rfl) (fun _ _ _ h => h) ⟨by rfl, ?y413⟩ hHeld ?_
   case y413 => (intro wq hSw; (try simp only [Two, Kn, Facts, CellsAt] at hSw); go_simp; try with_reducible rfl)
   try simp only [Act.put, a7, b7, c7]
   refine w8 13 ?_ (ga7 rfl) (by kernel_rfl) (fun _ _ _ h => h) ⟨by rfl, ?y414⟩ hHeld ?_
   case y414 => (intro wq hSw; (try simp only [Two, Kn, Facts, CellsAt] at hSw); go_simp; try with_reducible rfl)
   try simp only [Act.put, a7, b7, c7]
   refine w8 14 ?_ (ga7 rfl) (by kernel_rfl) (fun _ _ _ h => h) ⟨by rfl, ?y415⟩ hHeld ?_
   case y415 => (intro wq hSw; (try simp only [Two, Kn, Facts, CellsAt] at hSw); go_simp; try with_reducible rfl)
   try simp only [Act.put, a7, b7, c7]
   refine w8 15 ((.bool false)) (ga7 rfl) (by kernel_rfl) (fun _ _ _ h => h) ⟨by rfl, ?y416⟩ hHeld ?_
   case y416 => (intro wq hSw; (try simp only [Two, Kn, Facts, CellsAt] at hSw); go_simp; (all_goals (first | omega | (simp; omega))))
   try simp only [Act.put, a7, b7, c7]
   refine w8 16 ?_ (ga7 rfl) (by kernel_rfl) (fun _ _ _ h => h) ⟨by rfl, ?y417⟩ hHeld ?_
   case y417 => (intro wq hSw; (try simp only [Two, Kn, Facts, CellsAt] at hSw); go_simp; try with_reducible rfl)
   try simp only [Act.put, a7, b7, c7]
   refine w8 17 ?_ (ga7 rfl) (by kernel_rfl) (fun _ _ _ h => h) ⟨by rfl, ?y418⟩ hHeld ?_
   case y418 => (intro wq hSw; (try simp only [Two, Kn, Facts, CellsAt] at hSw); go_simp; try with_reducible rfl)
   try simp only [Act.put, a7, b7, c7]
   refine w8 18 ?_ (ga7 rfl) (by kernel_rfl) (fun _ _ _ h => h) ⟨by rfl, ?y419⟩ hHeld ?_
   case y419 => (intro wq hSw; (try simp only [Two, Kn, Facts, CellsAt] at hSw); go_simp; try with_reducible rfl)
   try simp only [Act.put, a7, b7, c7]
   refine w8 19 ?_ (ga7 rfl) (by kernel_rfl) (fun _ _ _ h => h) ⟨by rfl, ?y420⟩ hHeld ?_
   case y420 => (intro wq hSw; (try simp only [Two, Kn, Facts, CellsAt] at hSw); go_simp; try with_reducible rfl)
   try simp only [Act.put, a7, b7, c7]
   refine w8 20 ?_ (ga7 rfl) (by kernel_rfl) (fun _ _ _ h => h) ⟨by rfl, ?y421⟩ hHeld ?_
   case y421 => (intro wq hSw; (try simp only [Two, Kn, Facts, CellsAt] at hSw); go_simp; try with_reducible rfl)
   try simp only [Act.put, a7, b7, c7]
   refine w8 21 ?_ (ga7 rfl) (by kernel_rfl) (fun _ _ _ h => h) ⟨by rfl, ?y422⟩ hHeld ?_
   case y422 => (intro wq hSw; (try simp only [Two, Kn, Facts, CellsAt] at hSw); go_simp; try with_reducible rfl)
   try simp only [Act.put, a7, b7, c7]
   refine wpAnyH_ready (rs := [22]) (by kernel_rfl) (by simp) ?rdy423
   refine AllReadyH.cons (ga7 rfl) (fun K hK => ?stp423) AllReadyH.nil
   go_simp
   go_wp2_with fail
   (refine (KE.out _ (P.out.below hHeld.bel)).mono ?_; rintro e w6 ⟨rfl, hb6⟩)
   go_wp2_with fail
   refine hK.out _ _ ?hSn423 (fun hHeld2 => ?rest423)
   case hSn423 => with_reducible exact hHeld.below hb6
   clear hK K hHeld
   have hHeld := hHeld2
   clear hHeld2
   try simp only [Act.put, a7, b7, c7]
   refine w8 23 ?_ (ga7 rfl) (by kernel_rfl) (fun _ _ _ h => h) ⟨by rfl, ?y424⟩ hHeld ?_
   case y424 => (intro wq hSw; (try simp only [Two, Kn, Facts, CellsAt] at hSw); go_simp; try with_reducible rfl)
   try simp only [Act.put, a7, b7, c7]
   refine wpAnyH_done (by kernel_rfl) ?fin400 _
   have F := hHeld.1
   simp only [Facts, CellsAt] at F
   have B := hHeld.bel
   clear hHeld K1 KE hb6
   subst ho
   cases t
   ·go_wp2
    go_ret
    exact ⟨rfl, by repeat (first | with_reducible exact Below.refl _ _ | with_reducible refine Below.drew ?_ | with_reducible refine Below.alloc ?_ (by first | omega | (simp <;> omega)) _ | with_reducible refine Below.setCell ?_ (by first | omega | (simp <;> omega)) _ | with_reducible refine Below.trans ?_ (Below.mono B (by first | omega | (simp <;> omega))))⟩
   ·go_wp2
    go_ret
    exact ⟨rfl, by repeat (first | with_reducible exact Below.refl _ _ | with_reducible refine Below.drew ?_ | with_reducible refine Below.alloc ?_ (by first | omega | (simp <;> omega)) _ | with_reducible refine Below.setCell ?_ (by first | omega | (simp <;> omega)) _ | with_reducible refine Below.trans ?_ (Below.mono B (by first | omega | (simp <;> omega))))⟩

theorem rnum06_c {v s : Bool} {h l b ah al : Int} {base r n m : Nat} {us : List Nat} (hp : IsNum h l n) (ha : IsNum ah al m) (h0 : 0 < szP v n b) (w : World) (P : RpAt w base v h l b r (szP v n b) us) :
  Calls Tryz.prog 21 #[.pointer (some ⟨r, 0, none⟩), av s ah al] w fun e w' => e = .returned (.int .i64 (nmR (nmP v n b s m))) ∧ Below w.heap.size w w' := by
 have ok := szP_ok h0
 have le := szP_le (v := v) (n := n) (b := b)
 cases hh : hasB v n b s m
 ·have e : nmP v n b s m = none := by unfold nmP; rw [if_neg (by rw [hh]; simp)]
  rw [e]
  exact rnum_any le w P (fun w' => rnmb_out hp ha ok hh w') (Or.inl ⟨rfl, rfl⟩)
 ·obtain rfl := (has_parts hh).1
  obtain ⟨rh, rl, hr⟩ := IsNum.ex (n := m - n) (Nat.lt_of_le_of_lt (Nat.sub_le _ _) ha.lt)
  refine rnum_any le w P (fun w' => rnmb_ok hp ha hh hr w') ?_
  obtain ⟨x1, x2, x3, x4, x5⟩ := hr
  by_cases c1 : m - n < szP v n b
  ·refine Or.inr (Or.inr (Or.inr ⟨rfl, by omega, m - n, c1, by omega, kpF (lkP v b) (szP v n b) (m - n), fun w' P' => rkept06_c rfl (by omega) h0 le hp ok rfl w' P', ?_⟩))
   cases hk : kpF (lkP v b) (szP v n b) (m - n)
   ·unfold nmP
    rw [if_pos ⟨hh, c1, hk⟩]
    rfl
   ·unfold nmP
    rw [if_neg (by rw [hk]; simp)]
    rfl
  ·have e : nmP v n b v m = none := by unfold nmP; rw [if_neg (fun c => c1 c.2.1)]
   by_cases c2 : 0 < rh
   ·exact Or.inr (Or.inl ⟨rfl, c2, e⟩)
   ·exact Or.inr (Or.inr (Or.inl ⟨rfl, by omega, by omega, e⟩))


/-- What the reference's Take answers. -/
def tkE : Option Nat → List Nat → Int
 | none, _ => 12
 | some i, us => if i ∈ us then 14 else 0

/-- Which are used behind it. -/
def tkU : Option Nat → List Nat → List Nat
 | none, us => us
 | some i, us => if i ∈ us then us else us ++ [i]

set_option maxRecDepth 100000 in
set_option maxHeartbeats 3200000 in
theorem rtake_any {v s : Bool} {h l b ah al : Int} {base r N : Nat} {us : List Nat} {o : Option Nat} (hus : us.length ≤ 1000) (w : World) (hbase : base ≤ w.heap.size) (hrb : base ≤ r) (P : RpAt w base v h l b r N us) (ho6 : ∀ i, o = some i → i ≤ 65536)
  (NB : Hid (∀ w', RpAt w' base v h l b r N us → Calls Tryz.prog 21 #[.pointer (some ⟨r, 0, none⟩), av s ah al] w' fun e w1 => e = .returned (.int .i64 (nmR o)) ∧ Below w'.heap.size w' w1)) :
  Calls Tryz.prog 53 #[.pointer (some ⟨r, 0, none⟩), av s ah al] w fun e w' => e = .returned (.int .i64 (tkE o us)) ∧ RpAt w' base v h l b r N (tkU o us) ∧ Below base w w' ∧ (∀ c cs t, Blk w c cs t → 3 ≠ t → c ≠ r → Blk w' c cs t) := by
 obtain ⟨i0, hi, hz0, hz1, hz2⟩ := info_parts infoInt
 have bl : Below w.heap.size w (w.alloc (.cells #[.bool s, .int .u64 ah, .int .u64 al] 26)) := by repeat (first | with_reducible exact Below.refl _ _ | with_reducible refine Below.drew ?_ | with_reducible refine Below.alloc ?_ (by first | omega | (simp <;> omega)) _ | with_reducible refine Below.setCell ?_ (by first | omega | (simp <;> omega)) _)
 have PH := hide (P.below bl)
 have BH := hide bl
 have R0 : Kn w [(w.heap.size, [.bool s, .int .u64 ah, .int .u64 al], 26)] (w.alloc (.cells #[.bool s, .int .u64 ah, .int .u64 al] 26)) := (Kn.nil w).push rfl
 clear bl P
 go_enter Tryz.func53, Tryz.ntmps53
 go_wp2_with fail
 refine (NB.out _ PH.out).mono ?_
 rintro e w1 ⟨rfl, hb1⟩
 have P1 := hide (PH.out.below hb1)
 have B1 := hide (BH.out.trans (hb1.mono BH.out.size))
 clear NB PH BH hb1 R0
 cases o with
 | none =>
  have KP : ∀ c cs t, Blk w c cs t → 3 ≠ t → c ≠ r → Blk w1 c cs t := fun c cs t hc _ _ => hc.below B1.out
  have n0 : nmR none = -1 := rfl
  rw [n0]
  go_wp2
  go_ret
  exact ⟨rfl, P1.out, B1.out.mono hbase, KP⟩
 | some i =>
  have n0 : nmR (some i) = (i : Int) := rfl
  have i6 := ho6 i rfl
  rw [n0]
  clear n0 ho6
  have i0' : ¬ (i : Int) < 0 := by omega
  by_cases c : i ∈ us
  ·have H1 := hide (rhas06_c (t := true) (decide_eq_true c) (by omega) w1 P1.out)
   have KP : Hid (∀ c cs t, Blk w c cs t → 3 ≠ t → c ≠ r → Blk w1 c cs t) := fun c cs t hc _ _ => hc.below B1.out
   have E1 : Hid (tkE (some i) us = 14) := if_pos c
   have E2 : Hid (tkU (some i) us = us) := if_pos c
   clear c
   go_wp2_with fail
   refine H1.out.mono ?_
   rintro e w2 ⟨rfl, rfl⟩
   clear H1
   go_wp2
   go_ret
   exact ⟨by rw [E1.out]; rfl, by rw [E2.out]; exact P1.out, B1.out.mono hbase, KP.out⟩
  ·have H1 := hide (rhas06_c (t := false) (decide_eq_false c) (by omega) w1 P1.out)
   have E1 : Hid (tkE (some i) us = 0) := if_neg c
   have E2 : Hid (tkU (some i) us = us ++ [i]) := if_neg c
   clear c
   go_wp2_with fail
   refine H1.out.mono ?_
   rintro e w2 ⟨rfl, rfl⟩
   obtain ⟨sv1, hb1, ho1⟩ := P1.out.is
   obtain ⟨y0, y1, y2, y3, y4, y5, yl⟩ := hb1.six
   have HB1 := hide hb1
   have HO1 := hide ho1
   have hbs : base ≤ w2.heap.size := Nat.le_trans hbase B1.out.size
   clear H1 hb1 ho1
   go_wp2_with (first | (at_builtin; refine wpList_append_own _ rfl _ _ 57 rfl base 3 i0 (.int .i64 0) 1 8 Tryz.underlying57 hi hz0 hz1 hz2 rfl (by decide) _ _ _ rfl (HO1.out.alloc _) ⟨w2.heap.size, 0, none⟩ 1 1 [.int .i64 (i : Int)] rfl rfl ?c1 ?c2 ?c3 ?c4 ?c5 ?_))
   case c1 =>
    intro j u hj
    match j, hj with
    | 0, hj => simp at hj; subst hj; simp [Addr.add]
   case c2 => intro u hu; simp at hu; subst hu; rfl
   case c3 => unfold maxLen; omega
   case c4 => omega
   case c5 => simp; omega
   intro v' w5 hown hgrow _
   obtain ⟨g', cap', hv'⟩ : ∃ g' cap', v' = .slice (some ⟨g', 0, none⟩) (us.length + 1) cap' := by
    rcases hown.2 with ⟨_, h2⟩ | ⟨g', cap', cur, h1, _⟩
    ·omega
    ·exact ⟨g', cap', h1⟩
   subst hv'
   have hb5 := rp_grown HB1.out HO1.out (by decide) hgrow
   have B5 : Below base w w5 := below_grown (B1.out.mono hbase) hbs HO1.out hgrow
   have RP6 := hide (rp_store HB1.out HO1.out hown hgrow)
   have B6 := hide (B5.setCell (p := ⟨r, 5, none⟩) hrb (.slice (some ⟨g', 0, none⟩) (us.length + 1) cap'))
   have KP6 : Hid (∀ c cs t, Blk w c cs t → 3 ≠ t → c ≠ r → Blk (w5.setCell ⟨r, 5, none⟩ (.slice (some ⟨g', 0, none⟩) (us.length + 1) cap')) c cs t) := fun c cs t hc ht hcr => (rp_grown (hc.below B1.out) HO1.out ht hgrow).far hcr 5 _
   have f5 := hb5.frozen 5
   obtain ⟨z0, z1, z2, z3, z4, z5, zl⟩ := hb5.six
   clear hown hgrow hb5 B5 y0 y1 y2 y3 y4 y5 HB1 HO1 P1 B1
   go_wp2
   go_ret
   exact ⟨by rw [E1.out]; rfl, by rw [E2.out]; exact RP6.out, B6.out, KP6.out⟩

theorem rtake06_c {v s : Bool} {h l b ah al : Int} {base r n m : Nat} {us : List Nat} (hp : IsNum h l n) (ha : IsNum ah al m) (h0 : 0 < szP v n b) (hus : us.length ≤ 1000) (w : World) (hbase : base ≤ w.heap.size) (hrb : base ≤ r) (P : RpAt w base v h l b r (szP v n b) us) :
  Calls Tryz.prog 53 #[.pointer (some ⟨r, 0, none⟩), av s ah al] w fun e w' => e = .returned (.int .i64 (tkE (nmP v n b s m) us)) ∧ RpAt w' base v h l b r (szP v n b) (tkU (nmP v n b s m) us) ∧ Below base w w' ∧ (∀ c cs t, Blk w c cs t → 3 ≠ t → c ≠ r → Blk w' c cs t) :=
 rtake_any hus w hbase hrb P (fun i e => by have := (nmP_some e).2.2.1; have := szP_le (v := v) (n := n) (b := b); omega) (fun w' P' => rnum06_c hp ha h0 w' P')


/-- What the reference's Free answers. -/
def frE : Option Nat → List Nat → Int
 | none, _ => 12
 | some i, us => if i ∈ us then 0 else 7

/-- All but one. -/
def woF (i : Nat) (us : List Nat) : List Nat := us.filter fun y => decide (y ≠ i)

/-- Which are used behind it. -/
def frU : Option Nat → List Nat → List Nat
 | none, us => us
 | some i, us => woF i us

theorem wo_app (i y : Nat) (us : List Nat) : woF i (us ++ [y]) = if y = i then woF i us else woF i us ++ [y] := by
 unfold woF
 rw [List.filter_append]
 by_cases e : y = i <;> simp [e]

theorem fr_same {us : List Nat} {i : Nat} (h : i ∉ us) : woF i us = us := by
 unfold woF
 rw [List.filter_eq_self]
 intro y hy
 exact decide_eq_true (fun e => h (e ▸ hy))

set_option maxRecDepth 100000 in
set_option maxHeartbeats 3200000 in
theorem rfree_any {v s : Bool} {h l b ah al : Int} {base r N : Nat} {us : List Nat} {o : Option Nat} (hus : us.length ≤ 1000) (w : World) (hbase : base ≤ w.heap.size) (hrb : base ≤ r) (P : RpAt w base v h l b r N us) (ho6 : ∀ i, o = some i → i ≤ 65536)
  (NB : Hid (∀ w', RpAt w' base v h l b r N us → Calls Tryz.prog 21 #[.pointer (some ⟨r, 0, none⟩), av s ah al] w' fun e w1 => e = .returned (.int .i64 (nmR o)) ∧ Below w'.heap.size w' w1)) :
  Calls Tryz.prog 55 #[.pointer (some ⟨r, 0, none⟩), av s ah al] w fun e w' => e = .returned (.int .i64 (frE o us)) ∧ RpAt w' base v h l b r N (frU o us) ∧ Below base w w' ∧ (∀ c cs t, Blk w c cs t → 3 ≠ t → c ≠ r → Blk w' c cs t) := by
 obtain ⟨i0, hi, hz0, hz1, hz2⟩ := info_parts infoInt
 have bl : Below w.heap.size w (w.alloc (.cells #[.bool s, .int .u64 ah, .int .u64 al] 26)) := by repeat (first | with_reducible exact Below.refl _ _ | with_reducible refine Below.drew ?_ | with_reducible refine Below.alloc ?_ (by first | omega | (simp <;> omega)) _ | with_reducible refine Below.setCell ?_ (by first | omega | (simp <;> omega)) _)
 have PH := hide (P.below bl)
 have BH := hide bl
 clear bl P
 go_enter Tryz.func55, Tryz.ntmps55
 go_wp2_with fail
 refine (NB.out _ PH.out).mono ?_
 rintro e w1 ⟨rfl, hb1⟩
 have P1 := hide (PH.out.below hb1)
 have B1 := hide (BH.out.trans (hb1.mono BH.out.size))
 clear NB PH BH hb1
 cases o with
 | none =>
  have KP : ∀ c cs t, Blk w c cs t → 3 ≠ t → c ≠ r → Blk w1 c cs t := fun c cs t hc _ _ => hc.below B1.out
  have n0 : nmR none = -1 := rfl
  rw [n0]
  go_wp2
  go_ret
  exact ⟨rfl, P1.out, B1.out.mono hbase, KP⟩
 | some i =>
  have n0 : nmR (some i) = (i : Int) := rfl
  have i6 := ho6 i rfl
  rw [n0]
  clear n0 ho6
  have i0' : ¬ (i : Int) < 0 := by omega
  by_cases c : i ∈ us
  ·have H1 := hide (rhas06_c (t := true) (decide_eq_true c) (by omega) w1 P1.out)
   have E1 : Hid (frE (some i) us = 0) := if_pos c
   clear c
   go_wp2_with fail
   refine H1.out.mono ?_
   rintro e w2 ⟨rfl, rfl⟩
   obtain ⟨sv, hb, ho⟩ := P1.out.is
   obtain ⟨y0, y1, y2, y3, y4, y5, yl⟩ := hb.six
   have HB := hide hb
   have OH := hide ho
   obtain ⟨L, hL⟩ : ∃ L, us.length = L := ⟨_, rfl⟩
   have HL := hide hL
   rw [hL] at hus OH
   obtain ⟨q, cap, hs, hc⟩ : ∃ (q : Option Addr) (cap : Nat), sv = .slice q L cap ∧ (0 < L → ∃ g, q = some ⟨g, 0, none⟩ ∧ g < w2.heap.size ∧ ∀ j (x : Nat), us[j]? = some x → w2.cell? ⟨g, j, none⟩ = some (.int .i64 x)) := by
    rcases OH.out.2 with ⟨h1, h0⟩ | ⟨g, cap, cur, h1, _, h3, _⟩
    ·exact ⟨none, 0, by rw [h1, h0], fun h => by omega⟩
    ·refine ⟨some ⟨g, 0, none⟩, cap, h1, fun _ => ⟨g, rfl, (Array.getElem?_eq_some_iff.1 h3).1, fun j x hx => ?_⟩⟩
     have := OH.out.cells (g := g) (by rw [h1]; rfl) j (.int .i64 x) (by rw [List.getElem?_map, hx]; rfl)
     rw [add_none0] at this
     exact this
   subst hs
   have HC := hide hc
   have OW0 : Hid ((w2.alloc (.cells #[] 3)).ownsRow w2.heap.size 3 1 (.slice (some ⟨w2.heap.size, 0, none⟩) 0 0) 0 ((woF i (us.take 0)).map fun y : Nat => Value.int .i64 (y : Int))) := World.ownsRow_made _ _ _ (Nat.le_refl _) (Nat.zero_le _) rfl
   have BW0 : Hid (Below w2.heap.size w2 (w2.alloc (.cells #[] 3))) := (Below.refl _ _).alloc (Nat.le_refl _) _
   clear hb ho hL hc OH H1 y0 y1 y2 y3 y4 y5 P1
   go_wp2_with fail
   go_loopw [6, 7] (fun ov kv wr => ∃ j c : Nat, j ≤ L ∧ kv = .int .i64 j ∧ c ≤ j ∧ Hid ((woF i (us.take j)).length = c) ∧ Hid (wr.ownsRow w2.heap.size 3 1 ov c ((woF i (us.take j)).map fun y : Nat => Value.int .i64 (y : Int))) ∧ Hid (Below w2.heap.size w2 wr)) (fun _ kv _ => L - (intOf kv).toNat)
   case atStart => exact ⟨0, 0, by omega, rfl, by omega, rfl, OW0, BW0⟩
   case round =>
    clear OW0 BW0
    obtain ⟨j, c, hj, rfl, hcj, hn, O, B⟩ := hrel
    obtain ⟨x0, x1, x2, x3, x4, x5, xl⟩ := (HB.out.below B.out).six
    by_cases hlt : j < L
    ·have hlt' : (j : Int) < L := by omega
     obtain ⟨y, hy⟩ : ∃ y, us[j]? = some y := ⟨_, List.getElem?_eq_getElem (by rw [HL.out]; exact hlt)⟩
     obtain ⟨g, rfl, gl, hg⟩ := HC.out (by omega)
     have cy := (B.out.cell (p := ⟨g, j, none⟩) gl).trans (hg j y hy)
     have tk : us.take (j + 1) = us.take j ++ [y] := by rw [List.take_add_one, hy]; rfl
     by_cases e : y = i
     ·have fl : Hid (woF i (us.take (j + 1)) = woF i (us.take j)) := by
       show _ = _
       rw [tk, wo_app, if_pos e]
      subst e
      clear hy hg tk HC
      go_wp2
      go_roundw
      case rel => exact ⟨j + 1, c, by omega, by go_num, by omega, by rw [fl.out]; exact hn.out, by rw [fl.out]; exact O.out, B⟩
      case measure => simp [intOf]; omega
     ·have e' : ((y : Int) == (i : Int)) = false := by simp; omega
      have e'' : ¬ (y : Int) = (i : Int) := by omega
      have fl : Hid (woF i (us.take (j + 1)) = woF i (us.take j) ++ [y]) := by
       show _ = _
       rw [tk, wo_app, if_neg e]
      have hs := hide B.out.size
      clear hy hg tk HC e
      go_wp2_with (first | (at_builtin; refine wpList_append_own _ rfl _ _ 57 rfl w2.heap.size 3 i0 (.int .i64 0) 1 8 Tryz.underlying57 hi hz0 hz1 hz2 rfl (by decide) _ _ _ rfl (O.out.alloc _) ⟨wr.heap.size, 0, none⟩ 1 1 [.int .i64 (y : Int)] rfl rfl ?c1 ?c2 ?c3 ?c4 ?c5 ?_))
      case c1 =>
       intro j u hj
       match j, hj with
       | 0, hj => simp at hj; subst hj; simp [Addr.add]
      case c2 => intro u hu; simp at hu; subst hu; rfl
      case c3 => unfold maxLen; omega
      case c4 => omega
      case c5 => have := hs.out; simp; omega
      intro v' w5 hown hgrow _
      have B5 := hide (below_grown B.out hs.out O.out hgrow)
      have O5 := hide hown
      clear hown hgrow O x0 x1 x2 x3 x4 x5 B
      go_wp2
      go_roundw
      case rel => exact ⟨j + 1, c + 1, by omega, by go_num, by omega, by rw [fl.out]; show (_ ++ [y]).length = _; rw [List.length_append, hn.out]; rfl, by rw [fl.out, List.map_append]; exact O5.out, B5⟩
      case measure => simp [intOf]; omega
    ·obtain rfl : j = L := by omega
     have hlt' : ¬ (j : Int) < j := by omega
     have ta : us.take j = us := List.take_of_length_le (by rw [HL.out]; exact Nat.le_refl _)
     rw [ta] at hn O
     obtain ⟨q6, cap6, hu6⟩ : ∃ q6 cap6, u6 = .slice q6 c cap6 := by
      rcases O.out.2 with ⟨h1, h2⟩ | ⟨g', cap, cur, h1, _⟩
      ·exact ⟨none, 0, by rw [h1, h2]⟩
      ·exact ⟨_, cap, h1⟩
     subst hu6
     have HBR := HB.out.below B.out
     have xf := HBR.frozen 5
     have hwr := B.out.size
     have OB := hide (World.ownsRow.mono O.out (Nat.le_trans hbase B1.out.size))
     have FIN : Hid (RpAt (wr.setCell ⟨r, 5, none⟩ (.slice q6 c cap6)) base v h l b r N (woF i us)) := by
      refine ⟨.slice q6 c cap6, HBR.put 5 (.slice q6 c cap6), ?_⟩
      rw [hn.out]
      refine ⟨OB.out.1, ?_⟩
      rcases O.out.2 with ⟨h1, h2⟩ | ⟨g', cap, cur, h1, h2, h3, h4⟩
      ·exact Or.inl ⟨h1, h2⟩
      ·refine Or.inr ⟨g', cap, cur, h1, Nat.le_trans (Nat.le_trans hbase B1.out.size) h2, ?_, h4⟩
       rw [Deep.blk_setCell_other _ ⟨r, 5, none⟩ _ g' (by have := yl; show g' ≠ r; omega)]
       exact h3
     have BF : Hid (Below base w (wr.setCell ⟨r, 5, none⟩ (.slice q6 c cap6))) := ((B1.out.mono hbase).trans (B.out.mono (Nat.le_trans hbase B1.out.size))).setCell (p := ⟨r, 5, none⟩) hrb (.slice q6 c cap6)
     have KP : Hid (∀ d cs t, Blk w d cs t → 3 ≠ t → d ≠ r → Blk (wr.setCell ⟨r, 5, none⟩ (.slice q6 c cap6)) d cs t) := fun c cs t hc _ hcr => ((hc.below B1.out).below B.out).far hcr 5 _
     clear HBR O OB hn B HC HB
     go_wp2
     go_ret
     exact ⟨by rw [E1.out]; rfl, FIN.out, BF.out, KP.out⟩
  ·have H1 := hide (rhas06_c (t := false) (decide_eq_false c) (by omega) w1 P1.out)
   have KP : Hid (∀ c cs t, Blk w c cs t → 3 ≠ t → c ≠ r → Blk w1 c cs t) := fun c cs t hc _ _ => hc.below B1.out
   have E1 : Hid (frE (some i) us = 7) := if_neg c
   have E2 : Hid (frU (some i) us = us) := fr_same c
   clear c
   go_wp2_with fail
   refine H1.out.mono ?_
   rintro e w2 ⟨rfl, rfl⟩
   clear H1
   go_wp2
   go_ret
   exact ⟨by rw [E1.out]; rfl, by rw [E2.out]; exact P1.out, B1.out.mono hbase, KP.out⟩

theorem rfree06_c {v s : Bool} {h l b ah al : Int} {base r n m : Nat} {us : List Nat} (hp : IsNum h l n) (ha : IsNum ah al m) (h0 : 0 < szP v n b) (hus : us.length ≤ 1000) (w : World) (hbase : base ≤ w.heap.size) (hrb : base ≤ r) (P : RpAt w base v h l b r (szP v n b) us) :
  Calls Tryz.prog 55 #[.pointer (some ⟨r, 0, none⟩), av s ah al] w fun e w' => e = .returned (.int .i64 (frE (nmP v n b s m) us)) ∧ RpAt w' base v h l b r (szP v n b) (frU (nmP v n b s m) us) ∧ Below base w w' ∧ (∀ c cs t, Blk w c cs t → 3 ≠ t → c ≠ r → Blk w' c cs t) :=
 rfree_any hus w hbase hrb P (fun i e => by have := (nmP_some e).2.2.1; have := szP_le (v := v) (n := n) (b := b); omega) (fun w' P' => rnum06_c hp ha h0 w' P')
end Go.Proofs.YtgbpnekinbdadaaGreatDoor
