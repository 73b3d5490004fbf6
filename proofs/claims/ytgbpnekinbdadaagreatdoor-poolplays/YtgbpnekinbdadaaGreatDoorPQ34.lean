/-
  Texts Ref3e of the proof.
-/
import Derived.Deep.DeepCutAuto
import Derived.Test.YtgbpnekinbdadaaGreatDoorPQ19
import Derived.Test.YtgbpnekinbdadaaGreatDoorPQ32
import Derived.Test.YtgbpnekinbdadaaGreatDoorPQ0

namespace Go.Proofs.YtgbpnekinbdadaaGreatDoor
open Go.ChangeShapes Go.WideShapes Go.ChangeAt Go.RowKit
set_option linter.unusedVariables false
set_option linter.unusedSimpArgs false

/-- So many first bits are alike, and no more. -/
def AlikeIs (W : Nat) (f g : Nat → Nat) (k : Nat) : Prop := k ≤ W ∧ (∀ i, i < k → f i = g i) ∧ (k < W → f k ≠ g k)

/-- Two cells that are read. -/
def AL2 (x y o : Nat) (q r : Int) (wx : World) : Prop := wx.cell? ⟨x, o, none⟩ = some (.int .i64 q) ∧ wx.cell? ⟨y, o, none⟩ = some (.int .i64 r)

theorem AL2.drew {x y o : Nat} {q r : Int} {wx : World} (s : AL2 x y o q r wx) : AL2 x y o q r wx.drew := s

set_option maxRecDepth 100000 in
set_option maxHeartbeats 1600000 in
theorem alike_32 (x y c d : Nat) (f g : Nat → Nat) (w : World) (hx : Rw w x 32 f) (hy : Rw w y 32 g) :
  Calls Tryz.prog 134 #[.slice (some ⟨x, 0, none⟩) 32 c, .slice (some ⟨y, 0, none⟩) 32 d] w fun e w' => ∃ k : Nat, e = .returned (.int .i64 (k : Nat)) ∧ AlikeIs 32 f g k ∧ Below w.heap.size w w' := by
 go_enter Tryz.func134, Tryz.ntmps134
 go_wp2_with fail
 go_loopw [5] (fun i wr => ∃ (m : Nat) (M : Int), m ≤ 32 ∧ i = .int .i64 M ∧ Hid (M = (m : Nat)) ∧ 0 ≤ M ∧ M ≤ 32 ∧ Hid (∀ i, i < m → f i = g i) ∧ Rw wr x 32 f ∧ Rw wr y 32 g ∧ Below w.heap.size w wr) (fun i _ => 32 - (intOf i).toNat)
 case atStart => exact ⟨0, 0, by omega, rfl, rfl, by omega, by omega, fun i h => by omega, hx, hy, by repeat (first | with_reducible exact Below.refl _ _ | with_reducible refine Below.drew ?_ | with_reducible refine Below.alloc ?_ (by first | omega | (simp <;> omega)) _ | with_reducible refine Below.setCell ?_ (by first | omega | (simp <;> omega)) _)⟩
 case round =>
  clear hx hy
  obtain ⟨m, M, hm, rfl, hM, M0, M1, hall, hx, hy, hB⟩ := hrel
  have hM' := hM.out
  by_cases hlt : m < 32
  ·have Ml : M < 32 := by omega
   have MN : M.toNat = m := by omega
   have c1 := hx.2.1 M.toNat (by omega)
   have c2 := hy.2.1 M.toNat (by omega)
   obtain ⟨q, hq⟩ : ∃ q : Int, q = ((f M.toNat : Nat) : Int) := ⟨_, rfl⟩
   obtain ⟨r, hr⟩ : ∃ r : Int, r = ((g M.toNat : Nat) : Int) := ⟨_, rfl⟩
   rw [← hq] at c1
   rw [← hr] at c2
   have S0 : AL2 x y M.toNat q r wr := ⟨c1, c2⟩
   have hqr : f m = g m ↔ q = r := by rw [hq, hr, MN]; omega
   clear c1 c2 hq hr
   by_cases hfg : q = r
   ·have up : Hid (∀ i, i < m + 1 → f i = g i) := fun i hi => by
     by_cases e : i = m
     ·subst e; exact hqr.2 hfg
     ·exact hall.out i (by omega)
    subst hfg
    clear hqr hall hM' MN
    go_wp2_with fail
    refine wp_region_held_drew (S := (AL2 x y M.toNat q q)) (by kernel_rfl) ?hS100 (fun hHeld => ?rest100)
    case hS100 => with_reducible exact S0.drew
    refine w8 0 ?_ (ga7 rfl) (by kernel_rfl) (fun _ _ _ h => h) ⟨by rfl, ?y101⟩ hHeld ?_
    case y101 => (intro wq hSw; (try simp only [Two, AL2] at hSw); go_simp; try with_reducible rfl)
    try simp only [Act.put, a7, b7, c7]
    refine w8 1 ?_ (ga7 rfl) (by kernel_rfl) (fun _ _ _ h => h) ⟨by rfl, ?y102⟩ hHeld ?_
    case y102 => (intro wq hSw; (try simp only [Two, AL2] at hSw); go_simp; try with_reducible rfl)
    try simp only [Act.put, a7, b7, c7]
    refine w8 2 ?_ (ga7 rfl) (by kernel_rfl) (fun _ _ _ h => h) ⟨by rfl, ?y103⟩ hHeld ?_
    case y103 => (intro wq hSw; (try simp only [Two, AL2] at hSw); go_simp; try with_reducible rfl)
    try simp only [Act.put, a7, b7, c7]
    refine w8 3 ?_ (ga7 rfl) (by kernel_rfl) (fun _ _ _ h => h) ⟨by rfl, ?y104⟩ hHeld ?_
    case y104 => (intro wq hSw; (try simp only [Two, AL2] at hSw); go_simp; try with_reducible rfl)
    try simp only [Act.put, a7, b7, c7]
    refine w8 4 ?_ (ga7 rfl) (by kernel_rfl) (fun _ _ _ h => h) ⟨by rfl, ?y105⟩ hHeld ?_
    case y105 => (intro wq hSw; (try simp only [Two, AL2] at hSw); go_simp; try with_reducible rfl)
    try simp only [Act.put, a7, b7, c7]
    refine w8 5 ?_ (ga7 rfl) (by kernel_rfl) (fun _ _ _ h => h) ⟨by rfl, ?y106⟩ hHeld ?_
    case y106 => (intro wq hSw; (try simp only [Two, AL2] at hSw); go_simp; try with_reducible rfl)
    try simp only [Act.put, a7, b7, c7]
    refine w8 6 ?_ (ga7 rfl) (by kernel_rfl) (fun _ _ _ h => h) ⟨by rfl, ?y107⟩ hHeld ?_
    case y107 => (intro wq hSw; (try simp only [Two, AL2] at hSw); go_simp; try with_reducible rfl)
    try simp only [Act.put, a7, b7, c7]
    refine w8 7 ?_ (ga7 rfl) (by kernel_rfl) (fun _ _ _ h => h) ⟨by rfl, ?y108⟩ hHeld ?_
    case y108 => (intro wq hSw; (try simp only [Two, AL2] at hSw); go_simp; try with_reducible rfl)
    try simp only [Act.put, a7, b7, c7]
    refine w8 8 ?_ (ga7 rfl) (by kernel_rfl) (fun _ _ _ h => h) ⟨by rfl, ?y109⟩ hHeld ?_
    case y109 => (intro wq hSw; (try simp only [Two, AL2] at hSw); go_simp; try with_reducible rfl)
    try simp only [Act.put, a7, b7, c7]
    refine w8 9 ?_ (ga7 rfl) (by kernel_rfl) (fun _ _ _ h => h) ⟨by rfl, ?y110⟩ hHeld ?_
    case y110 => (intro wq hSw; (try simp only [Two, AL2] at hSw); go_simp; try with_reducible rfl)
    try simp only [Act.put, a7, b7, c7]
    refine w8 10 ?_ (ga7 rfl) (by kernel_rfl) (fun _ _ _ h => h) ⟨by rfl, ?y111⟩ hHeld ?_
    case y111 => (intro wq hSw; (try simp only [Two, AL2] at hSw); go_simp; try with_reducible rfl)
    try simp only [Act.put, a7, b7, c7]
    refine w8 11 ?_ (ga7 rfl) (by kernel_rfl) (fun _ _ _ h => h) ⟨by rfl, ?y112⟩ hHeld ?_
    case y112 => (intro wq hSw; (try simp only [Two, AL2] at hSw); go_simp; try with_reducible rfl)
    try simp only [Act.put, a7, b7, c7]
    refine w8 12 ?_ (ga7 rfl) (by kernel_rfl) (fun _ _ _ h => h) ⟨by rfl, ?y113⟩ hHeld ?_
    case y113 => (intro wq hSw; (try simp only [Two, AL2] at hSw); go_simp; try with_reducible rfl)
    try simp only [Act.put, a7, b7, c7]
    refine w8 13 ?_ (ga7 rfl) (by kernel_rfl) (fun _ _ _ h => h) ⟨by rfl, ?y114⟩ hHeld ?_
    case y114 => (intro wq hSw; (try simp only [Two, AL2] at hSw); go_simp; try with_reducible rfl)
    try simp only [Act.put, a7, b7, c7]
    refine w8 14 ?_ (ga7 rfl) (by kernel_rfl) (fun _ _ _ h => h) ⟨by rfl, ?y115⟩ hHeld ?_
    case y115 => (intro wq hSw; (try simp only [Two, AL2] at hSw); go_simp; try with_reducible rfl)
    try simp only [Act.put, a7, b7, c7]
    refine w8 15 ?_ (ga7 rfl) (by kernel_rfl) (fun _ _ _ h => h) ⟨by rfl, ?y116⟩ hHeld ?_
    case y116 => (intro wq hSw; (try simp only [Two, AL2] at hSw); go_simp; try with_reducible rfl)
    try simp only [Act.put, a7, b7, c7]
    refine w8 16 ?_ (ga7 rfl) (by kernel_rfl) (fun _ _ _ h => h) ⟨by rfl, ?y117⟩ hHeld ?_
    case y117 => (intro wq hSw; (try simp only [Two, AL2] at hSw); go_simp; try with_reducible rfl)
    try simp only [Act.put, a7, b7, c7]
    refine w8 17 ?_ (ga7 rfl) (by kernel_rfl) (fun _ _ _ h => h) ⟨by rfl, ?y118⟩ hHeld ?_
    case y118 => (intro wq hSw; (try simp only [Two, AL2] at hSw); go_simp; try with_reducible rfl)
    try simp only [Act.put, a7, b7, c7]
    refine w8 18 ?_ (ga7 rfl) (by kernel_rfl) (fun _ _ _ h => h) ⟨by rfl, ?y119⟩ hHeld ?_
    case y119 => (intro wq hSw; (try simp only [Two, AL2] at hSw); go_simp; try with_reducible rfl)
    try simp only [Act.put, a7, b7, c7]
    refine w8 19 ?_ (ga7 rfl) (by kernel_rfl) (fun _ _ _ h => h) ⟨by rfl, ?y120⟩ hHeld ?_
    case y120 => (intro wq hSw; (try simp only [Two, AL2] at hSw); go_simp; try with_reducible rfl)
    try simp only [Act.put, a7, b7, c7]
    refine w8 20 ?_ (ga7 rfl) (by kernel_rfl) (fun _ _ _ h => h) ⟨by rfl, ?y121⟩ hHeld ?_
    case y121 => (intro wq hSw; (try simp only [Two, AL2] at hSw); go_simp; try with_reducible rfl)
    try simp only [Act.put, a7, b7, c7]
    refine wpAnyH_done (by kernel_rfl) ?fin100 _
    go_wp2
    go_roundw
    case measure => simp [intOf]; omega
    case rel => exact ⟨m + 1, M + 1, by omega, rfl, by show _ = _; have := hM.out; omega, by omega, by omega, up, hx, hy, by repeat (first | with_reducible exact Below.refl _ _ | with_reducible refine Below.drew ?_ | with_reducible refine Below.alloc ?_ (by first | omega | (simp <;> omega)) _ | with_reducible refine Below.setCell ?_ (by first | omega | (simp <;> omega)) _ | with_reducible refine Below.trans ?_ (Below.mono hB (by first | omega | (simp <;> omega))))⟩
   ·have hne : Hid (f m ≠ g m) := fun c => hfg (hqr.1 c)
    have hfg' : (q == r) = false := by simpa using hfg
    have hfg2 : decide (q = r) = false := decide_eq_false hfg
    clear hqr hM' MN
    go_wp2_with fail
    refine wp_region_held_drew (S := (AL2 x y M.toNat q r)) (by kernel_rfl) ?hS200 (fun hHeld => ?rest200)
    case hS200 => with_reducible exact S0.drew
    refine w8 0 ?_ (ga7 rfl) (by kernel_rfl) (fun _ _ _ h => h) ⟨by rfl, ?y201⟩ hHeld ?_
    case y201 => (intro wq hSw; (try simp only [Two, AL2] at hSw); go_simp; try with_reducible rfl)
    try simp only [Act.put, a7, b7, c7]
    refine w8 1 ?_ (ga7 rfl) (by kernel_rfl) (fun _ _ _ h => h) ⟨by rfl, ?y202⟩ hHeld ?_
    case y202 => (intro wq hSw; (try simp only [Two, AL2] at hSw); go_simp; try with_reducible rfl)
    try simp only [Act.put, a7, b7, c7]
    refine w8 2 ?_ (ga7 rfl) (by kernel_rfl) (fun _ _ _ h => h) ⟨by rfl, ?y203⟩ hHeld ?_
    case y203 => (intro wq hSw; (try simp only [Two, AL2] at hSw); go_simp; try with_reducible rfl)
    try simp only [Act.put, a7, b7, c7]
    refine w8 3 ?_ (ga7 rfl) (by kernel_rfl) (fun _ _ _ h => h) ⟨by rfl, ?y204⟩ hHeld ?_
    case y204 => (intro wq hSw; (try simp only [Two, AL2] at hSw); go_simp; try with_reducible rfl)
    try simp only [Act.put, a7, b7, c7]
    refine w8 4 ?_ (ga7 rfl) (by kernel_rfl) (fun _ _ _ h => h) ⟨by rfl, ?y205⟩ hHeld ?_
    case y205 => (intro wq hSw; (try simp only [Two, AL2] at hSw); go_simp; try with_reducible rfl)
    try simp only [Act.put, a7, b7, c7]
    refine w8 5 ?_ (ga7 rfl) (by kernel_rfl) (fun _ _ _ h => h) ⟨by rfl, ?y206⟩ hHeld ?_
    case y206 => (intro wq hSw; (try simp only [Two, AL2] at hSw); go_simp; try with_reducible rfl)
    try simp only [Act.put, a7, b7, c7]
    refine w8 6 ?_ (ga7 rfl) (by kernel_rfl) (fun _ _ _ h => h) ⟨by rfl, ?y207⟩ hHeld ?_
    case y207 => (intro wq hSw; (try simp only [Two, AL2] at hSw); go_simp; try with_reducible rfl)
    try simp only [Act.put, a7, b7, c7]
    refine w8 7 ?_ (ga7 rfl) (by kernel_rfl) (fun _ _ _ h => h) ⟨by rfl, ?y208⟩ hHeld ?_
    case y208 => (intro wq hSw; (try simp only [Two, AL2] at hSw); go_simp; try with_reducible rfl)
    try simp only [Act.put, a7, b7, c7]
    refine w8 8 ?_ (ga7 rfl) (by kernel_rfl) (fun _ _ _ h => h) ⟨by rfl, ?y209⟩ hHeld ?_
    case y209 => (intro wq hSw; (try simp only [Two, AL2] at hSw); go_simp; try with_reducible rfl)
    try simp only [Act.put, a7, b7, c7]
    refine w8 9 ?_ (ga7 rfl) (by kernel_rfl) (fun _ _ _ h => h) ⟨by rfl, ?y210⟩ hHeld ?_
    case y210 => (intro wq hSw; (try simp only [Two, AL2] at hSw); go_simp; try with_reducible rfl)
    try simp only [Act.put, a7, b7, c7]
    refine w8 10 ?_ (ga7 rfl) (by kernel_rfl) (fun _ _ _ h => h) ⟨by rfl, ?y211⟩ hHeld ?_
    case y211 => (intro wq hSw; (try simp only [Two, AL2] at hSw); go_simp; try with_reducible rfl)
    try simp only [Act.put, a7, b7, c7]
    refine w8 11 ?_ (ga7 rfl) (by kernel_rfl) (fun _ _ _ h => h) ⟨by rfl, ?y212⟩ hHeld ?_
    case y212 => (intro wq hSw; (try simp only [Two, AL2] at hSw); go_simp; try with_reducible rfl)
    try simp only [Act.put, a7, b7, c7]
    refine w8 12 ?_ (ga7 rfl) (by kernel_rfl) (fun _ _ _ h => h) ⟨by rfl, ?y213⟩ hHeld ?_
    case y213 => (intro wq hSw; (try simp only [Two, AL2] at hSw); go_simp; try with_reducible rfl)
    try simp only [Act.put, a7, b7, c7]
    refine w8 13 ?_ (ga7 rfl) (by kernel_rfl) (fun _ _ _ h => h) ⟨by rfl, ?y214⟩ hHeld ?_
    case y214 => (intro wq hSw; (try simp only [Two, AL2] at hSw); go_simp; try with_reducible rfl)
    try simp only [Act.put, a7, b7, c7]
    refine w8 14 ?_ (ga7 rfl) (by kernel_rfl) (fun _ _ _ h => h) ⟨by rfl, ?y215⟩ hHeld ?_
    case y215 => (intro wq hSw; (try simp only [Two, AL2] at hSw); go_simp; try with_reducible rfl)
    try simp only [Act.put, a7, b7, c7]
    refine w8 15 ?_ (ga7 rfl) (by kernel_rfl) (fun _ _ _ h => h) ⟨by rfl, ?y216⟩ hHeld ?_
    case y216 => (intro wq hSw; (try simp only [Two, AL2] at hSw); go_simp; try with_reducible rfl)
    try simp only [Act.put, a7, b7, c7]
    refine w8 16 ?_ (ga7 rfl) (by kernel_rfl) (fun _ _ _ h => h) ⟨by rfl, ?y217⟩ hHeld ?_
    case y217 => (intro wq hSw; (try simp only [Two, AL2] at hSw); go_simp; try with_reducible rfl)
    try simp only [Act.put, a7, b7, c7]
    refine w8 17 ?_ (ga7 rfl) (by kernel_rfl) (fun _ _ _ h => h) ⟨by rfl, ?y218⟩ hHeld ?_
    case y218 => (intro wq hSw; (try simp only [Two, AL2] at hSw); go_simp; try with_reducible rfl)
    try simp only [Act.put, a7, b7, c7]
    refine w8 18 ?_ (ga7 rfl) (by kernel_rfl) (fun _ _ _ h => h) ⟨by rfl, ?y219⟩ hHeld ?_
    case y219 => (intro wq hSw; (try simp only [Two, AL2] at hSw); go_simp; try with_reducible rfl)
    try simp only [Act.put, a7, b7, c7]
    refine w8 19 ?_ (ga7 rfl) (by kernel_rfl) (fun _ _ _ h => h) ⟨by rfl, ?y220⟩ hHeld ?_
    case y220 => (intro wq hSw; (try simp only [Two, AL2] at hSw); go_simp; try with_reducible rfl)
    try simp only [Act.put, a7, b7, c7]
    refine w8 20 ?_ (ga7 rfl) (by kernel_rfl) (fun _ _ _ h => h) ⟨by rfl, ?y221⟩ hHeld ?_
    case y221 => (intro wq hSw; (try simp only [Two, AL2] at hSw); go_simp; try with_reducible rfl)
    try simp only [Act.put, a7, b7, c7]
    refine wpAnyH_done (by kernel_rfl) ?fin200 _
    go_wp2
    go_ret
    exact ⟨m, by rw [← hM.out]; rfl, ⟨by omega, hall.out, fun _ => hne.out⟩, by repeat (first | with_reducible exact Below.refl _ _ | with_reducible refine Below.drew ?_ | with_reducible refine Below.alloc ?_ (by first | omega | (simp <;> omega)) _ | with_reducible refine Below.setCell ?_ (by first | omega | (simp <;> omega)) _ | with_reducible refine Below.trans ?_ (Below.mono hB (by first | omega | (simp <;> omega))))⟩
  ·obtain rfl : m = 32 := by omega
   obtain rfl : M = 32 := by omega
   have S0 : AL2 x y 0 0 0 wr ∨ True := Or.inr trivial
   clear hM hM'
   go_wp2_with fail
   refine wp_region_held_drew (S := (fun _ => True)) (by kernel_rfl) ?hS300 (fun hHeld => ?rest300)
   case hS300 => (first | trivial)
   refine w8 0 ?_ (ga7 rfl) (by kernel_rfl) (fun _ _ _ h => h) ⟨by rfl, ?y301⟩ hHeld ?_
   case y301 => (intro wq hSw; (try simp only [Two] at hSw); go_simp; try with_reducible rfl)
   try simp only [Act.put, a7, b7, c7]
   refine w8 1 ?_ (ga7 rfl) (by kernel_rfl) (fun _ _ _ h => h) ⟨by rfl, ?y302⟩ hHeld ?_
   case y302 => (intro wq hSw; (try simp only [Two] at hSw); go_simp; try with_reducible rfl)
   try simp only [Act.put, a7, b7, c7]
   refine w8 2 ?_ (ga7 rfl) (by kernel_rfl) (fun _ _ _ h => h) ⟨by rfl, ?y303⟩ hHeld ?_
   case y303 => (intro wq hSw; (try simp only [Two] at hSw); go_simp; try with_reducible rfl)
   try simp only [Act.put, a7, b7, c7]
   refine w8 3 ?_ (ga7 rfl) (by kernel_rfl) (fun _ _ _ h => h) ⟨by rfl, ?y304⟩ hHeld ?_
   case y304 => (intro wq hSw; (try simp only [Two] at hSw); go_simp; try with_reducible rfl)
   try simp only [Act.put, a7, b7, c7]
   refine w8 4 ?_ (ga7 rfl) (by kernel_rfl) (fun _ _ _ h => h) ⟨by rfl, ?y305⟩ hHeld ?_
   case y305 => (intro wq hSw; (try simp only [Two] at hSw); go_simp; try with_reducible rfl)
   try simp only [Act.put, a7, b7, c7]
   refine wpAnyH_take (i := 5) (oi := _) (v := undef) (ga7 rfl) (by kernel_rfl) (by kernel_rfl) (by kernel_rfl) (fun _ _ _ h => h) (Or.inr ⟨by rfl, rfl⟩) (by assumption) ?rest306
   try simp only [Act.put, a7, b7, c7]
   refine wpAnyH_take (i := 6) (oi := _) (v := undef) (ga7 rfl) (by kernel_rfl) (by kernel_rfl) (by kernel_rfl) (fun _ _ _ h => h) (Or.inr ⟨by rfl, rfl⟩) (by assumption) ?rest307
   try simp only [Act.put, a7, b7, c7]
   refine wpAnyH_take (i := 7) (oi := _) (v := undef) (ga7 rfl) (by kernel_rfl) (by kernel_rfl) (by kernel_rfl) (fun _ _ _ h => h) (Or.inr ⟨by rfl, rfl⟩) (by assumption) ?rest308
   try simp only [Act.put, a7, b7, c7]
   refine wpAnyH_take (i := 8) (oi := _) (v := undef) (ga7 rfl) (by kernel_rfl) (by kernel_rfl) (by kernel_rfl) (fun _ _ _ h => h) (Or.inr ⟨by rfl, rfl⟩) (by assumption) ?rest309
   try simp only [Act.put, a7, b7, c7]
   refine w8 9 ?_ (ga7 rfl) (by kernel_rfl) (fun _ _ _ h => h) ⟨by rfl, ?y310⟩ hHeld ?_
   case y310 => (intro wq hSw; (try simp only [Two] at hSw); go_simp; try with_reducible rfl)
   try simp only [Act.put, a7, b7, c7]
   refine w8 10 ?_ (ga7 rfl) (by kernel_rfl) (fun _ _ _ h => h) ⟨by rfl, ?y311⟩ hHeld ?_
   case y311 => (intro wq hSw; (try simp only [Two] at hSw); go_simp; try with_reducible rfl)
   try simp only [Act.put, a7, b7, c7]
   refine wpAnyH_take (i := 11) (oi := _) (v := undef) (ga7 rfl) (by kernel_rfl) (by kernel_rfl) (by kernel_rfl) (fun _ _ _ h => h) (Or.inr ⟨by rfl, rfl⟩) (by assumption) ?rest312
   try simp only [Act.put, a7, b7, c7]
   refine wpAnyH_take (i := 12) (oi := _) (v := undef) (ga7 rfl) (by kernel_rfl) (by kernel_rfl) (by kernel_rfl) (fun _ _ _ h => h) (Or.inr ⟨by rfl, rfl⟩) (by assumption) ?rest313
   try simp only [Act.put, a7, b7, c7]
   refine wpAnyH_take (i := 13) (oi := _) (v := undef) (ga7 rfl) (by kernel_rfl) (by kernel_rfl) (by kernel_rfl) (fun _ _ _ h => h) (Or.inr ⟨by rfl, rfl⟩) (by assumption) ?rest314
   try simp only [Act.put, a7, b7, c7]
   refine wpAnyH_take (i := 14) (oi := _) (v := undef) (ga7 rfl) (by kernel_rfl) (by kernel_rfl) (by kernel_rfl) (fun _ _ _ h => h) (Or.inr ⟨by rfl, rfl⟩) (by assumption) ?rest315
   try simp only [Act.put, a7, b7, c7]
   refine wpAnyH_take (i := 15) (oi := _) (v := undef) (ga7 rfl) (by kernel_rfl) (by kernel_rfl) (by kernel_rfl) (fun _ _ _ h => h) (Or.inr ⟨by rfl, rfl⟩) (by assumption) ?rest316
   try simp only [Act.put, a7, b7, c7]
   refine wpAnyH_take (i := 16) (oi := _) (v := undef) (ga7 rfl) (by kernel_rfl) (by kernel_rfl) (by kernel_rfl) (fun _ _ _ h => h) (Or.inr ⟨by rfl, rfl⟩) (by assumption) ?rest317
   try simp only [Act.put, a7, b7, c7]
   refine wpAnyH_take (i := 17) (oi := _) (v := undef) (ga7 rfl) (by kernel_rfl) (by kernel_rfl) (by kernel_rfl) (fun _ _ _ h => h) (Or.inr ⟨by rfl, rfl⟩) (by assumption) ?rest318
   try simp only [Act.put, a7, b7, c7]
   refine wpAnyH_take (i := 18) (oi := _) (v := undef) (ga7 rfl) (by kernel_rfl) (by kernel_rfl) (by kernel_rfl) (fun _ _ _ h => h) (Or.inr ⟨by rfl, rfl⟩) (by assumption) ?rest319
   try simp only [Act.put, a7, b7, c7]
   refine wpAnyH_take (i := 19) (oi := _) (v := undef) (ga7 rfl) (by kernel_rfl) (by kernel_rfl) (by kernel_rfl) (fun _ _ _ h => h) (Or.inr ⟨by rfl, rfl⟩) (by assumption) ?rest320
   try simp only [Act.put, a7, b7, c7]
   refine w8 20 ?_ (ga7 rfl) (by kernel_rfl) (fun _ _ _ h => h) ⟨by rfl, ?y321⟩ hHeld ?_
   case y321 => (intro wq hSw; (try simp only [Two] at hSw); go_simp; try with_reducible rfl)
   try simp only [Act.put, a7, b7, c7]
   refine wpAnyH_done (by kernel_rfl) ?fin300 _
   go_wp2
   go_ret
   exact ⟨32, rfl, ⟨by omega, hall.out, fun h => by omega⟩, by repeat (first | with_reducible exact Below.refl _ _ | with_reducible refine Below.drew ?_ | with_reducible refine Below.alloc ?_ (by first | omega | (simp <;> omega)) _ | with_reducible refine Below.setCell ?_ (by first | omega | (simp <;> omega)) _ | with_reducible refine Below.trans ?_ (Below.mono hB (by first | omega | (simp <;> omega))))⟩

set_option maxRecDepth 100000 in
set_option maxHeartbeats 1600000 in
theorem alike_128 (x y c d : Nat) (f g : Nat → Nat) (w : World) (hx : Rw w x 128 f) (hy : Rw w y 128 g) :
  Calls Tryz.prog 134 #[.slice (some ⟨x, 0, none⟩) 128 c, .slice (some ⟨y, 0, none⟩) 128 d] w fun e w' => ∃ k : Nat, e = .returned (.int .i64 (k : Nat)) ∧ AlikeIs 128 f g k ∧ Below w.heap.size w w' := by
 go_enter Tryz.func134, Tryz.ntmps134
 go_wp2_with fail
 go_loopw [5] (fun i wr => ∃ (m : Nat) (M : Int), m ≤ 128 ∧ i = .int .i64 M ∧ Hid (M = (m : Nat)) ∧ 0 ≤ M ∧ M ≤ 128 ∧ Hid (∀ i, i < m → f i = g i) ∧ Rw wr x 128 f ∧ Rw wr y 128 g ∧ Below w.heap.size w wr) (fun i _ => 128 - (intOf i).toNat)
 case atStart => exact ⟨0, 0, by omega, rfl, rfl, by omega, by omega, fun i h => by omega, hx, hy, by repeat (first | with_reducible exact Below.refl _ _ | with_reducible refine Below.drew ?_ | with_reducible refine Below.alloc ?_ (by first | omega | (simp <;> omega)) _ | with_reducible refine Below.setCell ?_ (by first | omega | (simp <;> omega)) _)⟩
 case round =>
  clear hx hy
  obtain ⟨m, M, hm, rfl, hM, M0, M1, hall, hx, hy, hB⟩ := hrel
  have hM' := hM.out
  by_cases hlt : m < 128
  ·have Ml : M < 128 := by omega
   have MN : M.toNat = m := by omega
   have c1 := hx.2.1 M.toNat (by omega)
   have c2 := hy.2.1 M.toNat (by omega)
   obtain ⟨q, hq⟩ : ∃ q : Int, q = ((f M.toNat : Nat) : Int) := ⟨_, rfl⟩
   obtain ⟨r, hr⟩ : ∃ r : Int, r = ((g M.toNat : Nat) : Int) := ⟨_, rfl⟩
   rw [← hq] at c1
   rw [← hr] at c2
   have S0 : AL2 x y M.toNat q r wr := ⟨c1, c2⟩
   have hqr : f m = g m ↔ q = r := by rw [hq, hr, MN]; omega
   clear c1 c2 hq hr
   by_cases hfg : q = r
   ·have up : Hid (∀ i, i < m + 1 → f i = g i) := fun i hi => by
     by_cases e : i = m
     ·subst e; exact hqr.2 hfg
     ·exact hall.out i (by omega)
    subst hfg
    clear hqr hall hM' MN
    go_wp2_with fail
    refine wp_region_held_drew (S := (AL2 x y M.toNat q q)) (by kernel_rfl) ?hS400 (fun hHeld => ?rest400)
    case hS400 => with_reducible exact S0.drew
    refine w8 0 ?_ (ga7 rfl) (by kernel_rfl) (fun _ _ _ h => h) ⟨by rfl, ?y401⟩ hHeld ?_
    case y401 => (intro wq hSw; (try simp only [Two, AL2] at hSw); go_simp; try with_reducible rfl)
    try simp only [Act.put, a7, b7, c7]
    refine w8 1 ?_ (ga7 rfl) (by kernel_rfl) (fun _ _ _ h => h) ⟨by rfl, ?y402⟩ hHeld ?_
    case y402 => (intro wq hSw; (try simp only [Two, AL2] at hSw); go_simp; try with_reducible rfl)
    try simp only [Act.put, a7, b7, c7]
    refine w8 2 ?_ (ga7 rfl) (by kernel_rfl) (fun _ _ _ h => h) ⟨by rfl, ?y403⟩ hHeld ?_
    case y403 => (intro wq hSw; (try simp only [Two, AL2] at hSw); go_simp; try with_reducible rfl)
    try simp only [Act.put, a7, b7, c7]
    refine w8 3 ?_ (ga7 rfl) (by kernel_rfl) (fun _ _ _ h => h) ⟨by rfl, ?y404⟩ hHeld ?_
    case y404 => (intro wq hSw; (try simp only [Two, AL2] at hSw); go_simp; try with_reducible rfl)
    try simp only [Act.put, a7, b7, c7]
    refine w8 4 ?_ (ga7 rfl) (by kernel_rfl) (fun _ _ _ h => h) ⟨by rfl, ?y405⟩ hHeld ?_
    case y405 => (intro wq hSw; (try simp only [Two, AL2] at hSw); go_simp; try with_reducible rfl)
    try simp only [Act.put, a7, b7, c7]
    refine w8 5 ?_ (ga7 rfl) (by kernel_rfl) (fun _ _ _ h => h) ⟨by rfl, ?y406⟩ hHeld ?_
    case y406 => (intro wq hSw; (try simp only [Two, AL2] at hSw); go_simp; try with_reducible rfl)
    try simp only [Act.put, a7, b7, c7]
    refine w8 6 ?_ (ga7 rfl) (by kernel_rfl) (fun _ _ _ h => h) ⟨by rfl, ?y407⟩ hHeld ?_
    case y407 => (intro wq hSw; (try simp only [Two, AL2] at hSw); go_simp; try with_reducible rfl)
    try simp only [Act.put, a7, b7, c7]
    refine w8 7 ?_ (ga7 rfl) (by kernel_rfl) (fun _ _ _ h => h) ⟨by rfl, ?y408⟩ hHeld ?_
    case y408 => (intro wq hSw; (try simp only [Two, AL2] at hSw); go_simp; try with_reducible rfl)
    try simp only [Act.put, a7, b7, c7]
    refine w8 8 ?_ (ga7 rfl) (by kernel_rfl) (fun _ _ _ h => h) ⟨by rfl, ?y409⟩ hHeld ?_
    case y409 => (intro wq hSw; (try simp only [Two, AL2] at hSw); go_simp; try with_reducible rfl)
    try simp only [Act.put, a7, b7, c7]
    refine w8 9 ?_ (ga7 rfl) (by kernel_rfl) (fun _ _ _ h => h) ⟨by rfl, ?y410⟩ hHeld ?_
    case y410 => (intro wq hSw; (try simp only [Two, AL2] at hSw); go_simp; try with_reducible rfl)
    try simp only [Act.put, a7, b7, c7]
    refine w8 10 ?_ (ga7 rfl) (by kernel_rfl) (fun _ _ _ h => h) ⟨by rfl, ?y411⟩ hHeld ?_
    case y411 => (intro wq hSw; (try simp only [Two, AL2] at hSw); go_simp; try with_reducible rfl)
    try simp only [Act.put, a7, b7, c7]
    refine w8 11 ?_ (ga7 rfl) (by kernel_rfl) (fun _ _ _ h => h) ⟨by rfl, ?y412⟩ hHeld ?_
    case y412 => (intro wq hSw; (try simp only [Two, AL2] at hSw); go_simp; try with_reducible rfl)
    try simp only [Act.put, a7, b7, c7]
    refine w8 12 ?_ (ga7 rfl) (by kernel_rfl) (fun _ _ _ h => h) ⟨by rfl, ?y413⟩ hHeld ?_
    case y413 => (intro wq hSw; (try simp only [Two, AL2] at hSw); go_simp; try with_reducible rfl)
    try simp only [Act.put, a7, b7, c7]
    refine w8 13 ?_ (ga7 rfl) (by kernel_rfl) (fun _ _ _ h => h) ⟨by rfl, ?y414⟩ hHeld ?_
    case y414 => (intro wq hSw; (try simp only [Two, AL2] at hSw); go_simp; try with_reducible rfl)
    try simp only [Act.put, a7, b7, c7]
    refine w8 14 ?_ (ga7 rfl) (by kernel_rfl) (fun _ _ _ h => h) ⟨by rfl, ?y415⟩ hHeld ?_
    case y415 => (intro wq hSw; (try simp only [Two, AL2] at hSw); go_simp; try with_reducible rfl)
    try simp only [Act.put, a7, b7, c7]
    refine w8 15 ?_ (ga7 rfl) (by kernel_rfl) (fun _ _ _ h => h) ⟨by rfl, ?y416⟩ hHeld ?_
    case y416 => (intro wq hSw; (try simp only [Two, AL2] at hSw); go_simp; try with_reducible rfl)
    try simp only [Act.put, a7, b7, c7]
    refine w8 16 ?_ (ga7 rfl) (by kernel_rfl) (fun _ _ _ h => h) ⟨by rfl, ?y417⟩ hHeld ?_
    case y417 => (intro wq hSw; (try simp only [Two, AL2] at hSw); go_simp; try with_reducible rfl)
    try simp only [Act.put, a7, b7, c7]
    refine w8 17 ?_ (ga7 rfl) (by kernel_rfl) (fun _ _ _ h => h) ⟨by rfl, ?y418⟩ hHeld ?_
    case y418 => (intro wq hSw; (try simp only [Two, AL2] at hSw); go_simp; try with_reducible rfl)
    try simp only [Act.put, a7, b7, c7]
    refine w8 18 ?_ (ga7 rfl) (by kernel_rfl) (fun _ _ _ h => h) ⟨by rfl, ?y419⟩ hHeld ?_
    case y419 => (intro wq hSw; (try simp only [Two, AL2] at hSw); go_simp; try with_reducible rfl)
    try simp only [Act.put, a7, b7, c7]
    refine w8 19 ?_ (ga7 rfl) (by kernel_rfl) (fun _ _ _ h => h) ⟨by rfl, ?y420⟩ hHeld ?_
    case y420 => (intro wq hSw; (try simp only [Two, AL2] at hSw); go_simp; try with_reducible rfl)
    try simp only [Act.put, a7, b7, c7]
    refine w8 20 ?_ (ga7 rfl) (by kernel_rfl) (fun _ _ _ h => h) ⟨by rfl, ?y421⟩ hHeld ?_
    case y421 => (intro wq hSw; (try simp only [Two, AL2] at hSw); go_simp; try with_reducible rfl)
    try simp only [Act.put, a7, b7, c7]
    refine wpAnyH_done (by kernel_rfl) ?fin400 _
    go_wp2
    go_roundw
    case measure => simp [intOf]; omega
    case rel => exact ⟨m + 1, M + 1, by omega, rfl, by show _ = _; have := hM.out; omega, by omega, by omega, up, hx, hy, by repeat (first | with_reducible exact Below.refl _ _ | with_reducible refine Below.drew ?_ | with_reducible refine Below.alloc ?_ (by first | omega | (simp <;> omega)) _ | with_reducible refine Below.setCell ?_ (by first | omega | (simp <;> omega)) _ | with_reducible refine Below.trans ?_ (Below.mono hB (by first | omega | (simp <;> omega))))⟩
   ·have hne : Hid (f m ≠ g m) := fun c => hfg (hqr.1 c)
    have hfg' : (q == r) = false := by simpa using hfg
    have hfg2 : decide (q = r) = false := decide_eq_false hfg
    clear hqr hM' MN
    go_wp2_with fail
    refine wp_region_held_drew (S := (AL2 x y M.toNat q r)) (by kernel_rfl) ?hS500 (fun hHeld => ?rest500)
    case hS500 => with_reducible exact S0.drew
    refine w8 0 ?_ (ga7 rfl) (by kernel_rfl) (fun _ _ _ h => h) ⟨by rfl, ?y501⟩ hHeld ?_
    case y501 => (intro wq hSw; (try simp only [Two, AL2] at hSw); go_simp; try with_reducible rfl)
    try simp only [Act.put, a7, b7, c7]
    refine w8 1 ?_ (ga7 rfl) (by kernel_rfl) (fun _ _ _ h => h) ⟨by rfl, ?y502⟩ hHeld ?_
    case y502 => (intro wq hSw; (try simp only [Two, AL2] at hSw); go_simp; try with_reducible rfl)
    try simp only [Act.put, a7, b7, c7]
    refine w8 2 ?_ (ga7 rfl) (by kernel_rfl) (fun _ _ _ h => h) ⟨by rfl, ?y503⟩ hHeld ?_
    case y503 => (intro wq hSw; (try simp only [Two, AL2] at hSw); go_simp; try with_reducible rfl)
    try simp only [Act.put, a7, b7, c7]
    refine w8 3 ?_ (ga7 rfl) (by kernel_rfl) (fun _ _ _ h => h) ⟨by rfl, ?y504⟩ hHeld ?_
    case y504 => (intro wq hSw; (try simp only [Two, AL2] at hSw); go_simp; try with_reducible rfl)
    try simp only [Act.put, a7, b7, c7]
    refine w8 4 ?_ (ga7 rfl) (by kernel_rfl) (fun _ _ _ h => h) ⟨by rfl, ?y505⟩ hHeld ?_
    case y505 => (intro wq hSw; (try simp only [Two, AL2] at hSw); go_simp; try with_reducible rfl)
    try simp only [Act.put, a7, b7, c7]
    refine w8 5 ?_ (ga7 rfl) (by kernel_rfl) (fun _ _ _ h => h) ⟨by rfl, ?y506⟩ hHeld ?_
    case y506 => (intro wq hSw; (try simp only [Two, AL2] at hSw); go_simp; try with_reducible rfl)
    try simp only [Act.put, a7, b7, c7]
    refine w8 6 ?_ (ga7 rfl) (by kernel_rfl) (fun _ _ _ h => h) ⟨by rfl, ?y507⟩ hHeld ?_
    case y507 => (intro wq hSw; (try simp only [Two, AL2] at hSw); go_simp; try with_reducible rfl)
    try simp only [Act.put, a7, b7, c7]
    refine w8 7 ?_ (ga7 rfl) (by kernel_rfl) (fun _ _ _ h => h) ⟨by rfl, ?y508⟩ hHeld ?_
    case y508 => (intro wq hSw; (try simp only [Two, AL2] at hSw); go_simp; try with_reducible rfl)
    try simp only [Act.put, a7, b7, c7]
    refine w8 8 ?_ (ga7 rfl) (by kernel_rfl) (fun _ _ _ h => h) ⟨by rfl, ?y509⟩ hHeld ?_
    case y509 => (intro wq hSw; (try simp only [Two, AL2] at hSw); go_simp; try with_reducible rfl)
    try simp only [Act.put, a7, b7, c7]
    refine w8 9 ?_ (ga7 rfl) (by kernel_rfl) (fun _ _ _ h => h) ⟨by rfl, ?y510⟩ hHeld ?_
    case y510 => (intro wq hSw; (try simp only [Two, AL2] at hSw); go_simp; try with_reducible rfl)
    try simp only [Act.put, a7, b7, c7]
    refine w8 10 ?_ (ga7 rfl) (by kernel_rfl) (fun _ _ _ h => h) ⟨by rfl, ?y511⟩ hHeld ?_
    case y511 => (intro wq hSw; (try simp only [Two, AL2] at hSw); go_simp; try with_reducible rfl)
    try simp only [Act.put, a7, b7, c7]
    refine w8 11 ?_ (ga7 rfl) (by kernel_rfl) (fun _ _ _ h => h) ⟨by rfl, ?y512⟩ hHeld ?_
    case y512 => (intro wq hSw; (try simp only [Two, AL2] at hSw); go_simp; try with_reducible rfl)
    try simp only [Act.put, a7, b7, c7]
    refine w8 12 ?_ (ga7 rfl) (by kernel_rfl) (fun _ _ _ h => h) ⟨by rfl, ?y513⟩ hHeld ?_
    case y513 => (intro wq hSw; (try simp only [Two, AL2] at hSw); go_simp; try with_reducible rfl)
    try simp only [Act.put, a7, b7, c7]
    refine w8 13 ?_ (ga7 rfl) (by kernel_rfl) (fun _ _ _ h => h) ⟨by rfl, ?y514⟩ hHeld ?_
    case y514 => (intro wq hSw; (try simp only [Two, AL2] at hSw); go_simp; try with_reducible rfl)
    try simp only [Act.put, a7, b7, c7]
    refine w8 14 ?_ (ga7 rfl) (by kernel_rfl) (fun _ _ _ h => h) ⟨by rfl, ?y515⟩ hHeld ?_
    case y515 => (intro wq hSw; (try simp only [Two, AL2] at hSw); go_simp; try with_reducible rfl)
    try simp only [Act.put, a7, b7, c7]
    refine w8 15 ?_ (ga7 rfl) (by kernel_rfl) (fun _ _ _ h => h) ⟨by rfl, ?y516⟩ hHeld ?_
    case y516 => (intro wq hSw; (try simp only [Two, AL2] at hSw); go_simp; try with_reducible rfl)
    try simp only [Act.put, a7, b7, c7]
    refine w8 16 ?_ (ga7 rfl) (by kernel_rfl) (fun _ _ _ h => h) ⟨by rfl, ?y517⟩ hHeld ?_
    case y517 => (intro wq hSw; (try simp only [Two, AL2] at hSw); go_simp; try with_reducible rfl)
    try simp only [Act.put, a7, b7, c7]
    refine w8 17 ?_ (ga7 rfl) (by kernel_rfl) (fun _ _ _ h => h) ⟨by rfl, ?y518⟩ hHeld ?_
    case y518 => (intro wq hSw; (try simp only [Two, AL2] at hSw); go_simp; try with_reducible rfl)
    try simp only [Act.put, a7, b7, c7]
    refine w8 18 ?_ (ga7 rfl) (by kernel_rfl) (fun _ _ _ h => h) ⟨by rfl, ?y519⟩ hHeld ?_
    case y519 => (intro wq hSw; (try simp only [Two, AL2] at hSw); go_simp; try with_reducible rfl)
    try simp only [Act.put, a7, b7, c7]
    refine w8 19 ?_ (ga7 rfl) (by kernel_rfl) (fun _ _ _ h => h) ⟨by rfl, ?y520⟩ hHeld ?_
    case y520 => (intro wq hSw; (try simp only [Two, AL2] at hSw); go_simp; try with_reducible rfl)
    try simp only [Act.put, a7, b7, c7]
    refine w8 20 ?_ (ga7 rfl) (by kernel_rfl) (fun _ _ _ h => h) ⟨by rfl, ?y521⟩ hHeld ?_
    case y521 => (intro wq hSw; (try simp only [Two, AL2] at hSw); go_simp; try with_reducible rfl)
    try simp only [Act.put, a7, b7, c7]
    refine wpAnyH_done (by kernel_rfl) ?fin500 _
    go_wp2
    go_ret
    exact ⟨m, by rw [← hM.out]; rfl, ⟨by omega, hall.out, fun _ => hne.out⟩, by repeat (first | with_reducible exact Below.refl _ _ | with_reducible refine Below.drew ?_ | with_reducible refine Below.alloc ?_ (by first | omega | (simp <;> omega)) _ | with_reducible refine Below.setCell ?_ (by first | omega | (simp <;> omega)) _ | with_reducible refine Below.trans ?_ (Below.mono hB (by first | omega | (simp <;> omega))))⟩
  ·obtain rfl : m = 128 := by omega
   obtain rfl : M = 128 := by omega
   have S0 : AL2 x y 0 0 0 wr ∨ True := Or.inr trivial
   clear hM hM'
   go_wp2_with fail
   refine wp_region_held_drew (S := (fun _ => True)) (by kernel_rfl) ?hS600 (fun hHeld => ?rest600)
   case hS600 => (first | trivial)
   refine w8 0 ?_ (ga7 rfl) (by kernel_rfl) (fun _ _ _ h => h) ⟨by rfl, ?y601⟩ hHeld ?_
   case y601 => (intro wq hSw; (try simp only [Two] at hSw); go_simp; try with_reducible rfl)
   try simp only [Act.put, a7, b7, c7]
   refine w8 1 ?_ (ga7 rfl) (by kernel_rfl) (fun _ _ _ h => h) ⟨by rfl, ?y602⟩ hHeld ?_
   case y602 => (intro wq hSw; (try simp only [Two] at hSw); go_simp; try with_reducible rfl)
   try simp only [Act.put, a7, b7, c7]
   refine w8 2 ?_ (ga7 rfl) (by kernel_rfl) (fun _ _ _ h => h) ⟨by rfl, ?y603⟩ hHeld ?_
   case y603 => (intro wq hSw; (try simp only [Two] at hSw); go_simp; try with_reducible rfl)
   try simp only [Act.put, a7, b7, c7]
   refine w8 3 ?_ (ga7 rfl) (by kernel_rfl) (fun _ _ _ h => h) ⟨by rfl, ?y604⟩ hHeld ?_
   case y604 => (intro wq hSw; (try simp only [Two] at hSw); go_simp; try with_reducible rfl)
   try simp only [Act.put, a7, b7, c7]
   refine w8 4 ?_ (ga7 rfl) (by kernel_rfl) (fun _ _ _ h => h) ⟨by rfl, ?y605⟩ hHeld ?_
   case y605 => (intro wq hSw; (try simp only [Two] at hSw); go_simp; try with_reducible rfl)
   try simp only [Act.put, a7, b7, c7]
   refine wpAnyH_take (i := 5) (oi := _) (v := undef) (ga7 rfl) (by kernel_rfl) (by kernel_rfl) (by kernel_rfl) (fun _ _ _ h => h) (Or.inr ⟨by rfl, rfl⟩) (by assumption) ?rest606
   try simp only [Act.put, a7, b7, c7]
   refine wpAnyH_take (i := 6) (oi := _) (v := undef) (ga7 rfl) (by kernel_rfl) (by kernel_rfl) (by kernel_rfl) (fun _ _ _ h => h) (Or.inr ⟨by rfl, rfl⟩) (by assumption) ?rest607
   try simp only [Act.put, a7, b7, c7]
   refine wpAnyH_take (i := 7) (oi := _) (v := undef) (ga7 rfl) (by kernel_rfl) (by kernel_rfl) (by kernel_rfl) (fun _ _ _ h => h) (Or.inr ⟨by rfl, rfl⟩) (by assumption) ?rest608
   try simp only [Act.put, a7, b7, c7]
   refine wpAnyH_take (i := 8) (oi := _) (v := undef) (ga7 rfl) (by kernel_rfl) (by kernel_rfl) (by kernel_rfl) (fun _ _ _ h => h) (Or.inr ⟨by rfl, rfl⟩) (by assumption) ?rest609
   try simp only [Act.put, a7, b7, c7]
   refine w8 9 ?_ (ga7 rfl) (by kernel_rfl) (fun _ _ _ h => h) ⟨by rfl, ?y610⟩ hHeld ?_
   case y610 => (intro wq hSw; (try simp only [Two] at hSw); go_simp; try with_reducible rfl)
   try simp only [Act.put, a7, b7, c7]
   refine w8 10 ?_ (ga7 rfl) (by kernel_rfl) (fun _ _ _ h => h) ⟨by rfl, ?y611⟩ hHeld ?_
   case y611 => (intro wq hSw; (try simp only [Two] at hSw); go_simp; try with_reducible rfl)
   try simp only [Act.put, a7, b7, c7]
   refine wpAnyH_take (i := 11) (oi := _) (v := undef) (ga7 rfl) (by kernel_rfl) (by kernel_rfl) (by kernel_rfl) (fun _ _ _ h => h) (Or.inr ⟨by rfl, rfl⟩) (by assumption) ?rest612
   try simp only [Act.put, a7, b7, c7]
   refine wpAnyH_take (i := 12) (oi := _) (v := undef) (ga7 rfl) (by kernel_rfl) (by kernel_rfl) (by kernel_rfl) (fun _ _ _ h => h) (Or.inr ⟨by rfl, rfl⟩) (by assumption) ?rest613
   try simp only [Act.put, a7, b7, c7]
   refine wpAnyH_take (i := 13) (oi := _) (v := undef) (ga7 rfl) (by kernel_rfl) (by kernel_rfl) (by kernel_rfl) (fun _ _ _ h => h) (Or.inr ⟨by rfl, rfl⟩) (by assumption) ?rest614
   try simp only [Act.put, a7, b7, c7]
   refine wpAnyH_take (i := 14) (oi := _) (v := undef) (ga7 rfl) (by kernel_rfl) (by kernel_rfl) (by kernel_rfl) (fun _ _ _ h => h) (Or.inr ⟨by rfl, rfl⟩) (by assumption) ?rest615
   try simp only [Act.put, a7, b7, c7]
   refine wpAnyH_take (i := 15) (oi := _) (v := undef) (ga7 rfl) (by kernel_rfl) (by kernel_rfl) (by kernel_rfl) (fun _ _ _ h => h) (Or.inr ⟨by rfl, rfl⟩) (by assumption) ?rest616
   try simp only [Act.put, a7, b7, c7]
   refine wpAnyH_take (i := 16) (oi := _) (v := undef) (ga7 rfl) (by kernel_rfl) (by kernel_rfl) (by kernel_rfl) (fun _ _ _ h => h) (Or.inr ⟨by rfl, rfl⟩) (by assumption) ?rest617
   try simp only [Act.put, a7, b7, c7]
   refine wpAnyH_take (i := 17) (oi := _) (v := undef) (ga7 rfl) (by kernel_rfl) (by kernel_rfl) (by kernel_rfl) (fun _ _ _ h => h) (Or.inr ⟨by rfl, rfl⟩) (by assumption) ?rest618
   try simp only [Act.put, a7, b7, c7]
   refine wpAnyH_take (i := 18) (oi := _) (v := undef) (ga7 rfl) (by kernel_rfl) (by kernel_rfl) (by kernel_rfl) (fun _ _ _ h => h) (Or.inr ⟨by rfl, rfl⟩) (by assumption) ?rest619
   try simp only [Act.put, a7, b7, c7]
   refine wpAnyH_take (i := 19) (oi := _) (v := undef) (ga7 rfl) (by kernel_rfl) (by kernel_rfl) (by kernel_rfl) (fun _ _ _ h => h) (Or.inr ⟨by rfl, rfl⟩) (by assumption) ?rest620
   try simp only [Act.put, a7, b7, c7]
   refine w8 20 ?_ (ga7 rfl) (by kernel_rfl) (fun _ _ _ h => h) ⟨by rfl, ?y621⟩ hHeld ?_
   case y621 => (intro wq hSw; (try simp only [Two] at hSw); go_simp; try with_reducible rfl)
   try simp only [Act.put, a7, b7, c7]
   refine wpAnyH_done (by kernel_rfl) ?fin600 _
   go_wp2
   go_ret
   exact ⟨128, rfl, ⟨by omega, hall.out, fun h => by omega⟩, by repeat (first | with_reducible exact Below.refl _ _ | with_reducible refine Below.drew ?_ | with_reducible refine Below.alloc ?_ (by first | omega | (simp <;> omega)) _ | with_reducible refine Below.setCell ?_ (by first | omega | (simp <;> omega)) _ | with_reducible refine Below.trans ?_ (Below.mono hB (by first | omega | (simp <;> omega))))⟩

/-- The first B bits are alike. -/
theorem top_eq {W n a : Nat} (hn : n < 2 ^ W) (ha : a < 2 ^ W) : ∀ B, B ≤ W → ((∀ i, i < B → bitN n (W - 1 - i) = bitN a (W - 1 - i)) ↔ n / 2 ^ (W - B) = a / 2 ^ (W - B))
 | 0, _ => by
  rw [Nat.sub_zero, Nat.div_eq_of_lt hn, Nat.div_eq_of_lt ha]
  exact ⟨fun _ => rfl, fun _ i h => by omega⟩
 | B + 1, hB => by
  have ih := top_eq hn ha B (by omega)
  have e : W - B = W - (B + 1) + 1 := by omega
  have h1 := half_up n (W - (B + 1))
  have h2 := half_up a (W - (B + 1))
  rw [e] at ih
  have b1 := bitN_le n (W - (B + 1))
  have b2 := bitN_le a (W - (B + 1))
  constructor
  ·intro h
   have h3 := ih.1 (fun i hi => h i (by omega))
   have h4 := h B (by omega)
   rw [show W - 1 - B = W - (B + 1) by omega] at h4
   omega
  ·intro h i hi
   have h3 : n / 2 ^ (W - (B + 1) + 1) = a / 2 ^ (W - (B + 1) + 1) := by omega
   by_cases e2 : i = B
   ·subst e2
    rw [show W - 1 - i = W - (i + 1) by omega]; omega
   ·exact ih.2 h3 i (by omega)

theorem has_alike {v : Bool} {n a k W : Nat} {b : Int} (hW : widthA v = (W : Nat)) (hn : n < 2 ^ W) (ha : a < 2 ^ W) (hk : okP v n b = true) (ho : okA v a = true) (hA : AlikeIs W (fun i => bitN n (W - 1 - i)) (fun i => bitN a (W - 1 - i)) k) : hasB v n b v a = decide (b ≤ ((k : Nat) : Int)) := by
 obtain ⟨hf, hm⟩ := okP_parts hk
 obtain ⟨_, h0, h1⟩ := fitsB_parts hf
 have hf2 : fitsB v a b = true := by
  simp only [fitsB, ho, Bool.true_and, Bool.and_eq_true, decide_eq_true_eq]; exact ⟨h0, h1⟩
 obtain ⟨B, rfl⟩ : ∃ B : Nat, b = (B : Nat) := ⟨b.toNat, by omega⟩
 have hB : B ≤ W := by omega
 have ek : behindP v (B : Nat) = W - B := by unfold behindP; omega
 have te := top_eq hn ha B hB
 have e1 := ofN_self hm
 unfold hasB
 rw [hf2, Bool.eq_iff_iff]
 simp only [Bool.true_and, Bool.and_eq_true, decide_eq_true_eq, true_and]
 have key : n = ofN v a (B : Nat) ↔ n / 2 ^ (W - B) = a / 2 ^ (W - B) := by
  unfold ofN at *
  rw [ek] at *
  have p := pow_pos2 (W - B)
  constructor
  ·intro h; rw [h, Nat.mul_div_cancel _ p]
  ·intro h; rw [← h, e1]
 rw [key, ← te]
 constructor
 ·intro h
  have : B ≤ k := by
   apply Classical.byContradiction
   intro c
   exact hA.2.2 (by omega) (h k (by omega))
  omega
 ·intro h i hi
  exact hA.2.1 i (by omega)

/-- A prefix's block and an address's, that are read. -/
def PA (B A : Nat) (v : Bool) (h l b : Int) (u : Bool) (i m : Int) (wx : World) : Prop :=
 (wx.cell? ⟨B, 0, none⟩ = some (.bool v) ∧ wx.cell? ⟨B, 1, none⟩ = some (.int .u64 h) ∧ wx.cell? ⟨B, 2, none⟩ = some (.int .u64 l) ∧ wx.cell? ⟨B, 3, none⟩ = some (.int .i64 b) ∧ wx.cell? ⟨A, 0, none⟩ = some (.bool u) ∧ wx.cell? ⟨A, 1, none⟩ = some (.int .u64 i) ∧ wx.cell? ⟨A, 2, none⟩ = some (.int .u64 m)) ∧ Blk wx B #[.bool v, .int .u64 h, .int .u64 l, .int .i64 b] 28 ∧ Blk wx A #[.bool u, .int .u64 i, .int .u64 m] 26

theorem PA.of {B A : Nat} {v : Bool} {h l b : Int} {u : Bool} {i m : Int} {wx : World} (x : Blk wx B #[.bool v, .int .u64 h, .int .u64 l, .int .i64 b] 28) (y : Blk wx A #[.bool u, .int .u64 i, .int .u64 m] 26) : PA B A v h l b u i m wx :=
 ⟨⟨x.cell 0, x.cell 1, x.cell 2, x.cell 3, y.cell 0, y.cell 1, y.cell 2⟩, x, y⟩

theorem PA.drew {B A : Nat} {v : Bool} {h l b : Int} {u : Bool} {i m : Int} {wx : World} (s : PA B A v h l b u i m wx) : PA B A v h l b u i m wx.drew := s

theorem PA.below {B A : Nat} {v : Bool} {h l b : Int} {u : Bool} {i m : Int} {wx w1 : World} (s : PA B A v h l b u i m wx) (hb : Below wx.heap.size wx w1) : PA B A v h l b u i m w1 := PA.of (s.2.1.below hb) (s.2.2.below hb)

theorem PA.start (w : World) (v : Bool) (h l b : Int) (u : Bool) (i m : Int) : PA w.heap.size (w.heap.size + 1) v h l b u i m ((w.alloc (.cells #[.bool v, .int .u64 h, .int .u64 l, .int .i64 b] 28)).alloc (.cells #[.bool u, .int .u64 i, .int .u64 m] 26)) ∧ Below w.heap.size w ((w.alloc (.cells #[.bool v, .int .u64 h, .int .u64 l, .int .i64 b] 28)).alloc (.cells #[.bool u, .int .u64 i, .int .u64 m] 26)) :=
 ⟨PA.of ((Blk.new _ _ _).alloc _) (by simpa using Blk.new (w.alloc (.cells #[.bool v, .int .u64 h, .int .u64 l, .int .i64 b] 28)) #[.bool u, .int .u64 i, .int .u64 m] 26), by repeat (first | with_reducible exact Below.refl _ _ | with_reducible refine Below.drew ?_ | with_reducible refine Below.alloc ?_ (by first | omega | (simp <;> omega)) _ | with_reducible refine Below.setCell ?_ (by first | omega | (simp <;> omega)) _)⟩

set_option maxHeartbeats 1600000 in
theorem rhas_no {v u : Bool} {ph pl b h l : Int} {n a : Nat} (hp : IsNum ph pl n) (ha : IsNum h l a) (hc : okP v n b = false ∨ (okP v n b = true ∧ okA u a = false) ∨ (okP v n b = true ∧ okA u a = true ∧ u ≠ v)) (w : World) :
  Calls Tryz.prog 102 #[pv v ph pl b, av u h l] w fun e w' => e = .returned (.bool (hasB v n b u a)) ∧ Below w.heap.size w w' := by
 have f : Hid (hasB v n b u a = false) := by
  show _ = _
  cases hx : hasB v n b u a
  ·rfl
  ·obtain ⟨e, h1, _⟩ := has_parts hx
   have h2 := has_ok hx
   subst e
   rcases hc with h | ⟨_, h⟩ | ⟨_, _, h⟩
   ·rw [h] at h2; cases h2
   ·rw [(fitsB_parts h1).1] at h; cases h
   ·exact absurd rfl h
 have C1 := fun w' => rpright_c (v := v) (b := b) hp w'
 have C2 := fun w' => rright_c (v := u) ha w'
 obtain ⟨R, B0⟩ := PA.start w v ph pl b u h l
 clear hp ha
 rcases hc with h1 | ⟨h1, h2⟩ | ⟨h1, h2, h3⟩
 ·rw [h1] at C1
  clear C2 h1
  have F := R.1
  go_enter Tryz.func102, Tryz.ntmps102
  go_wp2_with fail
  refine (C1 _).mono ?_
  rintro e w1 ⟨rfl, hb1⟩
  have B1 := B0.trans (hb1.mono B0.size)
  replace R := R.below hb1
  replace F := R.1
  clear C1 hb1 B0
  go_wp2
  go_ret
  exact ⟨by rw [f.out]; rfl, B1⟩
 ·rw [h1] at C1
  rw [h2] at C2
  clear h1 h2
  have F := R.1
  go_enter Tryz.func102, Tryz.ntmps102
  go_wp2_with fail
  refine (C1 _).mono ?_
  rintro e w1 ⟨rfl, hb1⟩
  have B1 := B0.trans (hb1.mono B0.size)
  replace R := R.below hb1
  replace F := R.1
  clear C1 hb1 B0
  go_wp2_with fail
  refine (C2 _).mono ?_
  rintro e w2 ⟨rfl, hb2⟩
  have B2 := B1.trans (hb2.mono B1.size)
  replace R := R.below hb2
  replace F := R.1
  clear C2 hb2 B1
  go_wp2
  go_ret
  exact ⟨by rw [f.out]; rfl, B2⟩
 ·rw [h1] at C1
  rw [h2] at C2
  have h3' : (u == v) = false := by simpa using h3
  have h4 : ¬ u = v := h3
  clear h1 h2 h3
  have F := R.1
  go_enter Tryz.func102, Tryz.ntmps102
  go_wp2_with fail
  refine (C1 _).mono ?_
  rintro e w1 ⟨rfl, hb1⟩
  have B1 := B0.trans (hb1.mono B0.size)
  replace R := R.below hb1
  replace F := R.1
  clear C1 hb1 B0
  go_wp2_with fail
  refine (C2 _).mono ?_
  rintro e w2 ⟨rfl, hb2⟩
  have B2 := B1.trans (hb2.mono B1.size)
  replace R := R.below hb2
  replace F := R.1
  clear C2 hb2 B1
  go_wp2
  go_ret
  exact ⟨by rw [f.out]; rfl, B2⟩

set_option maxRecDepth 100000 in
set_option maxHeartbeats 1600000 in
theorem rhas_32 {ph pl b h l : Int} {n a : Nat} (hp : IsNum ph pl n) (ha : IsNum h l a) (hk : okP false n b = true) (ho : okA false a = true) (hn : n < 2 ^ 32) (haW : a < 2 ^ 32) (w : World) :
  Calls Tryz.prog 102 #[pv false ph pl b, av false h l] w fun e w' => e = .returned (.bool (hasB false n b false a)) ∧ Below w.heap.size w w' := by
 have C1 := fun w' => rpright_c (v := false) (b := b) hp w'
 have C2 := fun w' => rright_c (v := false) ha w'
 have f : Hid (∀ k, AlikeIs 32 (fun i => bitN n (32 - 1 - i)) (fun i => bitN a (32 - 1 - i)) k → hasB false n b false a = decide (b ≤ ((k : Nat) : Int))) := fun k hA => has_alike rfl hn haW hk ho hA
 rw [hk] at C1
 rw [ho] at C2
 have D1 : Hid (∀ w', _) := fun w' => row_32 hp w'
 have D2 : Hid (∀ w', _) := fun w' => row_32 ha w'
 obtain ⟨R, B0⟩ := PA.start w false ph pl b false h l
 clear hp ha hk ho hn haW
 generalize hasB false n b false a = X at *
 have F := R.1
 go_enter Tryz.func102, Tryz.ntmps102
 go_wp2_with fail
 refine (C1 _).mono ?_
 rintro e w1 ⟨rfl, hb1⟩
 have B1 := B0.trans (hb1.mono B0.size)
 replace R := R.below hb1
 replace F := R.1
 clear C1 hb1 B0
 go_wp2_with fail
 refine (C2 _).mono ?_
 rintro e w2 ⟨rfl, hb2⟩
 have B2 := B1.trans (hb2.mono B1.size)
 replace R := R.below hb2
 replace F := R.1
 clear C2 hb2 B1
 go_upto_region 3 with fail
 clear F
 refine wp_region_held_drew (S := (PA w.heap.size (w.heap.size + 1) false ph pl b false h l)) (by kernel_rfl) ?hS700 (fun hHeld => ?rest700)
 case hS700 => with_reducible exact R.drew
 refine w8 0 ?_ (ga7 rfl) (by kernel_rfl) (fun _ _ _ h => h) ⟨by rfl, ?y701⟩ hHeld ?_
 case y701 => (intro wq hSw; (try simp only [Two, PA] at hSw); go_simp; try with_reducible rfl)
 try simp only [Act.put, a7, b7, c7]
 refine w8 1 ?_ (ga7 rfl) (by kernel_rfl) (fun _ _ _ h => h) ⟨by rfl, ?y702⟩ hHeld ?_
 case y702 => (intro wq hSw; (try simp only [Two, PA] at hSw); go_simp; try with_reducible rfl)
 try simp only [Act.put, a7, b7, c7]
 refine w8 3 ?_ (ga7 rfl) (by kernel_rfl) (fun _ _ _ h => h) ⟨by rfl, ?y703⟩ hHeld ?_
 case y703 => (intro wq hSw; (try simp only [Two, PA] at hSw); go_simp; try with_reducible rfl)
 try simp only [Act.put, a7, b7, c7]
 refine w8 6 ?_ (ga7 rfl) (by kernel_rfl) (fun _ _ _ h => h) ⟨by rfl, ?y704⟩ hHeld ?_
 case y704 => (intro wq hSw; (try simp only [Two, PA] at hSw); go_simp; try with_reducible rfl)
 try simp only [Act.put, a7, b7, c7]
 refine w8 7 ?_ (ga7 rfl) (by kernel_rfl) (fun _ _ _ h => h) ⟨by rfl, ?y705⟩ hHeld ?_
 case y705 => (intro wq hSw; (try simp only [Two, PA] at hSw); go_simp; try with_reducible rfl)
 try simp only [Act.put, a7, b7, c7]
 refine wpAnyH_ready (rs := [2]) (by kernel_rfl) (by simp) ?rdy706
 refine AllReadyH.cons (ga7 rfl) (fun K hK => ?stp706) AllReadyH.nil
 go_simp
 go_wp2_with fail
 (refine (D1.out _).mono ?_; rintro e w3 ⟨g1, cap1, rfl, hg1, hc1, hm1, rw1, hb3⟩; have B3 : Below w.heap.size w w3 := Below.via hb3 B2 (Nat.le_refl _) rfl rfl rfl rfl)
 go_wp2_with fail
 refine hK.out _ _ ?hSn706 (fun hHeld2 => ?rest706)
 case hSn706 => with_reducible exact hHeld.below hb3
 clear hK K hHeld
 have hHeld := hHeld2
 clear hHeld2
 try simp only [Act.put, a7, b7, c7]
 refine wpAnyH_ready (rs := [4]) (by kernel_rfl) (by simp) ?rdy707
 refine AllReadyH.cons (ga7 rfl) (fun K hK => ?stp707) AllReadyH.nil
 go_simp
 go_wp2_with fail
 (refine (D2.out _).mono ?_; rintro e w4 ⟨g2, cap2, rfl, hg2, hc2, hm2, rw2, hb4⟩; have B4 : Below w.heap.size w w4 := Below.via hb4 B3 (Nat.le_refl _) rfl rfl rfl rfl)
 go_wp2_with fail
 refine hK.out _ _ ?hSn707 (fun hHeld2 => ?rest707)
 case hSn707 => with_reducible exact hHeld.below hb4
 clear hK K hHeld
 have hHeld := hHeld2
 clear hHeld2
 try simp only [Act.put, a7, b7, c7]
 refine wpAnyH_ready (rs := [5]) (by kernel_rfl) (by simp) ?rdy708
 refine AllReadyH.cons (ga7 rfl) (fun K hK => ?stp708) AllReadyH.nil
 go_simp
 go_wp2_with fail
 (refine (alike_32 g1 g2 cap1 cap2 _ _ _ (rw1.below hb4) rw2).mono ?_; rintro e w5 ⟨k, rfl, hA, hb5⟩; have B5 : Below w.heap.size w w5 := Below.via hb5 B4 (Nat.le_refl _) rfl rfl rfl rfl; have hX : Hid (X = decide (b ≤ ((k : Nat) : Int))) := f.out k hA; clear hA rw1 rw2)
 go_wp2_with fail
 refine hK.out _ _ ?hSn708 (fun hHeld2 => ?rest708)
 case hSn708 => with_reducible exact hHeld.below hb5
 clear hK K hHeld
 have hHeld := hHeld2
 clear hHeld2
 try simp only [Act.put, a7, b7, c7]
 refine w8 8 ?_ (ga7 rfl) (by kernel_rfl) (fun _ _ _ h => h) ⟨by rfl, ?y709⟩ hHeld ?_
 case y709 => (intro wq hSw; (try simp only [Two, PA] at hSw); go_simp; try with_reducible rfl)
 try simp only [Act.put, a7, b7, c7]
 refine w8 9 ?_ (ga7 rfl) (by kernel_rfl) (fun _ _ _ h => h) ⟨by rfl, ?y710⟩ hHeld ?_
 case y710 => (intro wq hSw; (try simp only [Two, PA] at hSw); go_simp; try with_reducible rfl)
 try simp only [Act.put, a7, b7, c7]
 refine wpAnyH_done (by kernel_rfl) ?fin700 _
 go_wp2
 go_ret
 exact ⟨by rw [hX.out]; first | rfl | simp, B5⟩

set_option maxRecDepth 100000 in
set_option maxHeartbeats 1600000 in
theorem rhas_128 {ph pl b h l : Int} {n a : Nat} (hp : IsNum ph pl n) (ha : IsNum h l a) (hk : okP true n b = true) (ho : okA true a = true) (hn : n < 2 ^ 128) (haW : a < 2 ^ 128) (w : World) :
  Calls Tryz.prog 102 #[pv true ph pl b, av true h l] w fun e w' => e = .returned (.bool (hasB true n b true a)) ∧ Below w.heap.size w w' := by
 have C1 := fun w' => rpright_c (v := true) (b := b) hp w'
 have C2 := fun w' => rright_c (v := true) ha w'
 have f : Hid (∀ k, AlikeIs 128 (fun i => bitN n (128 - 1 - i)) (fun i => bitN a (128 - 1 - i)) k → hasB true n b true a = decide (b ≤ ((k : Nat) : Int))) := fun k hA => has_alike rfl hn haW hk ho hA
 rw [hk] at C1
 rw [ho] at C2
 have D1 : Hid (∀ w', _) := fun w' => row_128 hp w'
 have D2 : Hid (∀ w', _) := fun w' => row_128 ha w'
 obtain ⟨R, B0⟩ := PA.start w true ph pl b true h l
 clear hp ha hk ho hn haW
 generalize hasB true n b true a = X at *
 have F := R.1
 go_enter Tryz.func102, Tryz.ntmps102
 go_wp2_with fail
 refine (C1 _).mono ?_
 rintro e w1 ⟨rfl, hb1⟩
 have B1 := B0.trans (hb1.mono B0.size)
 replace R := R.below hb1
 replace F := R.1
 clear C1 hb1 B0
 go_wp2_with fail
 refine (C2 _).mono ?_
 rintro e w2 ⟨rfl, hb2⟩
 have B2 := B1.trans (hb2.mono B1.size)
 replace R := R.below hb2
 replace F := R.1
 clear C2 hb2 B1
 go_upto_region 3 with fail
 clear F
 refine wp_region_held_drew (S := (PA w.heap.size (w.heap.size + 1) true ph pl b true h l)) (by kernel_rfl) ?hS800 (fun hHeld => ?rest800)
 case hS800 => with_reducible exact R.drew
 refine w8 0 ?_ (ga7 rfl) (by kernel_rfl) (fun _ _ _ h => h) ⟨by rfl, ?y801⟩ hHeld ?_
 case y801 => (intro wq hSw; (try simp only [Two, PA] at hSw); go_simp; try with_reducible rfl)
 try simp only [Act.put, a7, b7, c7]
 refine w8 1 ?_ (ga7 rfl) (by kernel_rfl) (fun _ _ _ h => h) ⟨by rfl, ?y802⟩ hHeld ?_
 case y802 => (intro wq hSw; (try simp only [Two, PA] at hSw); go_simp; try with_reducible rfl)
 try simp only [Act.put, a7, b7, c7]
 refine w8 3 ?_ (ga7 rfl) (by kernel_rfl) (fun _ _ _ h => h) ⟨by rfl, ?y803⟩ hHeld ?_
 case y803 => (intro wq hSw; (try simp only [Two, PA] at hSw); go_simp; try with_reducible rfl)
 try simp only [Act.put, a7, b7, c7]
 refine w8 6 ?_ (ga7 rfl) (by kernel_rfl) (fun _ _ _ h => h) ⟨by rfl, ?y804⟩ hHeld ?_
 case y804 => (intro wq hSw; (try simp only [Two, PA] at hSw); go_simp; try with_reducible rfl)
 try simp only [Act.put, a7, b7, c7]
 refine w8 7 ?_ (ga7 rfl) (by kernel_rfl) (fun _ _ _ h => h) ⟨by rfl, ?y805⟩ hHeld ?_
 case y805 => (intro wq hSw; (try simp only [Two, PA] at hSw); go_simp; try with_reducible rfl)
 try simp only [Act.put, a7, b7, c7]
 refine wpAnyH_ready (rs := [2]) (by kernel_rfl) (by simp) ?rdy806
 refine AllReadyH.cons (ga7 rfl) (fun K hK => ?stp806) AllReadyH.nil
 go_simp
 go_wp2_with fail
 (refine (D1.out _).mono ?_; rintro e w3 ⟨g1, cap1, rfl, hg1, hc1, hm1, rw1, hb3⟩; have B3 : Below w.heap.size w w3 := Below.via hb3 B2 (Nat.le_refl _) rfl rfl rfl rfl)
 go_wp2_with fail
 refine hK.out _ _ ?hSn806 (fun hHeld2 => ?rest806)
 case hSn806 => with_reducible exact hHeld.below hb3
 clear hK K hHeld
 have hHeld := hHeld2
 clear hHeld2
 try simp only [Act.put, a7, b7, c7]
 refine wpAnyH_ready (rs := [4]) (by kernel_rfl) (by simp) ?rdy807
 refine AllReadyH.cons (ga7 rfl) (fun K hK => ?stp807) AllReadyH.nil
 go_simp
 go_wp2_with fail
 (refine (D2.out _).mono ?_; rintro e w4 ⟨g2, cap2, rfl, hg2, hc2, hm2, rw2, hb4⟩; have B4 : Below w.heap.size w w4 := Below.via hb4 B3 (Nat.le_refl _) rfl rfl rfl rfl)
 go_wp2_with fail
 refine hK.out _ _ ?hSn807 (fun hHeld2 => ?rest807)
 case hSn807 => with_reducible exact hHeld.below hb4
 clear hK K hHeld
 have hHeld := hHeld2
 clear hHeld2
 try simp only [Act.put, a7, b7, c7]
 refine wpAnyH_ready (rs := [5]) (by kernel_rfl) (by simp) ?rdy808
 refine AllReadyH.cons (ga7 rfl) (fun K hK => ?stp808) AllReadyH.nil
 go_simp
 go_wp2_with fail
 (refine (alike_128 g1 g2 cap1 cap2 _ _ _ (rw1.below hb4) rw2).mono ?_; rintro e w5 ⟨k, rfl, hA, hb5⟩; have B5 : Below w.heap.size w w5 := Below.via hb5 B4 (Nat.le_refl _) rfl rfl rfl rfl; have hX : Hid (X = decide (b ≤ ((k : Nat) : Int))) := f.out k hA; clear hA rw1 rw2)
 go_wp2_with fail
 refine hK.out _ _ ?hSn808 (fun hHeld2 => ?rest808)
 case hSn808 => with_reducible exact hHeld.below hb5
 clear hK K hHeld
 have hHeld := hHeld2
 clear hHeld2
 try simp only [Act.put, a7, b7, c7]
 refine w8 8 ?_ (ga7 rfl) (by kernel_rfl) (fun _ _ _ h => h) ⟨by rfl, ?y809⟩ hHeld ?_
 case y809 => (intro wq hSw; (try simp only [Two, PA] at hSw); go_simp; try with_reducible rfl)
 try simp only [Act.put, a7, b7, c7]
 refine w8 9 ?_ (ga7 rfl) (by kernel_rfl) (fun _ _ _ h => h) ⟨by rfl, ?y810⟩ hHeld ?_
 case y810 => (intro wq hSw; (try simp only [Two, PA] at hSw); go_simp; try with_reducible rfl)
 try simp only [Act.put, a7, b7, c7]
 refine wpAnyH_done (by kernel_rfl) ?fin800 _
 go_wp2
 go_ret
 exact ⟨by rw [hX.out]; first | rfl | simp, B5⟩

theorem rhas_c {v u : Bool} {ph pl b h l : Int} {n a : Nat} (hp : IsNum ph pl n) (ha : IsNum h l a) (w : World) :
  Calls Tryz.prog 102 #[pv v ph pl b, av u h l] w fun e w' => e = .returned (.bool (hasB v n b u a)) ∧ Below w.heap.size w w' := by
 cases hk : okP v n b
 ·exact rhas_no hp ha (Or.inl hk) w
 ·cases ho : okA u a
  ·exact rhas_no hp ha (Or.inr (Or.inl ⟨hk, ho⟩)) w
  ·by_cases e : u = v
   ·subst e
    have hn := (fitsB_parts (okP_parts hk).1).1
    cases u
    ·exact rhas_32 hp ha hk ho (okA_pow hn) (okA_pow ho) w
    ·exact rhas_128 hp ha hk ho (by simpa using hp.lt) (by simpa using ha.lt) w
   ·exact rhas_no hp ha (Or.inr (Or.inr ⟨hk, ho, e⟩)) w
end Go.Proofs.YtgbpnekinbdadaaGreatDoor
