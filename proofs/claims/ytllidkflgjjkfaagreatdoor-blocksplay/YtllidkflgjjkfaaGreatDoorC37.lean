/-
  Texts Ref3e, Ref3f of the proof.
-/
import Derived.Deep.DeepCutAuto
import Derived.Test.YtllidkflgjjkfaaGreatDoorC21
import Derived.Test.YtllidkflgjjkfaaGreatDoorC34
import Derived.Test.YtllidkflgjjkfaaGreatDoorC0

namespace Go.Proofs.YtllidkflgjjkfaaGreatDoor
open Go.ChangeShapes Go.WideShapes Go.ChangeAt Go.RowKit
set_option linter.unusedVariables false
set_option linter.unusedSimpArgs false

/-- So many first bits are alike, and no more. -/
def AlikeIs (W : Nat) (f g : Nat → Nat) (k : Nat) : Prop := k ≤ W ∧ (∀ i, i < k → f i = g i) ∧ (k < W → f k ≠ g k)

/-- Two cells that are read. -/
def AL2 (x y o : Nat) (q r : Int) (wx : World) : Prop := wx.cell? ⟨x, o, none⟩ = some (.int .i64 q) ∧ wx.cell? ⟨y, o, none⟩ = some (.int .i64 r)

theorem AL2.drew {x y o : Nat} {q r : Int} {wx : World} (s : AL2 x y o q r wx) : AL2 x y o q r wx.drew := s

set_option maxRecDepth 100000 in
set_option maxHeartbeats 1600000 in
theorem alike_32 (x y c d : Nat) (f g : Nat → Nat) (w : World) (hx : Rw w x 32 f) (hy : Rw w y 32 g) :
    Calls Tryz.prog 130 #[.slice (some ⟨x, 0, none⟩) 32 c, .slice (some ⟨y, 0, none⟩) 32 d] w fun e w' => ∃ k : Nat, e = .returned (.int .i64 (k : Nat)) ∧ AlikeIs 32 f g k ∧ Below w.heap.size w w' := by
  go_enter Tryz.func130, Tryz.ntmps130
  go_wp2_with fail
  go_loopw [5] (fun i wr => ∃ (m : Nat) (M : Int), m ≤ 32 ∧ i = .int .i64 M ∧ Hid (M = (m : Nat)) ∧ 0 ≤ M ∧ M ≤ 32 ∧ Hid (∀ i, i < m → f i = g i) ∧ Rw wr x 32 f ∧ Rw wr y 32 g ∧ Below w.heap.size w wr) (fun i _ => 32 - (intOf i).toNat)
  case atStart => exact ⟨0, 0, by omega, rfl, rfl, by omega, by omega, fun i h => by omega, hx, hy, by repeat (first | with_reducible exact Below.refl _ _ | with_reducible refine Below.drew ?_ | with_reducible refine Below.alloc ?_ (by first | omega | (simp <;> omega)) _ | with_reducible refine Below.setCell ?_ (by first | omega | (simp <;> omega)) _)⟩
  case round =>
    clear hx hy
    obtain ⟨m, M, hm, rfl, hM, M0, M1, hall, hx, hy, hB⟩ := hrel
    have hM' := hM.out
    by_cases hlt : m < 32
    · have Ml : M < 32 := by omega
      have MN : M.toNat = m := by omega
      have c1 := hx.2.1 M.toNat (by omega)
      have c2 := hy.2.1 M.toNat (by omega)
      obtain ⟨q, hq⟩ : ∃ q : Int, q = ((f M.toNat : Nat) : Int) := ⟨_, rfl⟩
      obtain ⟨r, hr⟩ : ∃ r : Int, r = ((g M.toNat : Nat) : Int) := ⟨_, rfl⟩
      rw [← hq] at c1
      rw [← hr] at c2
      have S0 : AL2 x y M.toNat q r wr := ⟨c1, c2⟩
      have hqr : f m = g m ↔ q = r := by rw [hq, hr, MN]; omega
      clear c1 c2 hq hr
      by_cases hfg : q = r
      · have up : Hid (∀ i, i < m + 1 → f i = g i) := fun i hi => by
          by_cases e : i = m
          · subst e; exact hqr.2 hfg
          · exact hall.out i (by omega)
        subst hfg
        clear hqr hall hM' MN
        go_wp2_with fail
        refine wp_region_held_drew (S := (AL2 x y M.toNat q q)) (by kernel_rfl) ?hS100 (fun hHeld => ?rest100)
        case hS100 => (first | with_reducible exact S0.drew | with_reducible exact hHeld)
        refine wtk7 (i := 0) (v := ?v101) (ga7 rfl) (by kernel_rfl) (fun _ _ _ h => h) ⟨by rfl, ?hy101⟩ (by assumption) ?rest101
        case hy101 => (intro wq hSw; (try simp only [Two, AL2] at hSw); go_simp; try with_reducible rfl)
        try simp only [Act.put, sa7, sb7, sc7]
        refine wtk7 (i := 1) (v := ?v102) (ga7 rfl) (by kernel_rfl) (fun _ _ _ h => h) ⟨by rfl, ?hy102⟩ (by assumption) ?rest102
        case hy102 => (intro wq hSw; (try simp only [Two, AL2] at hSw); go_simp; try with_reducible rfl)
        try simp only [Act.put, sa7, sb7, sc7]
        refine wtk7 (i := 2) (v := ?v103) (ga7 rfl) (by kernel_rfl) (fun _ _ _ h => h) ⟨by rfl, ?hy103⟩ (by assumption) ?rest103
        case hy103 => (intro wq hSw; (try simp only [Two, AL2] at hSw); go_simp; try with_reducible rfl)
        try simp only [Act.put, sa7, sb7, sc7]
        refine wtk7 (i := 3) (v := ?v104) (ga7 rfl) (by kernel_rfl) (fun _ _ _ h => h) ⟨by rfl, ?hy104⟩ (by assumption) ?rest104
        case hy104 => (intro wq hSw; (try simp only [Two, AL2] at hSw); go_simp; try with_reducible rfl)
        try simp only [Act.put, sa7, sb7, sc7]
        refine wtk7 (i := 4) (v := ?v105) (ga7 rfl) (by kernel_rfl) (fun _ _ _ h => h) ⟨by rfl, ?hy105⟩ (by assumption) ?rest105
        case hy105 => (intro wq hSw; (try simp only [Two, AL2] at hSw); go_simp; try with_reducible rfl)
        try simp only [Act.put, sa7, sb7, sc7]
        refine wtk7 (i := 5) (v := ?v106) (ga7 rfl) (by kernel_rfl) (fun _ _ _ h => h) ⟨by rfl, ?hy106⟩ (by assumption) ?rest106
        case hy106 => (intro wq hSw; (try simp only [Two, AL2] at hSw); go_simp; try with_reducible rfl)
        try simp only [Act.put, sa7, sb7, sc7]
        refine wtk7 (i := 6) (v := ?v107) (ga7 rfl) (by kernel_rfl) (fun _ _ _ h => h) ⟨by rfl, ?hy107⟩ (by assumption) ?rest107
        case hy107 => (intro wq hSw; (try simp only [Two, AL2] at hSw); go_simp; try with_reducible rfl)
        try simp only [Act.put, sa7, sb7, sc7]
        refine wtk7 (i := 7) (v := ?v108) (ga7 rfl) (by kernel_rfl) (fun _ _ _ h => h) ⟨by rfl, ?hy108⟩ (by assumption) ?rest108
        case hy108 => (intro wq hSw; (try simp only [Two, AL2] at hSw); go_simp; try with_reducible rfl)
        try simp only [Act.put, sa7, sb7, sc7]
        refine wtk7 (i := 8) (v := ?v109) (ga7 rfl) (by kernel_rfl) (fun _ _ _ h => h) ⟨by rfl, ?hy109⟩ (by assumption) ?rest109
        case hy109 => (intro wq hSw; (try simp only [Two, AL2] at hSw); go_simp; try with_reducible rfl)
        try simp only [Act.put, sa7, sb7, sc7]
        refine wtk7 (i := 9) (v := ?v110) (ga7 rfl) (by kernel_rfl) (fun _ _ _ h => h) ⟨by rfl, ?hy110⟩ (by assumption) ?rest110
        case hy110 => (intro wq hSw; (try simp only [Two, AL2] at hSw); go_simp; try with_reducible rfl)
        try simp only [Act.put, sa7, sb7, sc7]
        refine wtk7 (i := 10) (v := ?v111) (ga7 rfl) (by kernel_rfl) (fun _ _ _ h => h) ⟨by rfl, ?hy111⟩ (by assumption) ?rest111
        case hy111 => (intro wq hSw; (try simp only [Two, AL2] at hSw); go_simp; try with_reducible rfl)
        try simp only [Act.put, sa7, sb7, sc7]
        refine wtk7 (i := 11) (v := ?v112) (ga7 rfl) (by kernel_rfl) (fun _ _ _ h => h) ⟨by rfl, ?hy112⟩ (by assumption) ?rest112
        case hy112 => (intro wq hSw; (try simp only [Two, AL2] at hSw); go_simp; try with_reducible rfl)
        try simp only [Act.put, sa7, sb7, sc7]
        refine wtk7 (i := 12) (v := ?v113) (ga7 rfl) (by kernel_rfl) (fun _ _ _ h => h) ⟨by rfl, ?hy113⟩ (by assumption) ?rest113
        case hy113 => (intro wq hSw; (try simp only [Two, AL2] at hSw); go_simp; try with_reducible rfl)
        try simp only [Act.put, sa7, sb7, sc7]
        refine wtk7 (i := 13) (v := ?v114) (ga7 rfl) (by kernel_rfl) (fun _ _ _ h => h) ⟨by rfl, ?hy114⟩ (by assumption) ?rest114
        case hy114 => (intro wq hSw; (try simp only [Two, AL2] at hSw); go_simp; try with_reducible rfl)
        try simp only [Act.put, sa7, sb7, sc7]
        refine wtk7 (i := 14) (v := ?v115) (ga7 rfl) (by kernel_rfl) (fun _ _ _ h => h) ⟨by rfl, ?hy115⟩ (by assumption) ?rest115
        case hy115 => (intro wq hSw; (try simp only [Two, AL2] at hSw); go_simp; try with_reducible rfl)
        try simp only [Act.put, sa7, sb7, sc7]
        refine wtk7 (i := 15) (v := ?v116) (ga7 rfl) (by kernel_rfl) (fun _ _ _ h => h) ⟨by rfl, ?hy116⟩ (by assumption) ?rest116
        case hy116 => (intro wq hSw; (try simp only [Two, AL2] at hSw); go_simp; try with_reducible rfl)
        try simp only [Act.put, sa7, sb7, sc7]
        refine wtk7 (i := 16) (v := ?v117) (ga7 rfl) (by kernel_rfl) (fun _ _ _ h => h) ⟨by rfl, ?hy117⟩ (by assumption) ?rest117
        case hy117 => (intro wq hSw; (try simp only [Two, AL2] at hSw); go_simp; try with_reducible rfl)
        try simp only [Act.put, sa7, sb7, sc7]
        refine wtk7 (i := 17) (v := ?v118) (ga7 rfl) (by kernel_rfl) (fun _ _ _ h => h) ⟨by rfl, ?hy118⟩ (by assumption) ?rest118
        case hy118 => (intro wq hSw; (try simp only [Two, AL2] at hSw); go_simp; try with_reducible rfl)
        try simp only [Act.put, sa7, sb7, sc7]
        refine wtk7 (i := 18) (v := ?v119) (ga7 rfl) (by kernel_rfl) (fun _ _ _ h => h) ⟨by rfl, ?hy119⟩ (by assumption) ?rest119
        case hy119 => (intro wq hSw; (try simp only [Two, AL2] at hSw); go_simp; try with_reducible rfl)
        try simp only [Act.put, sa7, sb7, sc7]
        refine wtk7 (i := 19) (v := ?v120) (ga7 rfl) (by kernel_rfl) (fun _ _ _ h => h) ⟨by rfl, ?hy120⟩ (by assumption) ?rest120
        case hy120 => (intro wq hSw; (try simp only [Two, AL2] at hSw); go_simp; try with_reducible rfl)
        try simp only [Act.put, sa7, sb7, sc7]
        refine wtk7 (i := 20) (v := ?v121) (ga7 rfl) (by kernel_rfl) (fun _ _ _ h => h) ⟨by rfl, ?hy121⟩ (by assumption) ?rest121
        case hy121 => (intro wq hSw; (try simp only [Two, AL2] at hSw); go_simp; try with_reducible rfl)
        try simp only [Act.put, sa7, sb7, sc7]
        refine wpAnyH_done (by kernel_rfl) ?fin100 _
        go_wp2
        go_roundw
        case measure => simp [intOf]; omega
        case rel => exact ⟨m + 1, M + 1, by omega, rfl, by show _ = _; have := hM.out; omega, by omega, by omega, up, hx, hy, by repeat (first | with_reducible exact Below.refl _ _ | with_reducible refine Below.drew ?_ | with_reducible refine Below.alloc ?_ (by first | omega | (simp <;> omega)) _ | with_reducible refine Below.setCell ?_ (by first | omega | (simp <;> omega)) _ | with_reducible refine Below.trans ?_ (Below.mono hB (by first | omega | (simp <;> omega))))⟩
      · have hne : Hid (f m ≠ g m) := fun c => hfg (hqr.1 c)
        have hfg' : (q == r) = false := by simpa using hfg
        have hfg2 : decide (q = r) = false := decide_eq_false hfg
        clear hqr hM' MN
        go_wp2_with fail
        refine wp_region_held_drew (S := (AL2 x y M.toNat q r)) (by kernel_rfl) ?hS200 (fun hHeld => ?rest200)
        case hS200 => (first | with_reducible exact S0.drew | with_reducible exact hHeld)
        refine wtk7 (i := 0) (v := ?v201) (ga7 rfl) (by kernel_rfl) (fun _ _ _ h => h) ⟨by rfl, ?hy201⟩ (by assumption) ?rest201
        case hy201 => (intro wq hSw; (try simp only [Two, AL2] at hSw); go_simp; try with_reducible rfl)
        try simp only [Act.put, sa7, sb7, sc7]
        refine wtk7 (i := 1) (v := ?v202) (ga7 rfl) (by kernel_rfl) (fun _ _ _ h => h) ⟨by rfl, ?hy202⟩ (by assumption) ?rest202
        case hy202 => (intro wq hSw; (try simp only [Two, AL2] at hSw); go_simp; try with_reducible rfl)
        try simp only [Act.put, sa7, sb7, sc7]
        refine wtk7 (i := 2) (v := ?v203) (ga7 rfl) (by kernel_rfl) (fun _ _ _ h => h) ⟨by rfl, ?hy203⟩ (by assumption) ?rest203
        case hy203 => (intro wq hSw; (try simp only [Two, AL2] at hSw); go_simp; try with_reducible rfl)
        try simp only [Act.put, sa7, sb7, sc7]
        refine wtk7 (i := 3) (v := ?v204) (ga7 rfl) (by kernel_rfl) (fun _ _ _ h => h) ⟨by rfl, ?hy204⟩ (by assumption) ?rest204
        case hy204 => (intro wq hSw; (try simp only [Two, AL2] at hSw); go_simp; try with_reducible rfl)
        try simp only [Act.put, sa7, sb7, sc7]
        refine wtk7 (i := 4) (v := ?v205) (ga7 rfl) (by kernel_rfl) (fun _ _ _ h => h) ⟨by rfl, ?hy205⟩ (by assumption) ?rest205
        case hy205 => (intro wq hSw; (try simp only [Two, AL2] at hSw); go_simp; try with_reducible rfl)
        try simp only [Act.put, sa7, sb7, sc7]
        refine wtk7 (i := 5) (v := ?v206) (ga7 rfl) (by kernel_rfl) (fun _ _ _ h => h) ⟨by rfl, ?hy206⟩ (by assumption) ?rest206
        case hy206 => (intro wq hSw; (try simp only [Two, AL2] at hSw); go_simp; try with_reducible rfl)
        try simp only [Act.put, sa7, sb7, sc7]
        refine wtk7 (i := 6) (v := ?v207) (ga7 rfl) (by kernel_rfl) (fun _ _ _ h => h) ⟨by rfl, ?hy207⟩ (by assumption) ?rest207
        case hy207 => (intro wq hSw; (try simp only [Two, AL2] at hSw); go_simp; try with_reducible rfl)
        try simp only [Act.put, sa7, sb7, sc7]
        refine wtk7 (i := 7) (v := ?v208) (ga7 rfl) (by kernel_rfl) (fun _ _ _ h => h) ⟨by rfl, ?hy208⟩ (by assumption) ?rest208
        case hy208 => (intro wq hSw; (try simp only [Two, AL2] at hSw); go_simp; try with_reducible rfl)
        try simp only [Act.put, sa7, sb7, sc7]
        refine wtk7 (i := 8) (v := ?v209) (ga7 rfl) (by kernel_rfl) (fun _ _ _ h => h) ⟨by rfl, ?hy209⟩ (by assumption) ?rest209
        case hy209 => (intro wq hSw; (try simp only [Two, AL2] at hSw); go_simp; try with_reducible rfl)
        try simp only [Act.put, sa7, sb7, sc7]
        refine wtk7 (i := 9) (v := ?v210) (ga7 rfl) (by kernel_rfl) (fun _ _ _ h => h) ⟨by rfl, ?hy210⟩ (by assumption) ?rest210
        case hy210 => (intro wq hSw; (try simp only [Two, AL2] at hSw); go_simp; try with_reducible rfl)
        try simp only [Act.put, sa7, sb7, sc7]
        refine wtk7 (i := 10) (v := ?v211) (ga7 rfl) (by kernel_rfl) (fun _ _ _ h => h) ⟨by rfl, ?hy211⟩ (by assumption) ?rest211
        case hy211 => (intro wq hSw; (try simp only [Two, AL2] at hSw); go_simp; try with_reducible rfl)
        try simp only [Act.put, sa7, sb7, sc7]
        refine wtk7 (i := 11) (v := ?v212) (ga7 rfl) (by kernel_rfl) (fun _ _ _ h => h) ⟨by rfl, ?hy212⟩ (by assumption) ?rest212
        case hy212 => (intro wq hSw; (try simp only [Two, AL2] at hSw); go_simp; try with_reducible rfl)
        try simp only [Act.put, sa7, sb7, sc7]
        refine wtk7 (i := 12) (v := ?v213) (ga7 rfl) (by kernel_rfl) (fun _ _ _ h => h) ⟨by rfl, ?hy213⟩ (by assumption) ?rest213
        case hy213 => (intro wq hSw; (try simp only [Two, AL2] at hSw); go_simp; try with_reducible rfl)
        try simp only [Act.put, sa7, sb7, sc7]
        refine wtk7 (i := 13) (v := ?v214) (ga7 rfl) (by kernel_rfl) (fun _ _ _ h => h) ⟨by rfl, ?hy214⟩ (by assumption) ?rest214
        case hy214 => (intro wq hSw; (try simp only [Two, AL2] at hSw); go_simp; try with_reducible rfl)
        try simp only [Act.put, sa7, sb7, sc7]
        refine wtk7 (i := 14) (v := ?v215) (ga7 rfl) (by kernel_rfl) (fun _ _ _ h => h) ⟨by rfl, ?hy215⟩ (by assumption) ?rest215
        case hy215 => (intro wq hSw; (try simp only [Two, AL2] at hSw); go_simp; try with_reducible rfl)
        try simp only [Act.put, sa7, sb7, sc7]
        refine wtk7 (i := 15) (v := ?v216) (ga7 rfl) (by kernel_rfl) (fun _ _ _ h => h) ⟨by rfl, ?hy216⟩ (by assumption) ?rest216
        case hy216 => (intro wq hSw; (try simp only [Two, AL2] at hSw); go_simp; try with_reducible rfl)
        try simp only [Act.put, sa7, sb7, sc7]
        refine wtk7 (i := 16) (v := ?v217) (ga7 rfl) (by kernel_rfl) (fun _ _ _ h => h) ⟨by rfl, ?hy217⟩ (by assumption) ?rest217
        case hy217 => (intro wq hSw; (try simp only [Two, AL2] at hSw); go_simp; try with_reducible rfl)
        try simp only [Act.put, sa7, sb7, sc7]
        refine wtk7 (i := 17) (v := ?v218) (ga7 rfl) (by kernel_rfl) (fun _ _ _ h => h) ⟨by rfl, ?hy218⟩ (by assumption) ?rest218
        case hy218 => (intro wq hSw; (try simp only [Two, AL2] at hSw); go_simp; try with_reducible rfl)
        try simp only [Act.put, sa7, sb7, sc7]
        refine wtk7 (i := 18) (v := ?v219) (ga7 rfl) (by kernel_rfl) (fun _ _ _ h => h) ⟨by rfl, ?hy219⟩ (by assumption) ?rest219
        case hy219 => (intro wq hSw; (try simp only [Two, AL2] at hSw); go_simp; try with_reducible rfl)
        try simp only [Act.put, sa7, sb7, sc7]
        refine wtk7 (i := 19) (v := ?v220) (ga7 rfl) (by kernel_rfl) (fun _ _ _ h => h) ⟨by rfl, ?hy220⟩ (by assumption) ?rest220
        case hy220 => (intro wq hSw; (try simp only [Two, AL2] at hSw); go_simp; try with_reducible rfl)
        try simp only [Act.put, sa7, sb7, sc7]
        refine wtk7 (i := 20) (v := ?v221) (ga7 rfl) (by kernel_rfl) (fun _ _ _ h => h) ⟨by rfl, ?hy221⟩ (by assumption) ?rest221
        case hy221 => (intro wq hSw; (try simp only [Two, AL2] at hSw); go_simp; try with_reducible rfl)
        try simp only [Act.put, sa7, sb7, sc7]
        refine wpAnyH_done (by kernel_rfl) ?fin200 _
        go_wp2
        go_ret
        exact ⟨m, by rw [← hM.out]; rfl, ⟨by omega, hall.out, fun _ => hne.out⟩, by repeat (first | with_reducible exact Below.refl _ _ | with_reducible refine Below.drew ?_ | with_reducible refine Below.alloc ?_ (by first | omega | (simp <;> omega)) _ | with_reducible refine Below.setCell ?_ (by first | omega | (simp <;> omega)) _ | with_reducible refine Below.trans ?_ (Below.mono hB (by first | omega | (simp <;> omega))))⟩
    · obtain rfl : m = 32 := by omega
      obtain rfl : M = 32 := by omega
      have S0 : AL2 x y 0 0 0 wr ∨ True := Or.inr trivial
      clear hM hM'
      go_wp2_with fail
      refine wp_region_held_drew (S := (fun _ => True)) (by kernel_rfl) ?hS300 (fun hHeld => ?rest300)
      case hS300 => (first | trivial)
      refine wtk7 (i := 0) (v := ?v301) (ga7 rfl) (by kernel_rfl) (fun _ _ _ h => h) ⟨by rfl, ?hy301⟩ (by assumption) ?rest301
      case hy301 => (intro wq hSw; (try simp only [Two] at hSw); go_simp; try with_reducible rfl)
      try simp only [Act.put, sa7, sb7, sc7]
      refine wtk7 (i := 1) (v := ?v302) (ga7 rfl) (by kernel_rfl) (fun _ _ _ h => h) ⟨by rfl, ?hy302⟩ (by assumption) ?rest302
      case hy302 => (intro wq hSw; (try simp only [Two] at hSw); go_simp; try with_reducible rfl)
      try simp only [Act.put, sa7, sb7, sc7]
      refine wtk7 (i := 2) (v := ?v303) (ga7 rfl) (by kernel_rfl) (fun _ _ _ h => h) ⟨by rfl, ?hy303⟩ (by assumption) ?rest303
      case hy303 => (intro wq hSw; (try simp only [Two] at hSw); go_simp; try with_reducible rfl)
      try simp only [Act.put, sa7, sb7, sc7]
      refine wtk7 (i := 3) (v := ?v304) (ga7 rfl) (by kernel_rfl) (fun _ _ _ h => h) ⟨by rfl, ?hy304⟩ (by assumption) ?rest304
      case hy304 => (intro wq hSw; (try simp only [Two] at hSw); go_simp; try with_reducible rfl)
      try simp only [Act.put, sa7, sb7, sc7]
      refine wtk7 (i := 4) (v := ?v305) (ga7 rfl) (by kernel_rfl) (fun _ _ _ h => h) ⟨by rfl, ?hy305⟩ (by assumption) ?rest305
      case hy305 => (intro wq hSw; (try simp only [Two] at hSw); go_simp; try with_reducible rfl)
      try simp only [Act.put, sa7, sb7, sc7]
      refine wpAnyH_take (i := 5) (oi := _) (v := undef) (ga7 rfl) (by kernel_rfl) (by kernel_rfl) (by kernel_rfl) (fun _ _ _ h => h) (Or.inr ⟨by rfl, rfl⟩) (by assumption) ?rest306
      try simp only [Act.put, sa7, sb7, sc7]
      refine wpAnyH_take (i := 6) (oi := _) (v := undef) (ga7 rfl) (by kernel_rfl) (by kernel_rfl) (by kernel_rfl) (fun _ _ _ h => h) (Or.inr ⟨by rfl, rfl⟩) (by assumption) ?rest307
      try simp only [Act.put, sa7, sb7, sc7]
      refine wpAnyH_take (i := 7) (oi := _) (v := undef) (ga7 rfl) (by kernel_rfl) (by kernel_rfl) (by kernel_rfl) (fun _ _ _ h => h) (Or.inr ⟨by rfl, rfl⟩) (by assumption) ?rest308
      try simp only [Act.put, sa7, sb7, sc7]
      refine wpAnyH_take (i := 8) (oi := _) (v := undef) (ga7 rfl) (by kernel_rfl) (by kernel_rfl) (by kernel_rfl) (fun _ _ _ h => h) (Or.inr ⟨by rfl, rfl⟩) (by assumption) ?rest309
      try simp only [Act.put, sa7, sb7, sc7]
      refine wtk7 (i := 9) (v := ?v310) (ga7 rfl) (by kernel_rfl) (fun _ _ _ h => h) ⟨by rfl, ?hy310⟩ (by assumption) ?rest310
      case hy310 => (intro wq hSw; (try simp only [Two] at hSw); go_simp; try with_reducible rfl)
      try simp only [Act.put, sa7, sb7, sc7]
      refine wtk7 (i := 10) (v := ?v311) (ga7 rfl) (by kernel_rfl) (fun _ _ _ h => h) ⟨by rfl, ?hy311⟩ (by assumption) ?rest311
      case hy311 => (intro wq hSw; (try simp only [Two] at hSw); go_simp; try with_reducible rfl)
      try simp only [Act.put, sa7, sb7, sc7]
      refine wpAnyH_take (i := 11) (oi := _) (v := undef) (ga7 rfl) (by kernel_rfl) (by kernel_rfl) (by kernel_rfl) (fun _ _ _ h => h) (Or.inr ⟨by rfl, rfl⟩) (by assumption) ?rest312
      try simp only [Act.put, sa7, sb7, sc7]
      refine wpAnyH_take (i := 12) (oi := _) (v := undef) (ga7 rfl) (by kernel_rfl) (by kernel_rfl) (by kernel_rfl) (fun _ _ _ h => h) (Or.inr ⟨by rfl, rfl⟩) (by assumption) ?rest313
      try simp only [Act.put, sa7, sb7, sc7]
      refine wpAnyH_take (i := 13) (oi := _) (v := undef) (ga7 rfl) (by kernel_rfl) (by kernel_rfl) (by kernel_rfl) (fun _ _ _ h => h) (Or.inr ⟨by rfl, rfl⟩) (by assumption) ?rest314
      try simp only [Act.put, sa7, sb7, sc7]
      refine wpAnyH_take (i := 14) (oi := _) (v := undef) (ga7 rfl) (by kernel_rfl) (by kernel_rfl) (by kernel_rfl) (fun _ _ _ h => h) (Or.inr ⟨by rfl, rfl⟩) (by assumption) ?rest315
      try simp only [Act.put, sa7, sb7, sc7]
      refine wpAnyH_take (i := 15) (oi := _) (v := undef) (ga7 rfl) (by kernel_rfl) (by kernel_rfl) (by kernel_rfl) (fun _ _ _ h => h) (Or.inr ⟨by rfl, rfl⟩) (by assumption) ?rest316
      try simp only [Act.put, sa7, sb7, sc7]
      refine wpAnyH_take (i := 16) (oi := _) (v := undef) (ga7 rfl) (by kernel_rfl) (by kernel_rfl) (by kernel_rfl) (fun _ _ _ h => h) (Or.inr ⟨by rfl, rfl⟩) (by assumption) ?rest317
      try simp only [Act.put, sa7, sb7, sc7]
      refine wpAnyH_take (i := 17) (oi := _) (v := undef) (ga7 rfl) (by kernel_rfl) (by kernel_rfl) (by kernel_rfl) (fun _ _ _ h => h) (Or.inr ⟨by rfl, rfl⟩) (by assumption) ?rest318
      try simp only [Act.put, sa7, sb7, sc7]
      refine wpAnyH_take (i := 18) (oi := _) (v := undef) (ga7 rfl) (by kernel_rfl) (by kernel_rfl) (by kernel_rfl) (fun _ _ _ h => h) (Or.inr ⟨by rfl, rfl⟩) (by assumption) ?rest319
      try simp only [Act.put, sa7, sb7, sc7]
      refine wpAnyH_take (i := 19) (oi := _) (v := undef) (ga7 rfl) (by kernel_rfl) (by kernel_rfl) (by kernel_rfl) (fun _ _ _ h => h) (Or.inr ⟨by rfl, rfl⟩) (by assumption) ?rest320
      try simp only [Act.put, sa7, sb7, sc7]
      refine wtk7 (i := 20) (v := ?v321) (ga7 rfl) (by kernel_rfl) (fun _ _ _ h => h) ⟨by rfl, ?hy321⟩ (by assumption) ?rest321
      case hy321 => (intro wq hSw; (try simp only [Two] at hSw); go_simp; try with_reducible rfl)
      try simp only [Act.put, sa7, sb7, sc7]
      refine wpAnyH_done (by kernel_rfl) ?fin300 _
      go_wp2
      go_ret
      exact ⟨32, rfl, ⟨by omega, hall.out, fun h => by omega⟩, by repeat (first | with_reducible exact Below.refl _ _ | with_reducible refine Below.drew ?_ | with_reducible refine Below.alloc ?_ (by first | omega | (simp <;> omega)) _ | with_reducible refine Below.setCell ?_ (by first | omega | (simp <;> omega)) _ | with_reducible refine Below.trans ?_ (Below.mono hB (by first | omega | (simp <;> omega))))⟩

set_option maxRecDepth 100000 in
set_option maxHeartbeats 1600000 in
theorem alike_128 (x y c d : Nat) (f g : Nat → Nat) (w : World) (hx : Rw w x 128 f) (hy : Rw w y 128 g) :
    Calls Tryz.prog 130 #[.slice (some ⟨x, 0, none⟩) 128 c, .slice (some ⟨y, 0, none⟩) 128 d] w fun e w' => ∃ k : Nat, e = .returned (.int .i64 (k : Nat)) ∧ AlikeIs 128 f g k ∧ Below w.heap.size w w' := by
  go_enter Tryz.func130, Tryz.ntmps130
  go_wp2_with fail
  go_loopw [5] (fun i wr => ∃ (m : Nat) (M : Int), m ≤ 128 ∧ i = .int .i64 M ∧ Hid (M = (m : Nat)) ∧ 0 ≤ M ∧ M ≤ 128 ∧ Hid (∀ i, i < m → f i = g i) ∧ Rw wr x 128 f ∧ Rw wr y 128 g ∧ Below w.heap.size w wr) (fun i _ => 128 - (intOf i).toNat)
  case atStart => exact ⟨0, 0, by omega, rfl, rfl, by omega, by omega, fun i h => by omega, hx, hy, by repeat (first | with_reducible exact Below.refl _ _ | with_reducible refine Below.drew ?_ | with_reducible refine Below.alloc ?_ (by first | omega | (simp <;> omega)) _ | with_reducible refine Below.setCell ?_ (by first | omega | (simp <;> omega)) _)⟩
  case round =>
    clear hx hy
    obtain ⟨m, M, hm, rfl, hM, M0, M1, hall, hx, hy, hB⟩ := hrel
    have hM' := hM.out
    by_cases hlt : m < 128
    · have Ml : M < 128 := by omega
      have MN : M.toNat = m := by omega
      have c1 := hx.2.1 M.toNat (by omega)
      have c2 := hy.2.1 M.toNat (by omega)
      obtain ⟨q, hq⟩ : ∃ q : Int, q = ((f M.toNat : Nat) : Int) := ⟨_, rfl⟩
      obtain ⟨r, hr⟩ : ∃ r : Int, r = ((g M.toNat : Nat) : Int) := ⟨_, rfl⟩
      rw [← hq] at c1
      rw [← hr] at c2
      have S0 : AL2 x y M.toNat q r wr := ⟨c1, c2⟩
      have hqr : f m = g m ↔ q = r := by rw [hq, hr, MN]; omega
      clear c1 c2 hq hr
      by_cases hfg : q = r
      · have up : Hid (∀ i, i < m + 1 → f i = g i) := fun i hi => by
          by_cases e : i = m
          · subst e; exact hqr.2 hfg
          · exact hall.out i (by omega)
        subst hfg
        clear hqr hall hM' MN
        go_wp2_with fail
        refine wp_region_held_drew (S := (AL2 x y M.toNat q q)) (by kernel_rfl) ?hS400 (fun hHeld => ?rest400)
        case hS400 => (first | with_reducible exact S0.drew | with_reducible exact hHeld)
        refine wtk7 (i := 0) (v := ?v401) (ga7 rfl) (by kernel_rfl) (fun _ _ _ h => h) ⟨by rfl, ?hy401⟩ (by assumption) ?rest401
        case hy401 => (intro wq hSw; (try simp only [Two, AL2] at hSw); go_simp; try with_reducible rfl)
        try simp only [Act.put, sa7, sb7, sc7]
        refine wtk7 (i := 1) (v := ?v402) (ga7 rfl) (by kernel_rfl) (fun _ _ _ h => h) ⟨by rfl, ?hy402⟩ (by assumption) ?rest402
        case hy402 => (intro wq hSw; (try simp only [Two, AL2] at hSw); go_simp; try with_reducible rfl)
        try simp only [Act.put, sa7, sb7, sc7]
        refine wtk7 (i := 2) (v := ?v403) (ga7 rfl) (by kernel_rfl) (fun _ _ _ h => h) ⟨by rfl, ?hy403⟩ (by assumption) ?rest403
        case hy403 => (intro wq hSw; (try simp only [Two, AL2] at hSw); go_simp; try with_reducible rfl)
        try simp only [Act.put, sa7, sb7, sc7]
        refine wtk7 (i := 3) (v := ?v404) (ga7 rfl) (by kernel_rfl) (fun _ _ _ h => h) ⟨by rfl, ?hy404⟩ (by assumption) ?rest404
        case hy404 => (intro wq hSw; (try simp only [Two, AL2] at hSw); go_simp; try with_reducible rfl)
        try simp only [Act.put, sa7, sb7, sc7]
        refine wtk7 (i := 4) (v := ?v405) (ga7 rfl) (by kernel_rfl) (fun _ _ _ h => h) ⟨by rfl, ?hy405⟩ (by assumption) ?rest405
        case hy405 => (intro wq hSw; (try simp only [Two, AL2] at hSw); go_simp; try with_reducible rfl)
        try simp only [Act.put, sa7, sb7, sc7]
        refine wtk7 (i := 5) (v := ?v406) (ga7 rfl) (by kernel_rfl) (fun _ _ _ h => h) ⟨by rfl, ?hy406⟩ (by assumption) ?rest406
        case hy406 => (intro wq hSw; (try simp only [Two, AL2] at hSw); go_simp; try with_reducible rfl)
        try simp only [Act.put, sa7, sb7, sc7]
        refine wtk7 (i := 6) (v := ?v407) (ga7 rfl) (by kernel_rfl) (fun _ _ _ h => h) ⟨by rfl, ?hy407⟩ (by assumption) ?rest407
        case hy407 => (intro wq hSw; (try simp only [Two, AL2] at hSw); go_simp; try with_reducible rfl)
        try simp only [Act.put, sa7, sb7, sc7]
        refine wtk7 (i := 7) (v := ?v408) (ga7 rfl) (by kernel_rfl) (fun _ _ _ h => h) ⟨by rfl, ?hy408⟩ (by assumption) ?rest408
        case hy408 => (intro wq hSw; (try simp only [Two, AL2] at hSw); go_simp; try with_reducible rfl)
        try simp only [Act.put, sa7, sb7, sc7]
        refine wtk7 (i := 8) (v := ?v409) (ga7 rfl) (by kernel_rfl) (fun _ _ _ h => h) ⟨by rfl, ?hy409⟩ (by assumption) ?rest409
        case hy409 => (intro wq hSw; (try simp only [Two, AL2] at hSw); go_simp; try with_reducible rfl)
        try simp only [Act.put, sa7, sb7, sc7]
        refine wtk7 (i := 9) (v := ?v410) (ga7 rfl) (by kernel_rfl) (fun _ _ _ h => h) ⟨by rfl, ?hy410⟩ (by assumption) ?rest410
        case hy410 => (intro wq hSw; (try simp only [Two, AL2] at hSw); go_simp; try with_reducible rfl)
        try simp only [Act.put, sa7, sb7, sc7]
        refine wtk7 (i := 10) (v := ?v411) (ga7 rfl) (by kernel_rfl) (fun _ _ _ h => h) ⟨by rfl, ?hy411⟩ (by assumption) ?rest411
        case hy411 => (intro wq hSw; (try simp only [Two, AL2] at hSw); go_simp; try with_reducible rfl)
        try simp only [Act.put, sa7, sb7, sc7]
        refine wtk7 (i := 11) (v := ?v412) (ga7 rfl) (by kernel_rfl) (fun _ _ _ h => h) ⟨by rfl, ?hy412⟩ (by assumption) ?rest412
        case hy412 => (intro wq hSw; (try simp only [Two, AL2] at hSw); go_simp; try with_reducible rfl)
        try simp only [Act.put, sa7, sb7, sc7]
        refine wtk7 (i := 12) (v := ?v413) (ga7 rfl) (by kernel_rfl) (fun _ _ _ h => h) ⟨by rfl, ?hy413⟩ (by assumption) ?rest413
        case hy413 => (intro wq hSw; (try simp only [Two, AL2] at hSw); go_simp; try with_reducible rfl)
        try simp only [Act.put, sa7, sb7, sc7]
        refine wtk7 (i := 13) (v := ?v414) (ga7 rfl) (by kernel_rfl) (fun _ _ _ h => h) ⟨by rfl, ?hy414⟩ (by assumption) ?rest414
        case hy414 => (intro wq hSw; (try simp only [Two, AL2] at hSw); go_simp; try with_reducible rfl)
        try simp only [Act.put, sa7, sb7, sc7]
        refine wtk7 (i := 14) (v := ?v415) (ga7 rfl) (by kernel_rfl) (fun _ _ _ h => h) ⟨by rfl, ?hy415⟩ (by assumption) ?rest415
        case hy415 => (intro wq hSw; (try simp only [Two, AL2] at hSw); go_simp; try with_reducible rfl)
        try simp only [Act.put, sa7, sb7, sc7]
        refine wtk7 (i := 15) (v := ?v416) (ga7 rfl) (by kernel_rfl) (fun _ _ _ h => h) ⟨by rfl, ?hy416⟩ (by assumption) ?rest416
        case hy416 => (intro wq hSw; (try simp only [Two, AL2] at hSw); go_simp; try with_reducible rfl)
        try simp only [Act.put, sa7, sb7, sc7]
        refine wtk7 (i := 16) (v := ?v417) (ga7 rfl) (by kernel_rfl) (fun _ _ _ h => h) ⟨by rfl, ?hy417⟩ (by assumption) ?rest417
        case hy417 => (intro wq hSw; (try simp only [Two, AL2] at hSw); go_simp; try with_reducible rfl)
        try simp only [Act.put, sa7, sb7, sc7]
        refine wtk7 (i := 17) (v := ?v418) (ga7 rfl) (by kernel_rfl) (fun _ _ _ h => h) ⟨by rfl, ?hy418⟩ (by assumption) ?rest418
        case hy418 => (intro wq hSw; (try simp only [Two, AL2] at hSw); go_simp; try with_reducible rfl)
        try simp only [Act.put, sa7, sb7, sc7]
        refine wtk7 (i := 18) (v := ?v419) (ga7 rfl) (by kernel_rfl) (fun _ _ _ h => h) ⟨by rfl, ?hy419⟩ (by assumption) ?rest419
        case hy419 => (intro wq hSw; (try simp only [Two, AL2] at hSw); go_simp; try with_reducible rfl)
        try simp only [Act.put, sa7, sb7, sc7]
        refine wtk7 (i := 19) (v := ?v420) (ga7 rfl) (by kernel_rfl) (fun _ _ _ h => h) ⟨by rfl, ?hy420⟩ (by assumption) ?rest420
        case hy420 => (intro wq hSw; (try simp only [Two, AL2] at hSw); go_simp; try with_reducible rfl)
        try simp only [Act.put, sa7, sb7, sc7]
        refine wtk7 (i := 20) (v := ?v421) (ga7 rfl) (by kernel_rfl) (fun _ _ _ h => h) ⟨by rfl, ?hy421⟩ (by assumption) ?rest421
        case hy421 => (intro wq hSw; (try simp only [Two, AL2] at hSw); go_simp; try with_reducible rfl)
        try simp only [Act.put, sa7, sb7, sc7]
        refine wpAnyH_done (by kernel_rfl) ?fin400 _
        go_wp2
        go_roundw
        case measure => simp [intOf]; omega
        case rel => exact ⟨m + 1, M + 1, by omega, rfl, by show _ = _; have := hM.out; omega, by omega, by omega, up, hx, hy, by repeat (first | with_reducible exact Below.refl _ _ | with_reducible refine Below.drew ?_ | with_reducible refine Below.alloc ?_ (by first | omega | (simp <;> omega)) _ | with_reducible refine Below.setCell ?_ (by first | omega | (simp <;> omega)) _ | with_reducible refine Below.trans ?_ (Below.mono hB (by first | omega | (simp <;> omega))))⟩
      · have hne : Hid (f m ≠ g m) := fun c => hfg (hqr.1 c)
        have hfg' : (q == r) = false := by simpa using hfg
        have hfg2 : decide (q = r) = false := decide_eq_false hfg
        clear hqr hM' MN
        go_wp2_with fail
        refine wp_region_held_drew (S := (AL2 x y M.toNat q r)) (by kernel_rfl) ?hS500 (fun hHeld => ?rest500)
        case hS500 => (first | with_reducible exact S0.drew | with_reducible exact hHeld)
        refine wtk7 (i := 0) (v := ?v501) (ga7 rfl) (by kernel_rfl) (fun _ _ _ h => h) ⟨by rfl, ?hy501⟩ (by assumption) ?rest501
        case hy501 => (intro wq hSw; (try simp only [Two, AL2] at hSw); go_simp; try with_reducible rfl)
        try simp only [Act.put, sa7, sb7, sc7]
        refine wtk7 (i := 1) (v := ?v502) (ga7 rfl) (by kernel_rfl) (fun _ _ _ h => h) ⟨by rfl, ?hy502⟩ (by assumption) ?rest502
        case hy502 => (intro wq hSw; (try simp only [Two, AL2] at hSw); go_simp; try with_reducible rfl)
        try simp only [Act.put, sa7, sb7, sc7]
        refine wtk7 (i := 2) (v := ?v503) (ga7 rfl) (by kernel_rfl) (fun _ _ _ h => h) ⟨by rfl, ?hy503⟩ (by assumption) ?rest503
        case hy503 => (intro wq hSw; (try simp only [Two, AL2] at hSw); go_simp; try with_reducible rfl)
        try simp only [Act.put, sa7, sb7, sc7]
        refine wtk7 (i := 3) (v := ?v504) (ga7 rfl) (by kernel_rfl) (fun _ _ _ h => h) ⟨by rfl, ?hy504⟩ (by assumption) ?rest504
        case hy504 => (intro wq hSw; (try simp only [Two, AL2] at hSw); go_simp; try with_reducible rfl)
        try simp only [Act.put, sa7, sb7, sc7]
        refine wtk7 (i := 4) (v := ?v505) (ga7 rfl) (by kernel_rfl) (fun _ _ _ h => h) ⟨by rfl, ?hy505⟩ (by assumption) ?rest505
        case hy505 => (intro wq hSw; (try simp only [Two, AL2] at hSw); go_simp; try with_reducible rfl)
        try simp only [Act.put, sa7, sb7, sc7]
        refine wtk7 (i := 5) (v := ?v506) (ga7 rfl) (by kernel_rfl) (fun _ _ _ h => h) ⟨by rfl, ?hy506⟩ (by assumption) ?rest506
        case hy506 => (intro wq hSw; (try simp only [Two, AL2] at hSw); go_simp; try with_reducible rfl)
        try simp only [Act.put, sa7, sb7, sc7]
        refine wtk7 (i := 6) (v := ?v507) (ga7 rfl) (by kernel_rfl) (fun _ _ _ h => h) ⟨by rfl, ?hy507⟩ (by assumption) ?rest507
        case hy507 => (intro wq hSw; (try simp only [Two, AL2] at hSw); go_simp; try with_reducible rfl)
        try simp only [Act.put, sa7, sb7, sc7]
        refine wtk7 (i := 7) (v := ?v508) (ga7 rfl) (by kernel_rfl) (fun _ _ _ h => h) ⟨by rfl, ?hy508⟩ (by assumption) ?rest508
        case hy508 => (intro wq hSw; (try simp only [Two, AL2] at hSw); go_simp; try with_reducible rfl)
        try simp only [Act.put, sa7, sb7, sc7]
        refine wtk7 (i := 8) (v := ?v509) (ga7 rfl) (by kernel_rfl) (fun _ _ _ h => h) ⟨by rfl, ?hy509⟩ (by assumption) ?rest509
        case hy509 => (intro wq hSw; (try simp only [Two, AL2] at hSw); go_simp; try with_reducible rfl)
        try simp only [Act.put, sa7, sb7, sc7]
        refine wtk7 (i := 9) (v := ?v510) (ga7 rfl) (by kernel_rfl) (fun _ _ _ h => h) ⟨by rfl, ?hy510⟩ (by assumption) ?rest510
        case hy510 => (intro wq hSw; (try simp only [Two, AL2] at hSw); go_simp; try with_reducible rfl)
        try simp only [Act.put, sa7, sb7, sc7]
        refine wtk7 (i := 10) (v := ?v511) (ga7 rfl) (by kernel_rfl) (fun _ _ _ h => h) ⟨by rfl, ?hy511⟩ (by assumption) ?rest511
        case hy511 => (intro wq hSw; (try simp only [Two, AL2] at hSw); go_simp; try with_reducible rfl)
        try simp only [Act.put, sa7, sb7, sc7]
        refine wtk7 (i := 11) (v := ?v512) (ga7 rfl) (by kernel_rfl) (fun _ _ _ h => h) ⟨by rfl, ?hy512⟩ (by assumption) ?rest512
        case hy512 => (intro wq hSw; (try simp only [Two, AL2] at hSw); go_simp; try with_reducible rfl)
        try simp only [Act.put, sa7, sb7, sc7]
        refine wtk7 (i := 12) (v := ?v513) (ga7 rfl) (by kernel_rfl) (fun _ _ _ h => h) ⟨by rfl, ?hy513⟩ (by assumption) ?rest513
        case hy513 => (intro wq hSw; (try simp only [Two, AL2] at hSw); go_simp; try with_reducible rfl)
        try simp only [Act.put, sa7, sb7, sc7]
        refine wtk7 (i := 13) (v := ?v514) (ga7 rfl) (by kernel_rfl) (fun _ _ _ h => h) ⟨by rfl, ?hy514⟩ (by assumption) ?rest514
        case hy514 => (intro wq hSw; (try simp only [Two, AL2] at hSw); go_simp; try with_reducible rfl)
        try simp only [Act.put, sa7, sb7, sc7]
        refine wtk7 (i := 14) (v := ?v515) (ga7 rfl) (by kernel_rfl) (fun _ _ _ h => h) ⟨by rfl, ?hy515⟩ (by assumption) ?rest515
        case hy515 => (intro wq hSw; (try simp only [Two, AL2] at hSw); go_simp; try with_reducible rfl)
        try simp only [Act.put, sa7, sb7, sc7]
        refine wtk7 (i := 15) (v := ?v516) (ga7 rfl) (by kernel_rfl) (fun _ _ _ h => h) ⟨by rfl, ?hy516⟩ (by assumption) ?rest516
        case hy516 => (intro wq hSw; (try simp only [Two, AL2] at hSw); go_simp; try with_reducible rfl)
        try simp only [Act.put, sa7, sb7, sc7]
        refine wtk7 (i := 16) (v := ?v517) (ga7 rfl) (by kernel_rfl) (fun _ _ _ h => h) ⟨by rfl, ?hy517⟩ (by assumption) ?rest517
        case hy517 => (intro wq hSw; (try simp only [Two, AL2] at hSw); go_simp; try with_reducible rfl)
        try simp only [Act.put, sa7, sb7, sc7]
        refine wtk7 (i := 17) (v := ?v518) (ga7 rfl) (by kernel_rfl) (fun _ _ _ h => h) ⟨by rfl, ?hy518⟩ (by assumption) ?rest518
        case hy518 => (intro wq hSw; (try simp only [Two, AL2] at hSw); go_simp; try with_reducible rfl)
        try simp only [Act.put, sa7, sb7, sc7]
        refine wtk7 (i := 18) (v := ?v519) (ga7 rfl) (by kernel_rfl) (fun _ _ _ h => h) ⟨by rfl, ?hy519⟩ (by assumption) ?rest519
        case hy519 => (intro wq hSw; (try simp only [Two, AL2] at hSw); go_simp; try with_reducible rfl)
        try simp only [Act.put, sa7, sb7, sc7]
        refine wtk7 (i := 19) (v := ?v520) (ga7 rfl) (by kernel_rfl) (fun _ _ _ h => h) ⟨by rfl, ?hy520⟩ (by assumption) ?rest520
        case hy520 => (intro wq hSw; (try simp only [Two, AL2] at hSw); go_simp; try with_reducible rfl)
        try simp only [Act.put, sa7, sb7, sc7]
        refine wtk7 (i := 20) (v := ?v521) (ga7 rfl) (by kernel_rfl) (fun _ _ _ h => h) ⟨by rfl, ?hy521⟩ (by assumption) ?rest521
        case hy521 => (intro wq hSw; (try simp only [Two, AL2] at hSw); go_simp; try with_reducible rfl)
        try simp only [Act.put, sa7, sb7, sc7]
        refine wpAnyH_done (by kernel_rfl) ?fin500 _
        go_wp2
        go_ret
        exact ⟨m, by rw [← hM.out]; rfl, ⟨by omega, hall.out, fun _ => hne.out⟩, by repeat (first | with_reducible exact Below.refl _ _ | with_reducible refine Below.drew ?_ | with_reducible refine Below.alloc ?_ (by first | omega | (simp <;> omega)) _ | with_reducible refine Below.setCell ?_ (by first | omega | (simp <;> omega)) _ | with_reducible refine Below.trans ?_ (Below.mono hB (by first | omega | (simp <;> omega))))⟩
    · obtain rfl : m = 128 := by omega
      obtain rfl : M = 128 := by omega
      have S0 : AL2 x y 0 0 0 wr ∨ True := Or.inr trivial
      clear hM hM'
      go_wp2_with fail
      refine wp_region_held_drew (S := (fun _ => True)) (by kernel_rfl) ?hS600 (fun hHeld => ?rest600)
      case hS600 => (first | trivial)
      refine wtk7 (i := 0) (v := ?v601) (ga7 rfl) (by kernel_rfl) (fun _ _ _ h => h) ⟨by rfl, ?hy601⟩ (by assumption) ?rest601
      case hy601 => (intro wq hSw; (try simp only [Two] at hSw); go_simp; try with_reducible rfl)
      try simp only [Act.put, sa7, sb7, sc7]
      refine wtk7 (i := 1) (v := ?v602) (ga7 rfl) (by kernel_rfl) (fun _ _ _ h => h) ⟨by rfl, ?hy602⟩ (by assumption) ?rest602
      case hy602 => (intro wq hSw; (try simp only [Two] at hSw); go_simp; try with_reducible rfl)
      try simp only [Act.put, sa7, sb7, sc7]
      refine wtk7 (i := 2) (v := ?v603) (ga7 rfl) (by kernel_rfl) (fun _ _ _ h => h) ⟨by rfl, ?hy603⟩ (by assumption) ?rest603
      case hy603 => (intro wq hSw; (try simp only [Two] at hSw); go_simp; try with_reducible rfl)
      try simp only [Act.put, sa7, sb7, sc7]
      refine wtk7 (i := 3) (v := ?v604) (ga7 rfl) (by kernel_rfl) (fun _ _ _ h => h) ⟨by rfl, ?hy604⟩ (by assumption) ?rest604
      case hy604 => (intro wq hSw; (try simp only [Two] at hSw); go_simp; try with_reducible rfl)
      try simp only [Act.put, sa7, sb7, sc7]
      refine wtk7 (i := 4) (v := ?v605) (ga7 rfl) (by kernel_rfl) (fun _ _ _ h => h) ⟨by rfl, ?hy605⟩ (by assumption) ?rest605
      case hy605 => (intro wq hSw; (try simp only [Two] at hSw); go_simp; try with_reducible rfl)
      try simp only [Act.put, sa7, sb7, sc7]
      refine wpAnyH_take (i := 5) (oi := _) (v := undef) (ga7 rfl) (by kernel_rfl) (by kernel_rfl) (by kernel_rfl) (fun _ _ _ h => h) (Or.inr ⟨by rfl, rfl⟩) (by assumption) ?rest606
      try simp only [Act.put, sa7, sb7, sc7]
      refine wpAnyH_take (i := 6) (oi := _) (v := undef) (ga7 rfl) (by kernel_rfl) (by kernel_rfl) (by kernel_rfl) (fun _ _ _ h => h) (Or.inr ⟨by rfl, rfl⟩) (by assumption) ?rest607
      try simp only [Act.put, sa7, sb7, sc7]
      refine wpAnyH_take (i := 7) (oi := _) (v := undef) (ga7 rfl) (by kernel_rfl) (by kernel_rfl) (by kernel_rfl) (fun _ _ _ h => h) (Or.inr ⟨by rfl, rfl⟩) (by assumption) ?rest608
      try simp only [Act.put, sa7, sb7, sc7]
      refine wpAnyH_take (i := 8) (oi := _) (v := undef) (ga7 rfl) (by kernel_rfl) (by kernel_rfl) (by kernel_rfl) (fun _ _ _ h => h) (Or.inr ⟨by rfl, rfl⟩) (by assumption) ?rest609
      try simp only [Act.put, sa7, sb7, sc7]
      refine wtk7 (i := 9) (v := ?v610) (ga7 rfl) (by kernel_rfl) (fun _ _ _ h => h) ⟨by rfl, ?hy610⟩ (by assumption) ?rest610
      case hy610 => (intro wq hSw; (try simp only [Two] at hSw); go_simp; try with_reducible rfl)
      try simp only [Act.put, sa7, sb7, sc7]
      refine wtk7 (i := 10) (v := ?v611) (ga7 rfl) (by kernel_rfl) (fun _ _ _ h => h) ⟨by rfl, ?hy611⟩ (by assumption) ?rest611
      case hy611 => (intro wq hSw; (try simp only [Two] at hSw); go_simp; try with_reducible rfl)
      try simp only [Act.put, sa7, sb7, sc7]
      refine wpAnyH_take (i := 11) (oi := _) (v := undef) (ga7 rfl) (by kernel_rfl) (by kernel_rfl) (by kernel_rfl) (fun _ _ _ h => h) (Or.inr ⟨by rfl, rfl⟩) (by assumption) ?rest612
      try simp only [Act.put, sa7, sb7, sc7]
      refine wpAnyH_take (i := 12) (oi := _) (v := undef) (ga7 rfl) (by kernel_rfl) (by kernel_rfl) (by kernel_rfl) (fun _ _ _ h => h) (Or.inr ⟨by rfl, rfl⟩) (by assumption) ?rest613
      try simp only [Act.put, sa7, sb7, sc7]
      refine wpAnyH_take (i := 13) (oi := _) (v := undef) (ga7 rfl) (by kernel_rfl) (by kernel_rfl) (by kernel_rfl) (fun _ _ _ h => h) (Or.inr ⟨by rfl, rfl⟩) (by assumption) ?rest614
      try simp only [Act.put, sa7, sb7, sc7]
      refine wpAnyH_take (i := 14) (oi := _) (v := undef) (ga7 rfl) (by kernel_rfl) (by kernel_rfl) (by kernel_rfl) (fun _ _ _ h => h) (Or.inr ⟨by rfl, rfl⟩) (by assumption) ?rest615
      try simp only [Act.put, sa7, sb7, sc7]
      refine wpAnyH_take (i := 15) (oi := _) (v := undef) (ga7 rfl) (by kernel_rfl) (by kernel_rfl) (by kernel_rfl) (fun _ _ _ h => h) (Or.inr ⟨by rfl, rfl⟩) (by assumption) ?rest616
      try simp only [Act.put, sa7, sb7, sc7]
      refine wpAnyH_take (i := 16) (oi := _) (v := undef) (ga7 rfl) (by kernel_rfl) (by kernel_rfl) (by kernel_rfl) (fun _ _ _ h => h) (Or.inr ⟨by rfl, rfl⟩) (by assumption) ?rest617
      try simp only [Act.put, sa7, sb7, sc7]
      refine wpAnyH_take (i := 17) (oi := _) (v := undef) (ga7 rfl) (by kernel_rfl) (by kernel_rfl) (by kernel_rfl) (fun _ _ _ h => h) (Or.inr ⟨by rfl, rfl⟩) (by assumption) ?rest618
      try simp only [Act.put, sa7, sb7, sc7]
      refine wpAnyH_take (i := 18) (oi := _) (v := undef) (ga7 rfl) (by kernel_rfl) (by kernel_rfl) (by kernel_rfl) (fun _ _ _ h => h) (Or.inr ⟨by rfl, rfl⟩) (by assumption) ?rest619
      try simp only [Act.put, sa7, sb7, sc7]
      refine wpAnyH_take (i := 19) (oi := _) (v := undef) (ga7 rfl) (by kernel_rfl) (by kernel_rfl) (by kernel_rfl) (fun _ _ _ h => h) (Or.inr ⟨by rfl, rfl⟩) (by assumption) ?rest620
      try simp only [Act.put, sa7, sb7, sc7]
      refine wtk7 (i := 20) (v := ?v621) (ga7 rfl) (by kernel_rfl) (fun _ _ _ h => h) ⟨by rfl, ?hy621⟩ (by assumption) ?rest621
      case hy621 => (intro wq hSw; (try simp only [Two] at hSw); go_simp; try with_reducible rfl)
      try simp only [Act.put, sa7, sb7, sc7]
      refine wpAnyH_done (by kernel_rfl) ?fin600 _
      go_wp2
      go_ret
      exact ⟨128, rfl, ⟨by omega, hall.out, fun h => by omega⟩, by repeat (first | with_reducible exact Below.refl _ _ | with_reducible refine Below.drew ?_ | with_reducible refine Below.alloc ?_ (by first | omega | (simp <;> omega)) _ | with_reducible refine Below.setCell ?_ (by first | omega | (simp <;> omega)) _ | with_reducible refine Below.trans ?_ (Below.mono hB (by first | omega | (simp <;> omega))))⟩

/-- The first B bits are alike. -/
theorem top_eq {W n a : Nat} (hn : n < 2 ^ W) (ha : a < 2 ^ W) : ∀ B, B ≤ W → ((∀ i, i < B → bitN n (W - 1 - i) = bitN a (W - 1 - i)) ↔ n / 2 ^ (W - B) = a / 2 ^ (W - B))
  | 0, _ => by
    rw [Nat.sub_zero, Nat.div_eq_of_lt hn, Nat.div_eq_of_lt ha]
    exact ⟨fun _ => rfl, fun _ i h => by omega⟩
  | B + 1, hB => by
    have ih := top_eq hn ha B (by omega)
    have e : W - B = W - (B + 1) + 1 := by omega
    have h1 := half_up n (W - (B + 1))
    have h2 := half_up a (W - (B + 1))
    rw [e] at ih
    have b1 := bitN_le n (W - (B + 1))
    have b2 := bitN_le a (W - (B + 1))
    constructor
    · intro h
      have h3 := ih.1 (fun i hi => h i (by omega))
      have h4 := h B (by omega)
      rw [show W - 1 - B = W - (B + 1) by omega] at h4
      omega
    · intro h i hi
      have h3 : n / 2 ^ (W - (B + 1) + 1) = a / 2 ^ (W - (B + 1) + 1) := by omega
      by_cases e2 : i = B
      · subst e2
        rw [show W - 1 - i = W - (i + 1) by omega]; omega
      · exact ih.2 h3 i (by omega)

theorem has_alike {v : Bool} {n a k W : Nat} {b : Int} (hW : widthA v = (W : Nat)) (hn : n < 2 ^ W) (ha : a < 2 ^ W) (hk : okP v n b = true) (ho : okA v a = true) (hA : AlikeIs W (fun i => bitN n (W - 1 - i)) (fun i => bitN a (W - 1 - i)) k) : hasB v n b v a = decide (b ≤ ((k : Nat) : Int)) := by
  obtain ⟨hf, hm⟩ := okP_parts hk
  obtain ⟨_, h0, h1⟩ := fitsB_parts hf
  have hf2 : fitsB v a b = true := by
    simp only [fitsB, ho, Bool.true_and, Bool.and_eq_true, decide_eq_true_eq]; exact ⟨h0, h1⟩
  obtain ⟨B, rfl⟩ : ∃ B : Nat, b = (B : Nat) := ⟨b.toNat, by omega⟩
  have hB : B ≤ W := by omega
  have ek : behindP v (B : Nat) = W - B := by unfold behindP; omega
  have te := top_eq hn ha B hB
  have e1 := ofN_self hm
  unfold hasB
  rw [hf2, Bool.eq_iff_iff]
  simp only [Bool.true_and, Bool.and_eq_true, decide_eq_true_eq, true_and]
  have key : n = ofN v a (B : Nat) ↔ n / 2 ^ (W - B) = a / 2 ^ (W - B) := by
    unfold ofN at *
    rw [ek] at *
    have p := pow_pos2 (W - B)
    constructor
    · intro h; rw [h, Nat.mul_div_cancel _ p]
    · intro h; rw [← h, e1]
  rw [key, ← te]
  constructor
  · intro h
    have : B ≤ k := by
      apply Classical.byContradiction
      intro c
      exact hA.2.2 (by omega) (h k (by omega))
    omega
  · intro h i hi
    exact hA.2.1 i (by omega)

/-- A prefix's block and an address's, that are read. -/
def PA (B A : Nat) (v : Bool) (h l b : Int) (u : Bool) (i m : Int) (wx : World) : Prop :=
  (wx.cell? ⟨B, 0, none⟩ = some (.bool v) ∧ wx.cell? ⟨B, 1, none⟩ = some (.int .u64 h) ∧ wx.cell? ⟨B, 2, none⟩ = some (.int .u64 l) ∧ wx.cell? ⟨B, 3, none⟩ = some (.int .i64 b) ∧ wx.cell? ⟨A, 0, none⟩ = some (.bool u) ∧ wx.cell? ⟨A, 1, none⟩ = some (.int .u64 i) ∧ wx.cell? ⟨A, 2, none⟩ = some (.int .u64 m)) ∧ Blk wx B #[.bool v, .int .u64 h, .int .u64 l, .int .i64 b] 28 ∧ Blk wx A #[.bool u, .int .u64 i, .int .u64 m] 26

theorem PA.of {B A : Nat} {v : Bool} {h l b : Int} {u : Bool} {i m : Int} {wx : World} (x : Blk wx B #[.bool v, .int .u64 h, .int .u64 l, .int .i64 b] 28) (y : Blk wx A #[.bool u, .int .u64 i, .int .u64 m] 26) : PA B A v h l b u i m wx :=
  ⟨⟨x.cell 0, x.cell 1, x.cell 2, x.cell 3, y.cell 0, y.cell 1, y.cell 2⟩, x, y⟩

theorem PA.drew {B A : Nat} {v : Bool} {h l b : Int} {u : Bool} {i m : Int} {wx : World} (s : PA B A v h l b u i m wx) : PA B A v h l b u i m wx.drew := s

theorem PA.below {B A : Nat} {v : Bool} {h l b : Int} {u : Bool} {i m : Int} {wx w1 : World} (s : PA B A v h l b u i m wx) (hb : Below wx.heap.size wx w1) : PA B A v h l b u i m w1 := PA.of (s.2.1.below hb) (s.2.2.below hb)

theorem PA.start (w : World) (v : Bool) (h l b : Int) (u : Bool) (i m : Int) : PA w.heap.size (w.heap.size + 1) v h l b u i m ((w.alloc (.cells #[.bool v, .int .u64 h, .int .u64 l, .int .i64 b] 28)).alloc (.cells #[.bool u, .int .u64 i, .int .u64 m] 26)) ∧ Below w.heap.size w ((w.alloc (.cells #[.bool v, .int .u64 h, .int .u64 l, .int .i64 b] 28)).alloc (.cells #[.bool u, .int .u64 i, .int .u64 m] 26)) :=
  ⟨PA.of ((Blk.new _ _ _).alloc _) (by simpa using Blk.new (w.alloc (.cells #[.bool v, .int .u64 h, .int .u64 l, .int .i64 b] 28)) #[.bool u, .int .u64 i, .int .u64 m] 26), by repeat (first | with_reducible exact Below.refl _ _ | with_reducible refine Below.drew ?_ | with_reducible refine Below.alloc ?_ (by first | omega | (simp <;> omega)) _ | with_reducible refine Below.setCell ?_ (by first | omega | (simp <;> omega)) _)⟩

set_option maxHeartbeats 1600000 in
theorem rhas_no {v u : Bool} {ph pl b h l : Int} {n a : Nat} (hp : IsNum ph pl n) (ha : IsNum h l a) (hc : okP v n b = false ∨ (okP v n b = true ∧ okA u a = false) ∨ (okP v n b = true ∧ okA u a = true ∧ u ≠ v)) (w : World) :
    Calls Tryz.prog 89 #[pv v ph pl b, av u h l] w fun e w' => e = .returned (.bool (hasB v n b u a)) ∧ Below w.heap.size w w' := by
  have f : Hid (hasB v n b u a = false) := by
    show _ = _
    cases hx : hasB v n b u a
    · rfl
    · obtain ⟨e, h1, _⟩ := has_parts hx
      have h2 := has_ok hx
      subst e
      rcases hc with h | ⟨_, h⟩ | ⟨_, _, h⟩
      · rw [h] at h2; cases h2
      · rw [(fitsB_parts h1).1] at h; cases h
      · exact absurd rfl h
  have C1 := fun w' => rpright_c (v := v) (b := b) hp w'
  have C2 := fun w' => rright_c (v := u) ha w'
  obtain ⟨R, B0⟩ := PA.start w v ph pl b u h l
  clear hp ha
  rcases hc with h1 | ⟨h1, h2⟩ | ⟨h1, h2, h3⟩
  · rw [h1] at C1
    clear C2 h1
    have F := R.1
    go_enter Tryz.func89, Tryz.ntmps89
    go_wp2_with fail
    refine (C1 _).mono ?_
    rintro e w1 ⟨rfl, hb1⟩
    have B1 := B0.trans (hb1.mono B0.size)
    replace R := R.below hb1
    replace F := R.1
    clear C1 hb1 B0
    go_wp2
    go_ret
    exact ⟨by rw [f.out]; rfl, B1⟩
  · rw [h1] at C1
    rw [h2] at C2
    clear h1 h2
    have F := R.1
    go_enter Tryz.func89, Tryz.ntmps89
    go_wp2_with fail
    refine (C1 _).mono ?_
    rintro e w1 ⟨rfl, hb1⟩
    have B1 := B0.trans (hb1.mono B0.size)
    replace R := R.below hb1
    replace F := R.1
    clear C1 hb1 B0
    go_wp2_with fail
    refine (C2 _).mono ?_
    rintro e w2 ⟨rfl, hb2⟩
    have B2 := B1.trans (hb2.mono B1.size)
    replace R := R.below hb2
    replace F := R.1
    clear C2 hb2 B1
    go_wp2
    go_ret
    exact ⟨by rw [f.out]; rfl, B2⟩
  · rw [h1] at C1
    rw [h2] at C2
    have h3' : (u == v) = false := by simpa using h3
    have h4 : ¬ u = v := h3
    clear h1 h2 h3
    have F := R.1
    go_enter Tryz.func89, Tryz.ntmps89
    go_wp2_with fail
    refine (C1 _).mono ?_
    rintro e w1 ⟨rfl, hb1⟩
    have B1 := B0.trans (hb1.mono B0.size)
    replace R := R.below hb1
    replace F := R.1
    clear C1 hb1 B0
    go_wp2_with fail
    refine (C2 _).mono ?_
    rintro e w2 ⟨rfl, hb2⟩
    have B2 := B1.trans (hb2.mono B1.size)
    replace R := R.below hb2
    replace F := R.1
    clear C2 hb2 B1
    go_wp2
    go_ret
    exact ⟨by rw [f.out]; rfl, B2⟩

set_option maxRecDepth 100000 in
set_option maxHeartbeats 1600000 in
theorem rhas_32 {ph pl b h l : Int} {n a : Nat} (hp : IsNum ph pl n) (ha : IsNum h l a) (hk : okP false n b = true) (ho : okA false a = true) (hn : n < 2 ^ 32) (haW : a < 2 ^ 32) (w : World) :
    Calls Tryz.prog 89 #[pv false ph pl b, av false h l] w fun e w' => e = .returned (.bool (hasB false n b false a)) ∧ Below w.heap.size w w' := by
  have C1 := fun w' => rpright_c (v := false) (b := b) hp w'
  have C2 := fun w' => rright_c (v := false) ha w'
  have f : Hid (∀ k, AlikeIs 32 (fun i => bitN n (32 - 1 - i)) (fun i => bitN a (32 - 1 - i)) k → hasB false n b false a = decide (b ≤ ((k : Nat) : Int))) := fun k hA => has_alike rfl hn haW hk ho hA
  rw [hk] at C1
  rw [ho] at C2
  have D1 : Hid (∀ w', _) := fun w' => row_32 hp w'
  have D2 : Hid (∀ w', _) := fun w' => row_32 ha w'
  obtain ⟨R, B0⟩ := PA.start w false ph pl b false h l
  clear hp ha hk ho hn haW
  generalize hasB false n b false a = X at *
  have F := R.1
  go_enter Tryz.func89, Tryz.ntmps89
  go_wp2_with fail
  refine (C1 _).mono ?_
  rintro e w1 ⟨rfl, hb1⟩
  have B1 := B0.trans (hb1.mono B0.size)
  replace R := R.below hb1
  replace F := R.1
  clear C1 hb1 B0
  go_wp2_with fail
  refine (C2 _).mono ?_
  rintro e w2 ⟨rfl, hb2⟩
  have B2 := B1.trans (hb2.mono B1.size)
  replace R := R.below hb2
  replace F := R.1
  clear C2 hb2 B1
  go_upto_region 3 with fail
  clear F
  refine wp_region_held_drew (S := (PA w.heap.size (w.heap.size + 1) false ph pl b false h l)) (by kernel_rfl) ?hS700 (fun hHeld => ?rest700)
  case hS700 => (first | with_reducible exact R.drew | with_reducible exact hHeld.below hb3 | with_reducible exact hHeld.below hb4 | with_reducible exact hHeld.below hb5)
  refine wtk7 (i := 0) (v := ?v701) (ga7 rfl) (by kernel_rfl) (fun _ _ _ h => h) ⟨by rfl, ?hy701⟩ (by assumption) ?rest701
  case hy701 => (intro wq hSw; (try simp only [Two, PA] at hSw); go_simp; try with_reducible rfl)
  try simp only [Act.put, sa7, sb7, sc7]
  refine wtk7 (i := 1) (v := ?v702) (ga7 rfl) (by kernel_rfl) (fun _ _ _ h => h) ⟨by rfl, ?hy702⟩ (by assumption) ?rest702
  case hy702 => (intro wq hSw; (try simp only [Two, PA] at hSw); go_simp; try with_reducible rfl)
  try simp only [Act.put, sa7, sb7, sc7]
  refine wtk7 (i := 3) (v := ?v703) (ga7 rfl) (by kernel_rfl) (fun _ _ _ h => h) ⟨by rfl, ?hy703⟩ (by assumption) ?rest703
  case hy703 => (intro wq hSw; (try simp only [Two, PA] at hSw); go_simp; try with_reducible rfl)
  try simp only [Act.put, sa7, sb7, sc7]
  refine wtk7 (i := 6) (v := ?v704) (ga7 rfl) (by kernel_rfl) (fun _ _ _ h => h) ⟨by rfl, ?hy704⟩ (by assumption) ?rest704
  case hy704 => (intro wq hSw; (try simp only [Two, PA] at hSw); go_simp; try with_reducible rfl)
  try simp only [Act.put, sa7, sb7, sc7]
  refine wtk7 (i := 7) (v := ?v705) (ga7 rfl) (by kernel_rfl) (fun _ _ _ h => h) ⟨by rfl, ?hy705⟩ (by assumption) ?rest705
  case hy705 => (intro wq hSw; (try simp only [Two, PA] at hSw); go_simp; try with_reducible rfl)
  try simp only [Act.put, sa7, sb7, sc7]
  refine wpAnyH_ready (rs := [2]) (by kernel_rfl) (by simp) ?rdy706
  refine AllReadyH.cons (ga7 rfl) (fun K hK => ?stp706) AllReadyH.nil
  go_simp
  go_wp2_with fail
  (refine (D1.out _).mono ?_; rintro e w3 ⟨g1, cap1, rfl, hg1, hc1, hm1, rw1, hb3⟩; have B3 : Below w.heap.size w w3 := Below.via hb3 B2 (Nat.le_refl _) rfl rfl rfl rfl)
  go_wp2_with fail
  refine hK.out _ _ ?hSn706 (fun hHeld2 => ?rest706)
  case hSn706 => (first | with_reducible exact R.drew | with_reducible exact hHeld.below hb3 | with_reducible exact hHeld.below hb4 | with_reducible exact hHeld.below hb5)
  clear hK K hHeld
  have hHeld := hHeld2
  clear hHeld2
  try simp only [Act.put, sa7, sb7, sc7]
  refine wpAnyH_ready (rs := [4]) (by kernel_rfl) (by simp) ?rdy707
  refine AllReadyH.cons (ga7 rfl) (fun K hK => ?stp707) AllReadyH.nil
  go_simp
  go_wp2_with fail
  (refine (D2.out _).mono ?_; rintro e w4 ⟨g2, cap2, rfl, hg2, hc2, hm2, rw2, hb4⟩; have B4 : Below w.heap.size w w4 := Below.via hb4 B3 (Nat.le_refl _) rfl rfl rfl rfl)
  go_wp2_with fail
  refine hK.out _ _ ?hSn707 (fun hHeld2 => ?rest707)
  case hSn707 => (first | with_reducible exact R.drew | with_reducible exact hHeld.below hb3 | with_reducible exact hHeld.below hb4 | with_reducible exact hHeld.below hb5)
  clear hK K hHeld
  have hHeld := hHeld2
  clear hHeld2
  try simp only [Act.put, sa7, sb7, sc7]
  refine wpAnyH_ready (rs := [5]) (by kernel_rfl) (by simp) ?rdy708
  refine AllReadyH.cons (ga7 rfl) (fun K hK => ?stp708) AllReadyH.nil
  go_simp
  go_wp2_with fail
  (refine (alike_32 g1 g2 cap1 cap2 _ _ _ (rw1.below hb4) rw2).mono ?_; rintro e w5 ⟨k, rfl, hA, hb5⟩; have B5 : Below w.heap.size w w5 := Below.via hb5 B4 (Nat.le_refl _) rfl rfl rfl rfl; have hX : Hid (X = decide (b ≤ ((k : Nat) : Int))) := f.out k hA; clear hA rw1 rw2)
  go_wp2_with fail
  refine hK.out _ _ ?hSn708 (fun hHeld2 => ?rest708)
  case hSn708 => (first | with_reducible exact R.drew | with_reducible exact hHeld.below hb3 | with_reducible exact hHeld.below hb4 | with_reducible exact hHeld.below hb5)
  clear hK K hHeld
  have hHeld := hHeld2
  clear hHeld2
  try simp only [Act.put, sa7, sb7, sc7]
  refine wtk7 (i := 8) (v := ?v709) (ga7 rfl) (by kernel_rfl) (fun _ _ _ h => h) ⟨by rfl, ?hy709⟩ (by assumption) ?rest709
  case hy709 => (intro wq hSw; (try simp only [Two, PA] at hSw); go_simp; try with_reducible rfl)
  try simp only [Act.put, sa7, sb7, sc7]
  refine wtk7 (i := 9) (v := ?v710) (ga7 rfl) (by kernel_rfl) (fun _ _ _ h => h) ⟨by rfl, ?hy710⟩ (by assumption) ?rest710
  case hy710 => (intro wq hSw; (try simp only [Two, PA] at hSw); go_simp; try with_reducible rfl)
  try simp only [Act.put, sa7, sb7, sc7]
  refine wpAnyH_done (by kernel_rfl) ?fin700 _
  go_wp2
  go_ret
  exact ⟨by rw [hX.out]; first | rfl | simp, B5⟩

set_option maxRecDepth 100000 in
set_option maxHeartbeats 1600000 in
theorem rhas_128 {ph pl b h l : Int} {n a : Nat} (hp : IsNum ph pl n) (ha : IsNum h l a) (hk : okP true n b = true) (ho : okA true a = true) (hn : n < 2 ^ 128) (haW : a < 2 ^ 128) (w : World) :
    Calls Tryz.prog 89 #[pv true ph pl b, av true h l] w fun e w' => e = .returned (.bool (hasB true n b true a)) ∧ Below w.heap.size w w' := by
  have C1 := fun w' => rpright_c (v := true) (b := b) hp w'
  have C2 := fun w' => rright_c (v := true) ha w'
  have f : Hid (∀ k, AlikeIs 128 (fun i => bitN n (128 - 1 - i)) (fun i => bitN a (128 - 1 - i)) k → hasB true n b true a = decide (b ≤ ((k : Nat) : Int))) := fun k hA => has_alike rfl hn haW hk ho hA
  rw [hk] at C1
  rw [ho] at C2
  have D1 : Hid (∀ w', _) := fun w' => row_128 hp w'
  have D2 : Hid (∀ w', _) := fun w' => row_128 ha w'
  obtain ⟨R, B0⟩ := PA.start w true ph pl b true h l
  clear hp ha hk ho hn haW
  generalize hasB true n b true a = X at *
  have F := R.1
  go_enter Tryz.func89, Tryz.ntmps89
  go_wp2_with fail
  refine (C1 _).mono ?_
  rintro e w1 ⟨rfl, hb1⟩
  have B1 := B0.trans (hb1.mono B0.size)
  replace R := R.below hb1
  replace F := R.1
  clear C1 hb1 B0
  go_wp2_with fail
  refine (C2 _).mono ?_
  rintro e w2 ⟨rfl, hb2⟩
  have B2 := B1.trans (hb2.mono B1.size)
  replace R := R.below hb2
  replace F := R.1
  clear C2 hb2 B1
  go_upto_region 3 with fail
  clear F
  refine wp_region_held_drew (S := (PA w.heap.size (w.heap.size + 1) true ph pl b true h l)) (by kernel_rfl) ?hS800 (fun hHeld => ?rest800)
  case hS800 => (first | with_reducible exact R.drew | with_reducible exact hHeld.below hb3 | with_reducible exact hHeld.below hb4 | with_reducible exact hHeld.below hb5)
  refine wtk7 (i := 0) (v := ?v801) (ga7 rfl) (by kernel_rfl) (fun _ _ _ h => h) ⟨by rfl, ?hy801⟩ (by assumption) ?rest801
  case hy801 => (intro wq hSw; (try simp only [Two, PA] at hSw); go_simp; try with_reducible rfl)
  try simp only [Act.put, sa7, sb7, sc7]
  refine wtk7 (i := 1) (v := ?v802) (ga7 rfl) (by kernel_rfl) (fun _ _ _ h => h) ⟨by rfl, ?hy802⟩ (by assumption) ?rest802
  case hy802 => (intro wq hSw; (try simp only [Two, PA] at hSw); go_simp; try with_reducible rfl)
  try simp only [Act.put, sa7, sb7, sc7]
  refine wtk7 (i := 3) (v := ?v803) (ga7 rfl) (by kernel_rfl) (fun _ _ _ h => h) ⟨by rfl, ?hy803⟩ (by assumption) ?rest803
  case hy803 => (intro wq hSw; (try simp only [Two, PA] at hSw); go_simp; try with_reducible rfl)
  try simp only [Act.put, sa7, sb7, sc7]
  refine wtk7 (i := 6) (v := ?v804) (ga7 rfl) (by kernel_rfl) (fun _ _ _ h => h) ⟨by rfl, ?hy804⟩ (by assumption) ?rest804
  case hy804 => (intro wq hSw; (try simp only [Two, PA] at hSw); go_simp; try with_reducible rfl)
  try simp only [Act.put, sa7, sb7, sc7]
  refine wtk7 (i := 7) (v := ?v805) (ga7 rfl) (by kernel_rfl) (fun _ _ _ h => h) ⟨by rfl, ?hy805⟩ (by assumption) ?rest805
  case hy805 => (intro wq hSw; (try simp only [Two, PA] at hSw); go_simp; try with_reducible rfl)
  try simp only [Act.put, sa7, sb7, sc7]
  refine wpAnyH_ready (rs := [2]) (by kernel_rfl) (by simp) ?rdy806
  refine AllReadyH.cons (ga7 rfl) (fun K hK => ?stp806) AllReadyH.nil
  go_simp
  go_wp2_with fail
  (refine (D1.out _).mono ?_; rintro e w3 ⟨g1, cap1, rfl, hg1, hc1, hm1, rw1, hb3⟩; have B3 : Below w.heap.size w w3 := Below.via hb3 B2 (Nat.le_refl _) rfl rfl rfl rfl)
  go_wp2_with fail
  refine hK.out _ _ ?hSn806 (fun hHeld2 => ?rest806)
  case hSn806 => (first | with_reducible exact R.drew | with_reducible exact hHeld.below hb3 | with_reducible exact hHeld.below hb4 | with_reducible exact hHeld.below hb5)
  clear hK K hHeld
  have hHeld := hHeld2
  clear hHeld2
  try simp only [Act.put, sa7, sb7, sc7]
  refine wpAnyH_ready (rs := [4]) (by kernel_rfl) (by simp) ?rdy807
  refine AllReadyH.cons (ga7 rfl) (fun K hK => ?stp807) AllReadyH.nil
  go_simp
  go_wp2_with fail
  (refine (D2.out _).mono ?_; rintro e w4 ⟨g2, cap2, rfl, hg2, hc2, hm2, rw2, hb4⟩; have B4 : Below w.heap.size w w4 := Below.via hb4 B3 (Nat.le_refl _) rfl rfl rfl rfl)
  go_wp2_with fail
  refine hK.out _ _ ?hSn807 (fun hHeld2 => ?rest807)
  case hSn807 => (first | with_reducible exact R.drew | with_reducible exact hHeld.below hb3 | with_reducible exact hHeld.below hb4 | with_reducible exact hHeld.below hb5)
  clear hK K hHeld
  have hHeld := hHeld2
  clear hHeld2
  try simp only [Act.put, sa7, sb7, sc7]
  refine wpAnyH_ready (rs := [5]) (by kernel_rfl) (by simp) ?rdy808
  refine AllReadyH.cons (ga7 rfl) (fun K hK => ?stp808) AllReadyH.nil
  go_simp
  go_wp2_with fail
  (refine (alike_128 g1 g2 cap1 cap2 _ _ _ (rw1.below hb4) rw2).mono ?_; rintro e w5 ⟨k, rfl, hA, hb5⟩; have B5 : Below w.heap.size w w5 := Below.via hb5 B4 (Nat.le_refl _) rfl rfl rfl rfl; have hX : Hid (X = decide (b ≤ ((k : Nat) : Int))) := f.out k hA; clear hA rw1 rw2)
  go_wp2_with fail
  refine hK.out _ _ ?hSn808 (fun hHeld2 => ?rest808)
  case hSn808 => (first | with_reducible exact R.drew | with_reducible exact hHeld.below hb3 | with_reducible exact hHeld.below hb4 | with_reducible exact hHeld.below hb5)
  clear hK K hHeld
  have hHeld := hHeld2
  clear hHeld2
  try simp only [Act.put, sa7, sb7, sc7]
  refine wtk7 (i := 8) (v := ?v809) (ga7 rfl) (by kernel_rfl) (fun _ _ _ h => h) ⟨by rfl, ?hy809⟩ (by assumption) ?rest809
  case hy809 => (intro wq hSw; (try simp only [Two, PA] at hSw); go_simp; try with_reducible rfl)
  try simp only [Act.put, sa7, sb7, sc7]
  refine wtk7 (i := 9) (v := ?v810) (ga7 rfl) (by kernel_rfl) (fun _ _ _ h => h) ⟨by rfl, ?hy810⟩ (by assumption) ?rest810
  case hy810 => (intro wq hSw; (try simp only [Two, PA] at hSw); go_simp; try with_reducible rfl)
  try simp only [Act.put, sa7, sb7, sc7]
  refine wpAnyH_done (by kernel_rfl) ?fin800 _
  go_wp2
  go_ret
  exact ⟨by rw [hX.out]; first | rfl | simp, B5⟩

theorem rhas_c {v u : Bool} {ph pl b h l : Int} {n a : Nat} (hp : IsNum ph pl n) (ha : IsNum h l a) (w : World) :
    Calls Tryz.prog 89 #[pv v ph pl b, av u h l] w fun e w' => e = .returned (.bool (hasB v n b u a)) ∧ Below w.heap.size w w' := by
  cases hk : okP v n b
  · exact rhas_no hp ha (Or.inl hk) w
  · cases ho : okA u a
    · exact rhas_no hp ha (Or.inr (Or.inl ⟨hk, ho⟩)) w
    · by_cases e : u = v
      · subst e
        have hn := (fitsB_parts (okP_parts hk).1).1
        cases u
        · exact rhas_32 hp ha hk ho (okA_pow hn) (okA_pow ho) w
        · exact rhas_128 hp ha hk ho (by simpa using hp.lt) (by simpa using ha.lt) w
      · exact rhas_no hp ha (Or.inr (Or.inr ⟨hk, ho, e⟩)) w
end Go.Proofs.YtllidkflgjjkfaaGreatDoor

namespace Go.Proofs.YtllidkflgjjkfaaGreatDoor
open Go.ChangeShapes Go.WideShapes Go.ChangeAt Go.RowKit
set_option linter.unusedVariables false
set_option linter.unusedSimpArgs false

theorem within_no {v : Bool} {n : Nat} {b : Int} {u : Bool} {m : Nat} {c : Int} (h : okP v n b = false ∨ okP u m c = false ∨ hasB u m c v n = false) : withinB v n b u m c = false := by
  cases hx : withinB v n b u m c
  · rfl
  · obtain ⟨h1, h2, h3⟩ := within_parts hx
    have h4 := has_ok h3
    rcases h with h | h | h
    · rw [h] at h1; cases h1
    · rw [h] at h4; cases h4
    · rw [h] at h3; cases h3

theorem over_has {v : Bool} {n : Nat} {b : Int} {u : Bool} {m : Nat} {c : Int} (hp : okP v n b = true) (hq : okP u m c = true) : overB v n b u m c = (hasB u m c v n || hasB v n b u m) := by
  have key : ∀ {v : Bool} {n : Nat} {b : Int} {u : Bool} {m : Nat} {c : Int}, okP v n b = true → okP u m c = true → hasB u m c v n = true → withinB v n b u m c = true ∨ withinB u m c v n b = true := by
    intro v n b u m c hp hq h
    obtain ⟨rfl, f1, e1⟩ := has_parts h
    have hm := (okP_parts hp).2
    have h2 : hasB u n b u n = true := has_mk (okP_parts hp).1 (ofN_self hm).symm
    rcases Int.le_total c b with hc | hc
    · exact Or.inl (has_within h2 h hc)
    · exact Or.inr (has_within h h2 hc)
  rw [Bool.eq_iff_iff]
  unfold overB
  simp only [Bool.or_eq_true]
  constructor
  · rintro (h | h)
    · exact Or.inl (within_parts h).2.2
    · exact Or.inr (within_parts h).2.2
  · rintro (h | h)
    · exact key hp hq h
    · exact (key hq hp h).symm

theorem over_no {v : Bool} {n : Nat} {b : Int} {u : Bool} {m : Nat} {c : Int} (h : okP v n b = false ∨ okP u m c = false) : overB v n b u m c = false := by
  unfold overB
  rcases h with h | h
  · rw [within_no (Or.inl h), within_no (Or.inr (Or.inl h))]; rfl
  · rw [within_no (Or.inr (Or.inl h)), within_no (Or.inl h)]; rfl

set_option maxHeartbeats 1600000 in
theorem rover_c {v u : Bool} {ph pl b qh ql c : Int} {n m : Nat} (hp : IsNum ph pl n) (hq : IsNum qh ql m) (w : World) :
    Calls Tryz.prog 45 #[pv v ph pl b, pv u qh ql c] w fun e w' => e = .returned (.bool (overB v n b u m c)) ∧ Below w.heap.size w w' := by
  obtain ⟨z, hz⟩ : ∃ z, overB v n b u m c = z := ⟨_, rfl⟩
  rw [hz]
  obtain ⟨x, hx⟩ : ∃ x, okP v n b = x := ⟨_, rfl⟩
  obtain ⟨y, hy⟩ : ∃ y, okP u m c = y := ⟨_, rfl⟩
  obtain ⟨t, ht⟩ : ∃ t, hasB u m c v n = t := ⟨_, rfl⟩
  obtain ⟨s, hs⟩ : ∃ s, hasB v n b u m = s := ⟨_, rfl⟩
  have C1 : Hid (∀ w', Calls Tryz.prog 44 #[pv v ph pl b] w' fun e w1 => e = .returned (.bool x) ∧ Below w'.heap.size w' w1) := fun w' => hx ▸ rpright_c hp w'
  have C2 : Hid (∀ w', Calls Tryz.prog 44 #[pv u qh ql c] w' fun e w1 => e = .returned (.bool y) ∧ Below w'.heap.size w' w1) := fun w' => hy ▸ rpright_c hq w'
  have C3 : Hid (∀ w', Calls Tryz.prog 89 #[pv u qh ql c, av v ph pl] w' fun e w1 => e = .returned (.bool t) ∧ Below w'.heap.size w' w1) := fun w' => ht ▸ rhas_c hq hp w'
  have C4 : Hid (∀ w', Calls Tryz.prog 89 #[pv v ph pl b, av u qh ql] w' fun e w1 => e = .returned (.bool s) ∧ Below w'.heap.size w' w1) := fun w' => hs ▸ rhas_c hp hq w'
  have R : PP w.heap.size (w.heap.size + 1) v ph pl b u qh ql c ((w.alloc (.cells #[.bool v, .int .u64 ph, .int .u64 pl, .int .i64 b] 28)).alloc (.cells #[.bool u, .int .u64 qh, .int .u64 ql, .int .i64 c] 28)) := PP.of ((Blk.new _ _ _).alloc _) (by simpa using Blk.new (w.alloc (.cells #[.bool v, .int .u64 ph, .int .u64 pl, .int .i64 b] 28)) #[.bool u, .int .u64 qh, .int .u64 ql, .int .i64 c] 28)
  have B0 : Below w.heap.size w ((w.alloc (.cells #[.bool v, .int .u64 ph, .int .u64 pl, .int .i64 b] 28)).alloc (.cells #[.bool u, .int .u64 qh, .int .u64 ql, .int .i64 c] 28)) := by repeat (first | with_reducible exact Below.refl _ _ | with_reducible refine Below.drew ?_ | with_reducible refine Below.alloc ?_ (by first | omega | (simp <;> omega)) _ | with_reducible refine Below.setCell ?_ (by first | omega | (simp <;> omega)) _)
  cases x
  · obtain rfl : z = false := by rw [← hz]; exact over_no (Or.inl hx)
    clear hp hq hx hy ht hz hs
    have F := R.1
    go_enter Tryz.func45, Tryz.ntmps45
    go_wp2_with fail
    refine (C1.out _).mono ?_
    rintro e wn ⟨rfl, hb⟩
    replace B0 := B0.trans (hb.mono B0.size)
    replace R := R.below hb
    replace F := R.1
    clear hb
    go_wp2
    go_ret
    exact ⟨by rfl, B0⟩
  · cases y
    · obtain rfl : z = false := by rw [← hz]; exact over_no (Or.inr hy)
      clear hp hq hx hy ht hz hs
      have F := R.1
      go_enter Tryz.func45, Tryz.ntmps45
      go_wp2_with fail
      refine (C1.out _).mono ?_
      rintro e wn ⟨rfl, hb⟩
      replace B0 := B0.trans (hb.mono B0.size)
      replace R := R.below hb
      replace F := R.1
      clear hb
      go_wp2_with fail
      refine (C2.out _).mono ?_
      rintro e wn ⟨rfl, hb⟩
      replace B0 := B0.trans (hb.mono B0.size)
      replace R := R.below hb
      replace F := R.1
      clear hb
      go_wp2
      go_ret
      exact ⟨by rfl, B0⟩
    · have e := over_has hx hy
      rw [hz, ht, hs] at e
      cases t
      · obtain rfl : z = s := by simpa using e
        clear hp hq hx hy ht hz hs e
        have F := R.1
        go_enter Tryz.func45, Tryz.ntmps45
        go_wp2_with fail
        refine (C1.out _).mono ?_
        rintro e wn ⟨rfl, hb⟩
        replace B0 := B0.trans (hb.mono B0.size)
        replace R := R.below hb
        replace F := R.1
        clear hb
        go_wp2_with fail
        refine (C2.out _).mono ?_
        rintro e wn ⟨rfl, hb⟩
        replace B0 := B0.trans (hb.mono B0.size)
        replace R := R.below hb
        replace F := R.1
        clear hb
        go_wp2_with fail
        refine (C3.out _).mono ?_
        rintro e wn ⟨rfl, hb⟩
        replace B0 := B0.trans (hb.mono B0.size)
        replace R := R.below hb
        replace F := R.1
        clear hb
        go_wp2_with fail
        refine (C4.out _).mono ?_
        rintro e wn ⟨rfl, hb⟩
        replace B0 := B0.trans (hb.mono B0.size)
        replace R := R.below hb
        replace F := R.1
        clear hb
        go_wp2
        go_ret
        exact ⟨by rfl, B0⟩
      · obtain rfl : z = true := by simpa using e
        clear hp hq hx hy ht hz hs e
        have F := R.1
        go_enter Tryz.func45, Tryz.ntmps45
        go_wp2_with fail
        refine (C1.out _).mono ?_
        rintro e wn ⟨rfl, hb⟩
        replace B0 := B0.trans (hb.mono B0.size)
        replace R := R.below hb
        replace F := R.1
        clear hb
        go_wp2_with fail
        refine (C2.out _).mono ?_
        rintro e wn ⟨rfl, hb⟩
        replace B0 := B0.trans (hb.mono B0.size)
        replace R := R.below hb
        replace F := R.1
        clear hb
        go_wp2_with fail
        refine (C3.out _).mono ?_
        rintro e wn ⟨rfl, hb⟩
        replace B0 := B0.trans (hb.mono B0.size)
        replace R := R.below hb
        replace F := R.1
        clear hb
        go_wp2
        go_ret
        exact ⟨by rfl, B0⟩
end Go.Proofs.YtllidkflgjjkfaaGreatDoor
