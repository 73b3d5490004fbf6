/-
  Texts RfD, RfO, Awake2 of the proof.
-/
import Derived.Deep.RegionHeld
import Derived.Outline
import Derived.Test.YtipjmmhlfmahbaaGreatDoorP24
import Derived.Test.YtipjmmhlfmahbaaGreatDoorP23
import Derived.Test.YtipjmmhlfmahbaaGreatDoorP13
import Derived.Test.YtipjmmhlfmahbaaGreatDoorP26
import Derived.Test.YtipjmmhlfmahbaaGreatDoorP20

namespace Go.Proofs.YtipjmmhlfmahbaaGreatDoor
open Go.ChangeShapes Go.WideShapes Go.ChangeAt Go.RowKit
set_option linter.unusedVariables false
set_option linter.unusedSimpArgs false

theorem ret_i8 {k : IntKind} {a b : Int} (h : a = b) : Ending.returned (.int k a) = .returned (.int k b) := by rw [h]

/-- What Digit answers. -/
def digV (c : Nat) : Int := match hexD c with
  | some d => (d : Int)
  | none => -1

set_option maxHeartbeats 1600000 in
theorem rdigit_c {c : Nat} (hc : c < 256) {V : Int} (hV : digV c = V) (w : World) :
    Calls Tryz.prog 42 #[.int .u8 c] w fun e w' => e = .returned (.int .i64 V) ∧ w' = w := by
  unfold digV hexD at hV
  rcases (show c < 48 ∨ (48 ≤ c ∧ c ≤ 57) ∨ (57 < c ∧ c < 65) ∨ (65 ≤ c ∧ c ≤ 70) ∨ (70 < c ∧ c < 97) ∨ (97 ≤ c ∧ c ≤ 102) ∨ 102 < c by omega) with h | ⟨h, k⟩ | ⟨h, k⟩ | ⟨h, k⟩ | ⟨h, k⟩ | ⟨h, k⟩ | h
  · rw [if_neg (by omega), if_neg (by omega), if_neg (by omega)] at hV
    have HV : Hid (-1 = V) := hV
    have a1 : ¬ (c : Int) ≥ 48 := by omega
    have a2 : ¬ (c : Int) ≥ 97 := by omega
    have a3 : ¬ (c : Int) ≥ 65 := by omega
    clear hV h
    go_enter Tryz.func42, Tryz.ntmps42
    go_wp2
    go_ret
    exact ⟨ret_i8 HV.out, rfl⟩
  · rw [if_pos (by omega)] at hV
    have HV : Hid ((c : Int) - 48 = V) := by show _ = _; simp only [] at hV; omega
    have a1 : (c : Int) ≥ 48 := by omega
    have a2 : (c : Int) ≤ 57 := by omega
    clear hV h k
    go_enter Tryz.func42, Tryz.ntmps42
    go_wp2
    go_ret
    exact ⟨ret_i8 HV.out, rfl⟩
  · rw [if_neg (by omega), if_neg (by omega), if_neg (by omega)] at hV
    have HV : Hid (-1 = V) := hV
    have a1 : (c : Int) ≥ 48 := by omega
    have a4 : ¬ (c : Int) ≤ 57 := by omega
    have a2 : ¬ (c : Int) ≥ 97 := by omega
    have a3 : ¬ (c : Int) ≥ 65 := by omega
    clear hV h k
    go_enter Tryz.func42, Tryz.ntmps42
    go_wp2
    go_ret
    exact ⟨ret_i8 HV.out, rfl⟩
  · rw [if_neg (by omega), if_neg (by omega), if_pos (by omega)] at hV
    have HV : Hid ((c : Int) - 55 = V) := by show _ = _; simp only [] at hV; omega
    have a1 : (c : Int) ≥ 48 := by omega
    have a4 : ¬ (c : Int) ≤ 57 := by omega
    have a2 : ¬ (c : Int) ≥ 97 := by omega
    have a3 : (c : Int) ≥ 65 := by omega
    have a5 : (c : Int) ≤ 70 := by omega
    clear hV h k
    go_enter Tryz.func42, Tryz.ntmps42
    go_wp2
    go_ret
    exact ⟨ret_i8 HV.out, rfl⟩
  · rw [if_neg (by omega), if_neg (by omega), if_neg (by omega)] at hV
    have HV : Hid (-1 = V) := hV
    have a1 : (c : Int) ≥ 48 := by omega
    have a4 : ¬ (c : Int) ≤ 57 := by omega
    have a2 : ¬ (c : Int) ≥ 97 := by omega
    have a3 : (c : Int) ≥ 65 := by omega
    have a5 : ¬ (c : Int) ≤ 70 := by omega
    clear hV h k
    go_enter Tryz.func42, Tryz.ntmps42
    go_wp2
    go_ret
    exact ⟨ret_i8 HV.out, rfl⟩
  · rw [if_neg (by omega), if_pos (by omega)] at hV
    have HV : Hid ((c : Int) - 87 = V) := by show _ = _; simp only [] at hV; omega
    have a1 : (c : Int) ≥ 48 := by omega
    have a4 : ¬ (c : Int) ≤ 57 := by omega
    have a2 : (c : Int) ≥ 97 := by omega
    have a5 : (c : Int) ≤ 102 := by omega
    clear hV h k
    go_enter Tryz.func42, Tryz.ntmps42
    go_wp2
    go_ret
    exact ⟨ret_i8 HV.out, rfl⟩
  · rw [if_neg (by omega), if_neg (by omega), if_neg (by omega)] at hV
    have HV : Hid (-1 = V) := hV
    have a1 : (c : Int) ≥ 48 := by omega
    have a4 : ¬ (c : Int) ≤ 57 := by omega
    have a2 : (c : Int) ≥ 97 := by omega
    have a5 : ¬ (c : Int) ≤ 102 := by omega
    have a3 : (c : Int) ≥ 65 := by omega
    have a6 : ¬ (c : Int) ≤ 70 := by omega
    clear hV h
    go_enter Tryz.func42, Tryz.ntmps42
    go_wp2
    go_ret
    exact ⟨ret_i8 HV.out, rfl⟩

/-- Bytes as cells. -/
abbrev bytC (l : List Nat) : List Value := l.map fun n : Nat => .int .u8 (n : Int)

/-- A number that isn't there yet is -1. -/
def noI : Option Nat → Int
  | none => -1
  | some v => (v : Int)

/-- What Four answers. -/
def FourIs (l : List UInt8) (base : Nat) (sv : Value) (ok : Bool) (W : World) : Prop := (∃ bs, fourS l none [] = some bs ∧ ok = true ∧ W.ownsRow base 5 1 sv 4 (bytC bs)) ∨ (fourS l none [] = none ∧ ok = false)

def FourRet (l : List UInt8) (w : World) (e : Ending) (W : World) : Prop := ∃ sv ok, e = .returned (.tuple #[sv, .bool ok]) ∧ Hid (FourIs l w.heap.size sv ok W) ∧ Below w.heap.size w W

theorem drop_cons8 (s : ByteArray) (k : Nat) (h : k < s.size) : s.data.toList.drop k = s[k] :: s.data.toList.drop (k + 1) := by
  have h' : k < s.data.toList.length := by rw [Array.length_toList]; exact h
  rw [List.drop_eq_getElem_cons h']
  rfl

theorem drop_end8 (s : ByteArray) : s.data.toList.drop s.size = [] := by
  apply List.drop_of_length_le
  rw [Array.length_toList]
  exact Nat.le_refl _

set_option maxRecDepth 100000 in
set_option maxHeartbeats 3200000 in
theorem rfour_c (s : ByteArray) (hs : s.size ≤ 1000) (w : World) :
    Calls Tryz.prog 40 #[.string s] w fun e w' => FourRet s.data.toList w e w' := by
  obtain ⟨i0, hi, hz0, hz1, hz2⟩ := info_parts infoU8
  have O0 : (w.alloc (.cells #[] 5)).ownsRow w.heap.size 5 1 (.slice (some ⟨w.heap.size, 0, none⟩) 0 0) 0 (bytC []) := World.ownsRow_made _ _ _ (Nat.le_refl _) (Nat.zero_le _) rfl
  have B0 : Below w.heap.size w (w.alloc (.cells #[] 5)) := by repeat (first | with_reducible exact Below.refl _ _ | with_reducible refine Below.drew ?_ | with_reducible refine Below.alloc ?_ (by first | omega | (simp <;> omega)) _ | with_reducible refine Below.setCell ?_ (by first | omega | (simp <;> omega)) _)
  obtain ⟨R, hR⟩ : ∃ R, fourS s.data.toList none [] = R := ⟨_, rfl⟩
  have RH := hide hR
  have R0 : Hid (fourS (s.data.toList.drop 0) none [] = R) := hR
  have D8 := hide (drop_cons8 s)
  have DE := hide (drop_end8 s)
  clear hR
  go_enter Tryz.func40, Tryz.ntmps40
  go_wp2_with fail
  go_loopw [4, 5, 6] (fun u nv iv wr => ∃ (k : Nat) (no : Option Nat) (out : List Nat), iv = .int .i64 k ∧ k ≤ s.size + 1 ∧ nv = .int .i64 (noI no) ∧ (∀ v, no = some v → v < 256) ∧ out.length ≤ 4 ∧ Hid (wr.ownsRow w.heap.size 5 1 u out.length (bytC out)) ∧ Hid (Below w.heap.size w wr) ∧
    Hid (if k ≤ s.size then fourS (s.data.toList.drop k) no out = R else (if out.length = 4 then some out else none) = R)) (fun _ _ iv _ => s.size + 2 - (intOf iv).toNat)
  case atStart => exact ⟨0, none, [], rfl, by omega, rfl, (fun v e => by cases e), by simp, O0, B0, by show (if _ then _ else _); rw [if_pos (by omega)]; exact R0.out⟩
  case round =>
    clear O0 B0 R0
    obtain ⟨k, no, out, rfl, hk, rfl, hno, hol, hown, hb, hF⟩ := hrel
    obtain ⟨q, cap, hu⟩ : ∃ q cap, u4 = .slice q out.length cap := by
      rcases hown.out.2 with ⟨h1, h2⟩ | ⟨g', cp, cur, h1, _⟩
      · exact ⟨none, 0, by rw [h1, h2]⟩
      · exact ⟨some ⟨g', 0, none⟩, cp, h1⟩
    subst hu
    have hs := hb.out.size
    have BAD : Hid (R = none → ∀ sv W, FourIs s.data.toList w.heap.size sv false W) := fun e sv W => Or.inr ⟨by rw [RH.out, e], rfl⟩
    by_cases h1 : k ≤ s.size
    · have h1' : (k : Int) ≤ (s.size : Int) := by omega
      have hF1 : fourS (s.data.toList.drop k) no out = R := by
        have := hF.out
        rwa [if_pos h1] at this
      clear hF
      by_cases h2 : k = s.size
      · subst h2
        rw [DE.out] at hF1
        cases no with
        | none =>
          have e : R = none := hF1.symm
          have G := hide (BAD.out e (.slice none 0 0))
          have hB := hide hb.out
          clear BAD hF1 hown hb e hs RH D8 DE
          go_wp2
          go_ret2
          exact ⟨_, _, by first | rfl | simp, G.out _, hB.out⟩
        | some v =>
          have vl := hno v rfl
          have n0 : ¬ (v : Int) < 0 := by omega
          have hF2 : (if out.length = 3 then some (out ++ [v]) else none) = R := hF1
          by_cases l4 : out.length = 4
          · rw [if_neg (by omega)] at hF2
            have G := hide (BAD.out hF2.symm (.slice none 0 0))
            have hB := hide hb.out
            have l4' : ((out.length : Int) == 4) = true := by simp; omega
            have l5 : (out.length : Int) = 4 := by omega
            clear BAD hF1 hF2 hown hb hs RH D8 DE l4
            show Code.wp _ _ _ _ _
            have nv : noI (some v) = (v : Int) := rfl
            rw [nv]
            go_wp2
            go_ret2
            exact ⟨_, _, by first | rfl | simp, G.out _, hB.out⟩
          · have l4' : ((out.length : Int) == 4) = false := by simp; omega
            have wv : IntKind.u8.wrap (v : Int) = (v : Int) := by simp [IntKind.wrap, IntKind.bits, IntKind.signed]; omega
            have nv : noI (some v) = (v : Int) := rfl
            rw [nv]
            clear hF1 BAD
            go_wp2_with (first | (at_builtin; refine wpList_append_own _ rfl _ _ 63 rfl w.heap.size 5 i0 (.int .u8 0) 1 1 Tryz.underlying63 hi hz0 hz1 hz2 rfl (by decide) _ _ _ rfl (hown.out.alloc _) ⟨wr.heap.size, 0, none⟩ 1 1 [.int .u8 (v : Int)] rfl rfl (one_new wr _ _) (one_ok _ _) ?c3 ?c4 ?c5 ?_))
            case c3 => unfold maxLen; omega
            case c4 => omega
            case c5 => (first | omega | (simp; omega))
            intro v' w4 hown4 hgrow _
            have B4 := hide (below_grown hb.out hs hown.out hgrow)
            have O4 : Hid (w4.ownsRow w.heap.size 5 1 v' (out ++ [v]).length (bytC (out ++ [v]))) := by
              show World.ownsRow _ _ _ _ _ _ _
              rw [List.length_append, show bytC (out ++ [v]) = bytC out ++ [.int .u8 (v : Int)] by simp [bytC]]
              exact hown4
            clear hown hgrow hown4 hb
            go_wp2
            go_roundw
            case measure => (simp [intOf]; try omega)
            case rel =>
              refine ⟨s.size + 1, none, out ++ [v], by go_num, by omega, rfl, (fun v e => by cases e), by simp; omega, O4, B4, ?_⟩
              show (if _ then _ else _)
              rw [if_neg (by omega)]
              rw [← hF2]
              by_cases l3 : out.length = 3
              · rw [if_pos l3, if_pos (by simp; omega)]
              · rw [if_neg l3, if_neg (by simp; omega)]
      · have hlt : k < s.size := by omega
        have hki : (k : Int) < (s.size : Int) := by omega
        have e1 : ((k : Int) == (s.size : Int)) = false := by simp; omega
        rw [D8.out k hlt, fourS_cons] at hF1
        obtain ⟨c, hc⟩ : ∃ c : UInt8, s[k] = c := ⟨_, rfl⟩
        have bg : (s[k].toNat : Int) = (c.toNat : Int) := by rw [hc]
        rw [hc] at hF1
        have cl : c.toNat < 256 := UInt8.toNat_lt c
        obtain ⟨C, hC⟩ : ∃ C : Nat, c.toNat = C := ⟨_, rfl⟩
        have c46 : c = 46 ↔ C = 46 := by rw [← hC]; exact ⟨fun e => by rw [e]; rfl, fun e => UInt8.toNat_inj.1 e⟩
        rw [hC] at hF1 bg cl
        by_cases d : C = 46
        · rw [if_pos (c46.2 d)] at hF1
          have d' : ((C : Int) == 46) = true := by rw [beq_iff_eq]; omega
          cases no with
          | none =>
            have e : R = none := hF1.symm
            have G := hide (BAD.out e (.slice none 0 0))
            have hB := hide hb.out
            have nv : noI none = -1 := rfl
            rw [nv]
            clear BAD hF1 hown hb e hs RH D8 DE c46 hC hc d
            go_wp2
            go_ret2
            exact ⟨_, _, by first | rfl | simp, G.out _, hB.out⟩
          | some v =>
            have vl := hno v rfl
            have n0 : ¬ (v : Int) < 0 := by omega
            have nv : noI (some v) = (v : Int) := rfl
            rw [nv]
            have hF2 : (if out.length = 4 then none else fourS (s.data.toList.drop (k + 1)) none (out ++ [v])) = R := hF1
            by_cases l4 : out.length = 4
            · rw [if_pos l4] at hF2
              have G := hide (BAD.out hF2.symm (.slice none 0 0))
              have hB := hide hb.out
              have l4' : ((out.length : Int) == 4) = true := by simp; omega
              have l5 : (out.length : Int) = 4 := by omega
              clear BAD hF1 hF2 hown hb hs RH D8 DE l4 c46 hC hc d
              go_wp2
              go_ret2
              exact ⟨_, _, by first | rfl | simp, G.out _, hB.out⟩
            · rw [if_neg l4] at hF2
              have F4 := hide hF2
              have l4' : ((out.length : Int) == 4) = false := by simp; omega
              have wv : IntKind.u8.wrap (v : Int) = (v : Int) := by simp [IntKind.wrap, IntKind.bits, IntKind.signed]; omega
              clear hF1 hF2 BAD c46 hC hc d
              go_wp2_with (first | (at_builtin; refine wpList_append_own _ rfl _ _ 63 rfl w.heap.size 5 i0 (.int .u8 0) 1 1 Tryz.underlying63 hi hz0 hz1 hz2 rfl (by decide) _ _ _ rfl (hown.out.alloc _) ⟨wr.heap.size, 0, none⟩ 1 1 [.int .u8 (v : Int)] rfl rfl (one_new wr _ _) (one_ok _ _) ?c3 ?c4 ?c5 ?_))
              case c3 => unfold maxLen; omega
              case c4 => omega
              case c5 => (first | omega | (simp; omega))
              intro v' w4 hown4 hgrow _
              have B4 := hide (below_grown hb.out hs hown.out hgrow)
              have O4 : Hid (w4.ownsRow w.heap.size 5 1 v' (out ++ [v]).length (bytC (out ++ [v]))) := by
                show World.ownsRow _ _ _ _ _ _ _
                rw [List.length_append, show bytC (out ++ [v]) = bytC out ++ [.int .u8 (v : Int)] by simp [bytC]]
                exact hown4
              clear hown hgrow hown4 hb
              go_wp2
              go_roundw
              case measure => (simp [intOf]; try omega)
              case rel =>
                refine ⟨k + 1, none, out ++ [v], by go_num, by omega, rfl, (fun v e => by cases e), by simp; omega, O4, B4, ?_⟩
                show (if _ then _ else _)
                rw [if_pos (by omega)]
                exact F4.out
        · rw [if_neg (fun e => d (c46.1 e))] at hF1
          have d' : ((C : Int) == 46) = false := by rw [beq_eq_false_iff_ne]; omega
          by_cases b1 : C < 48
          · rw [if_pos (Or.inl b1)] at hF1
            have G := hide (BAD.out hF1.symm (.slice none 0 0))
            have hB := hide hb.out
            have b1' : (C : Int) < 48 := by omega
            clear BAD hF1 hown hb hs RH D8 DE c46 hC hc d b1
            go_wp2
            go_ret2
            exact ⟨_, _, by first | rfl | simp, G.out _, hB.out⟩
          · by_cases b2 : 57 < C
            · rw [if_pos (Or.inr (Or.inl b2))] at hF1
              have G := hide (BAD.out hF1.symm (.slice none 0 0))
              have hB := hide hb.out
              have b1' : ¬ (C : Int) < 48 := by omega
              have b2' : (C : Int) > 57 := by omega
              clear BAD hF1 hown hb hs RH D8 DE c46 hC hc d b1 b2
              go_wp2
              go_ret2
              exact ⟨_, _, by first | rfl | simp, G.out _, hB.out⟩
            · have b1' : ¬ (C : Int) < 48 := by omega
              have b2' : ¬ (C : Int) > 57 := by omega
              by_cases b3 : no = some 0
              · rw [if_pos (Or.inr (Or.inr b3))] at hF1
                have G := hide (BAD.out hF1.symm (.slice none 0 0))
                have hB := hide hb.out
                subst b3
                have nv : noI (some 0) = 0 := rfl
                rw [nv]
                clear BAD hF1 hown hb hs RH D8 DE c46 hC hc d b1 b2
                go_wp2
                go_ret2
                exact ⟨_, _, by first | rfl | simp, G.out _, hB.out⟩
              · rw [if_neg (fun h => by rcases h with h | h | h; exact b1 h; exact b2 h; exact b3 h)] at hF1
                obtain ⟨M, hM⟩ : ∃ M, 10 * no.getD 0 + (C - 48) = M := ⟨_, rfl⟩
                rw [hM] at hF1
                cases no with
                | none =>
                  have m1 : M = C - 48 := by rw [← hM]; simp
                  have nv : noI none = -1 := rfl
                  rw [nv]
                  rw [if_neg (by omega)] at hF1
                  have F4 := hide hF1
                  have mv : Hid (noI (some M) = (C : Int) - 48) := by show (M : Int) = _; omega
                  have ML : M < 256 := by omega
                  have hm2 : ¬ (C : Int) - 48 > 255 := by omega
                  clear hF1 BAD c46 hC hc d hM m1
                  go_wp2
                  go_roundw
                  case measure => (simp [intOf]; try omega)
                  case rel =>
                    refine ⟨k + 1, some M, out, by go_num, by omega, by rw [mv.out], (fun v e => by cases e; exact ML), hol, hown, hb, ?_⟩
                    show (if _ then _ else _)
                    rw [if_pos (by omega)]
                    exact F4.out
                | some v =>
                  have vl := hno v rfl
                  have v0 : v ≠ 0 := fun e => b3 (by rw [e])
                  have nv : noI (some v) = (v : Int) := rfl
                  rw [nv]
                  have m1 : (M : Int) = 10 * (v : Int) + (C : Int) - 48 := by have : 10 * v + (C - 48) = M := hM; omega
                  have v0' : ((v : Int) == 0) = false := by simp; omega
                  have vn : ¬ (v : Int) < 0 := by omega
                  have v5 : ¬ (v : Int) = 0 := by omega
                  by_cases b4 : 255 < M
                  · rw [if_pos b4] at hF1
                    have G := hide (BAD.out hF1.symm (.slice none 0 0))
                    have hB := hide hb.out
                    have hm2 : 10 * (v : Int) + (C : Int) - 48 > 255 := by omega
                    clear BAD hF1 hown hb hs RH D8 DE c46 hC hc d b1 b2 m1 hM b4
                    go_wp2
                    go_ret2
                    exact ⟨_, _, by first | rfl | simp, G.out _, hB.out⟩
                  · rw [if_neg b4] at hF1
                    have F4 := hide hF1
                    have mv : Hid (noI (some M) = 10 * (v : Int) + (C : Int) - 48) := by show (M : Int) = _; omega
                    have ML : M < 256 := by omega
                    have hm2 : ¬ 10 * (v : Int) + (C : Int) - 48 > 255 := by omega
                    clear hF1 BAD c46 hC hc d hM m1
                    go_wp2
                    go_roundw
                    case measure => (simp [intOf]; try omega)
                    case rel =>
                      refine ⟨k + 1, some M, out, by go_num, by omega, by rw [mv.out], (fun v e => by cases e; exact ML), hol, hown, hb, ?_⟩
                      show (if _ then _ else _)
                      rw [if_pos (by omega)]
                      exact F4.out
    · obtain rfl : k = s.size + 1 := by omega
      have h1' : ¬ ((s.size + 1 : Nat) : Int) ≤ (s.size : Int) := by omega
      have h1'' : ¬ (s.size : Int) + 1 ≤ (s.size : Int) := by omega
      have hF1 : (if out.length = 4 then some out else none) = R := by
        have := hF.out
        rwa [if_neg h1] at this
      have hB := hide hb.out
      have G : Hid (∀ ok, ok = decide (out.length = 4) → FourIs s.data.toList w.heap.size (.slice q out.length cap) ok wr) := by
        intro ok e
        by_cases l4 : out.length = 4
        · rw [if_pos l4] at hF1
          refine Or.inl ⟨out, by rw [RH.out, hF1], by rw [e]; simp [l4], ?_⟩
          have := hown.out
          rw [l4] at this ⊢
          exact this
        · rw [if_neg l4] at hF1
          exact Or.inr ⟨by rw [RH.out, hF1], by rw [e]; simp [l4]⟩
      clear BAD hF1 hF hown hb hs RH D8 DE
      go_wp2
      go_ret2
      refine ⟨_, _, by first | rfl | simp, G.out _ ?_, hB.out⟩
      rw [Bool.eq_iff_iff]
      simp
      omega
end Go.Proofs.YtipjmmhlfmahbaaGreatDoor

namespace Go.Proofs.YtipjmmhlfmahbaaGreatDoor
open Go.ChangeShapes Go.WideShapes Go.ChangeAt Go.RowKit
set_option linter.unusedVariables false
set_option linter.unusedSimpArgs false

theorem bnum_lt : ∀ (k : Nat) (bs : List Nat), bs.length = k → (∀ b ∈ bs, b < 256) → bnum 0 bs < 256 ^ k
  | 0, bs, h, _ => by
    have : bs = [] := List.eq_nil_of_length_eq_zero h
    subst this
    simp [bnum]
  | k + 1, bs, h, hb => by
    rcases List.eq_nil_or_concat bs with e | ⟨r, x, e⟩
    · subst e; simp at h
    · rw [List.concat_eq_append] at e
      subst e
      have ih := bnum_lt k r (by simpa using h) (fun b m => hb b (by simp [m]))
      have hx := hb x (by simp)
      rw [bnum_more, Nat.pow_succ]
      omega

/-- Byte j from the end. -/
theorem bnum_at : ∀ (j : Nat) (bs : List Nat), (∀ b ∈ bs, b < 256) → j < bs.length → bnum 0 bs / 256 ^ j % 256 = bs.getD (bs.length - 1 - j) 0
  | j, bs, hb, hj => by
    rcases List.eq_nil_or_concat bs with e | ⟨r, x, e⟩
    · subst e; simp at hj
    · rw [List.concat_eq_append] at e
      subst e
      have hx := hb x (by simp)
      have hl : (r ++ [x]).length = r.length + 1 := by simp
      rw [bnum_more, hl]
      cases j with
      | zero =>
        rw [Nat.pow_zero, Nat.div_one, show r.length + 1 - 1 - 0 = r.length by omega, List.getD_eq_getElem?_getD, List.getElem?_append_right (Nat.le_refl _)]
        simp
        omega
      | succ j =>
        rw [hl] at hj
        have ih := bnum_at j r (fun b m => hb b (by simp [m])) (by omega)
        rw [Nat.pow_succ, Nat.mul_comm (256 ^ j), ← Nat.div_div_eq_div_mul, show (bnum 0 r * 256 + x) / 256 = bnum 0 r by omega, ih, show r.length + 1 - 1 - (j + 1) = r.length - 1 - j by omega]
        rw [List.getD_eq_getElem?_getD, List.getD_eq_getElem?_getD, List.getElem?_append_left (by omega)]

theorem bit_byte {bs : List Nat} (hb : ∀ b ∈ bs, b < 256) {j t : Nat} (hj : j < bs.length) (ht : t < 8) : bitN (bnum 0 bs) (8 * j + t) = bs.getD (bs.length - 1 - j) 0 / 2 ^ t % 2 := by
  rw [← bnum_at j bs hb hj]
  unfold bitN
  rw [Nat.pow_add, Nat.pow_mul, ← Nat.div_div_eq_div_mul, show (2 : Nat) ^ 8 = 256 from rfl]
  generalize bnum 0 bs / 256 ^ j = x
  rcases (show t = 0 ∨ t = 1 ∨ t = 2 ∨ t = 3 ∨ t = 4 ∨ t = 5 ∨ t = 6 ∨ t = 7 by omega) with rfl | rfl | rfl | rfl | rfl | rfl | rfl | rfl
  all_goals
    simp
    try omega

/-- Bits as cells. -/
abbrev bitC (V k : Nat) : List Value := (bitsL V k).map fun x : Int => .int .i64 x

theorem infoI8 : (Tryz.prog.info? 3).map (fun i => (i.zero, i.size, i.bytes)) = some (some (.int .i64 0), 1, 8) := by kernel_rfl

set_option maxRecDepth 100000 in
set_option maxHeartbeats 3200000 in
theorem rofb_c (bs : List Nat) (hb : ∀ b ∈ bs, b < 256) (L : Nat) (hl : bs.length = L) (hL : L = 4 ∨ L = 16) (g cap : Nat) (w : World) (hc : ∀ j x, bs[j]? = some x → w.cell? ⟨g, j, none⟩ = some (.int .u8 (x : Nat))) (hgl : g < w.heap.size) {b16 : Bool} (h16 : b16 = decide (L = 16)) :
    Calls Tryz.prog 41 #[.slice (some ⟨g, 0, none⟩) L cap] w fun e w' => ∃ h l, e = .returned (av b16 h l) ∧ IsNum h l (bnum 0 bs) ∧ Below w.heap.size w w' := by
  obtain ⟨i0, hi, hz0, hz1, hz2⟩ := info_parts infoI8
  obtain ⟨V, hV⟩ : ∃ V, bnum 0 bs = V := ⟨_, rfl⟩
  have BB := hide (fun j t (hj : j < bs.length) (ht : t < 8) => bit_byte hb hj ht)
  have VL : Hid (V < 2 ^ (8 * L)) := by
    have := bnum_lt L bs hl hb
    show V < _
    rw [← hV, Nat.pow_mul]
    exact this
  rw [hV] at BB ⊢
  have HB := hide hb
  have HL := hide hl
  have HC := hide hc
  have W0 : Blk ((w.alloc (.cells #[.bool false, .int .u64 0, .int .u64 0] 26)).alloc (.cells #[] 3)) w.heap.size #[.bool false, .int .u64 0, .int .u64 0] 26 := (Blk.new _ _ _).alloc _
  have O0 : Hid (((w.alloc (.cells #[.bool false, .int .u64 0, .int .u64 0] 26)).alloc (.cells #[] 3)).ownsRow (w.heap.size + 1) 3 1 (.slice (some ⟨w.heap.size + 1, 0, none⟩) 0 0) (8 * 0) (bitC V (8 * 0))) := by
    have := World.ownsRow_made (base := w.heap.size + 1) (e := 3) (size := 1) (w.alloc (.cells #[.bool false, .int .u64 0, .int .u64 0] 26)) #[] 0 (by simp) (by unfold maxLen; omega) (by simp)
    show World.ownsRow _ _ _ _ _ _ _
    simpa [bitC, bitsL] using this
  have B0 : Hid (Below (w.heap.size + 1) ((w.alloc (.cells #[.bool false, .int .u64 0, .int .u64 0] 26)).alloc (.cells #[] 3)) ((w.alloc (.cells #[.bool false, .int .u64 0, .int .u64 0] 26)).alloc (.cells #[] 3))) := Below.refl _ _
  have HW0 := hide W0
  have l0 : (L : Int) ≤ 16 := by omega
  have l1 : (4 : Int) ≤ (L : Int) := by omega
  obtain ⟨w0, hw0⟩ : ∃ w0, w0 = (w.alloc (.cells #[.bool false, .int .u64 0, .int .u64 0] 26)).alloc (.cells #[] 3) := ⟨_, rfl⟩
  have BW : Hid (Below w.heap.size w w0 ∧ w0.heap.size = w.heap.size + 2) := by
    rw [hw0]
    exact ⟨by repeat (first | with_reducible exact Below.refl _ _ | with_reducible refine Below.drew ?_ | with_reducible refine Below.alloc ?_ (by first | omega | (simp <;> omega)) _ | with_reducible refine Below.setCell ?_ (by first | omega | (simp <;> omega)) _), by simp⟩
  clear W0 hb hl hc hV
  go_enter Tryz.func41, Tryz.ntmps41
  go_wp2_with fail
  rw [← hw0] at O0 B0 HW0 ⊢
  clear hw0
  have w0s := BW.out.2
  go_loopw [3, 4] (fun u iv wr => ∃ (j : Nat) (K : Int), j ≤ L ∧ iv = .int .i64 K ∧ Hid (K = (L : Int) - 1 - (j : Int)) ∧ -1 ≤ K ∧ K ≤ 15 ∧ Hid (wr.ownsRow (w.heap.size + 1) 3 1 u (8 * j) (bitC V (8 * j))) ∧ Hid (Below (w.heap.size + 1) w0 wr)) (fun _ iv _ => (intOf iv + 1).toNat)
  case atStart => exact ⟨0, (L : Int) - 1, by omega, rfl, (by show _ = _; simp), by omega, by omega, O0, B0⟩
  case round =>
    clear O0 B0
    obtain ⟨j, K, hj, rfl, hK, K0, K1, hown, hb⟩ := hrel
    have hs := hb.out.size
    have hK' := hK.out
    by_cases hlt : j < L
    · have Kp : 0 ≤ K := by omega
      have KL : K < (L : Int) := by omega
      obtain ⟨X, hX⟩ : ∃ X, bs.getD (L - 1 - j) 0 = X := ⟨_, rfl⟩
      have hbl : bs.length = L := HL.out
      have gx : bs[L - 1 - j]? = some X := by
        rw [← hX, List.getD_eq_getElem?_getD, List.getElem?_eq_getElem (by omega)]
        rfl
      have X1 : X < 256 := HB.out X (List.mem_of_getElem? gx)
      have cw := HC.out _ _ gx
      have cx : wr.cell? ⟨g, K.toNat, none⟩ = some (.int .u8 (X : Nat)) := by
        rw [show K.toNat = L - 1 - j by omega]
        rw [hb.out.cell (p := ⟨g, L - 1 - j, none⟩) (show g < w.heap.size + 1 by omega), BW.out.1.cell (p := ⟨g, L - 1 - j, none⟩) hgl]
        exact cw
      have BX : Hid (∀ t, t < 8 → bitN V (8 * j + t) = X / 2 ^ t % 2) := fun t ht => by rw [BB.out j t (by omega) ht, hbl, hX]
      have R0 : Hid (wr.ownsRow (w.heap.size + 1) 3 1 u3 (8 * j + 0) (bitC V (8 * j + 0))) := hown
      have XI : (X : Int) < 256 := by omega
      clear hX hbl gx cw hown hK'
      go_wp2_with fail
      go_loopw [3, 5, 6] (fun u nv tv wt => ∃ (t : Nat) (Y : Int), t ≤ 8 ∧ tv = .int .i64 t ∧ nv = .int .i64 Y ∧ 0 ≤ Y ∧ Y < 256 ∧ Hid (Y = ((X / 2 ^ t : Nat) : Int)) ∧ Hid (wt.ownsRow (w.heap.size + 1) 3 1 u (8 * j + t) (bitC V (8 * j + t))) ∧ Hid (Below (w.heap.size + 1) w0 wt)) (fun _ _ tv _ => 8 - (intOf tv).toNat)
      case atStart => exact ⟨0, (X : Int), by omega, rfl, rfl, by omega, XI, (by show _ = _; simp), R0, hb⟩
      case round =>
        clear R0 hb hs cx
        obtain ⟨t, Y, ht, rfl, rfl, Y0, Y1, hY, hown, hb⟩ := hrel
        have hs := hb.out.size
        by_cases ht8 : t < 8
        · have hti : (t : Int) < 8 := by omega
          have nx : Hid (bitC V (8 * j + (t + 1)) = bitC V (8 * j + t) ++ [.int .i64 (Y % 2)]) := by
            show bitC V (8 * j + t + 1) = _
            unfold bitC
            rw [bitsL, List.map_append, List.map_cons, List.map_nil, BX.out t ht8, hY.out]
            rfl
          have hh : Hid (Y / 2 = ((X / 2 ^ (t + 1) : Nat) : Int)) := by
            show _ = _
            rw [hY.out, Nat.pow_succ, ← Nat.div_div_eq_div_mul]
            rfl
          have l128 : 8 * j + t ≤ 128 := by omega
          go_wp2_with (first | (at_builtin; refine wpList_append_own _ rfl _ _ 69 rfl (w.heap.size + 1) 3 i0 (.int .i64 0) 1 8 Tryz.underlying69 hi hz0 hz1 hz2 rfl (by decide) _ _ _ rfl (hown.out.alloc _) ⟨wr.heap.size, 0, none⟩ 1 1 [.int .i64 (Y % 2)] rfl rfl (one_new wr _ _) (one_ok _ _) ?c3 ?c4 ?c5 ?_))
          case c3 => unfold maxLen; omega
          case c4 => omega
          case c5 => (first | omega | (simp; omega))
          intro v' w4 hown4 hgrow _
          have B4 := hide (below_grown hb.out (by omega) hown.out hgrow)
          have O4 : Hid (w4.ownsRow (w.heap.size + 1) 3 1 v' (8 * j + (t + 1)) (bitC V (8 * j + (t + 1)))) := by
            show World.ownsRow _ _ _ _ _ _ _
            rw [nx.out]
            exact hown4
          clear hown hgrow hown4 hb nx
          go_wp2
          go_roundw
          case measure => (simp [intOf]; omega)
          case rel => exact ⟨t + 1, Y / 2, by omega, by go_num, rfl, by omega, by omega, hh, O4, B4⟩
        · obtain rfl : t = 8 := by omega
          have O8 : Hid (wr.ownsRow (w.heap.size + 1) 3 1 u3 (8 * (j + 1)) (bitC V (8 * (j + 1)))) := by
            show World.ownsRow _ _ _ _ _ _ _
            rw [show 8 * (j + 1) = 8 * j + 8 by omega]
            exact hown.out
          clear hown hY
          go_wp2
          go_roundw
          case measure => (simp [intOf]; omega)
          case rel => exact ⟨j + 1, K - 1, by omega, rfl, (by have := hK.out; show _ = _; omega), by omega, by omega, O8, hb⟩
    · obtain rfl : j = L := by omega
      have Kn : K = -1 := by omega
      subst Kn
      obtain ⟨g', cap', hu, hg', hcap, hm, hcell⟩ : ∃ g' cap', u3 = .slice (some ⟨g', 0, none⟩) (8 * j) cap' ∧ g' < wr.heap.size ∧ 8 * j ≤ cap' ∧ cap' ≤ maxLen ∧ ∀ i x, (bitC V (8 * j))[i]? = some x → wr.cell? ⟨g', i, none⟩ = some x := by
        rcases hown.out.2 with ⟨_, h0⟩ | ⟨g', cap', cur, h1, h2, h3, h4, h5, _⟩
        · omega
        · refine ⟨g', cap', h1, (Array.getElem?_eq_some_iff.1 h3).1, h4, h5, fun i x hx => ?_⟩
          have := hown.out.cells (g := g') (by rw [h1]; rfl) i x hx
          have ad : (⟨g', 0, none⟩ : Addr).add i = ⟨g', i, none⟩ := by unfold Addr.add; split <;> simp_all
          rwa [ad] at this
      subst hu
      have BR : BitRow wr g' (8 * j) V := ⟨hg', fun i hi => hcell i _ (by
        rw [List.getElem?_map]
        have := bitsL_getD V (8 * j) i hi
        rw [List.getD_eq_getElem?_getD] at this
        have l : i < (bitsL V (8 * j)).length := by rw [bitsL_length]; exact hi
        rw [List.getElem?_eq_getElem l] at this ⊢
        simp only [Option.getD_some] at this
        rw [Option.map_some, this])⟩
      have NM := hide (num_w g' (8 * j) cap' V (by omega) VL.out hcap hm wr BR)
      have B1 := hide (BW.out.1.trans (hb.out.mono (by omega)))
      have RS : Hid (Blk wr w.heap.size #[.bool false, .int .u64 0, .int .u64 0] 26) := (hb.out.block w.heap.size (by omega)).trans HW0.out
      have h8 : Hid (((j : Int) == 16) = b16) := by
        show _ = _
        rw [h16, Bool.eq_iff_iff]
        simp
        omega
      clear hown hb hcell BR BB VL HB HL HC HW0 BW hK hK' hcap hm hs
      go_wp2_with fail
      refine NM.out.mono ?_
      rintro e w5 ⟨xh, xl, rfl, hn, hb5⟩
      have R5 := RS.out.below hb5
      obtain ⟨r0, r1, r2, r3, r4, r5, r6⟩ := R5.three
      have B5 := B1.out.trans (hb5.mono B1.out.size)
      have h8' := h8.out
      clear NM RS B1 hb5 R5
      go_wp2
      refine bodyPost_ret (v := av b16 xh xl) (by simp [results, Tryz.results41, go_sem, World.cell?_setCell_same', World.cell?_setCell_other, *]) rfl ⟨xh, xl, rfl, hn, by repeat (first | with_reducible exact Below.refl _ _ | with_reducible refine Below.drew ?_ | with_reducible refine Below.alloc ?_ (by first | omega | (simp <;> omega)) _ | with_reducible refine Below.setCell ?_ (by first | omega | (simp <;> omega)) _ | with_reducible refine Below.trans ?_ (Below.mono B5 (by first | omega | (simp <;> omega))))⟩
end Go.Proofs.YtipjmmhlfmahbaaGreatDoor

namespace Go.Proofs.YtipjmmhlfmahbaaGreatDoor
open Go.ChangeShapes Go.WideShapes Go.ChangeAt Go.RowKit
set_option linter.unusedVariables false
set_option linter.unusedSimpArgs false

/-- A block of three cells that is read. -/
def A3 (B : Nat) (a1 a2 a3 : Value) (wx : World) : Prop :=
  (wx.cell? ⟨B, 0, none⟩ = some a1 ∧ wx.cell? ⟨B, 1, none⟩ = some a2 ∧ wx.cell? ⟨B, 2, none⟩ = some a3) ∧ Blk wx B #[a1, a2, a3] 26

theorem A3.of {B : Nat} {a1 a2 a3 : Value} {wx : World} (a : Blk wx B #[a1, a2, a3] 26) : A3 B a1 a2 a3 wx := ⟨⟨a.cell 0, a.cell 1, a.cell 2⟩, a⟩

theorem A3.drew {B : Nat} {a1 a2 a3 : Value} {wx : World} (s : A3 B a1 a2 a3 wx) : A3 B a1 a2 a3 wx.drew := s

theorem A3.below {B : Nat} {a1 a2 a3 : Value} {wx w1 : World} (s : A3 B a1 a2 a3 wx) (hb : Below wx.heap.size wx w1) : A3 B a1 a2 a3 w1 := A3.of (s.2.below hb)

end Go.Proofs.YtipjmmhlfmahbaaGreatDoor
