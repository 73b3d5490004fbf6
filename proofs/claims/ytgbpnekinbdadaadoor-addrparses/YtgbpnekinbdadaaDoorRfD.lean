/-
  Digit and Four of the reference of package addr.
-/
import Derived.Test.YtgbpnekinbdadaaDoorRfM
import Derived.Test.YtgbpnekinbdadaaDoorRPr
import Derived.Test.YtgbpnekinbdadaaDoorHd
import Derived.Outline
namespace Go.Proofs.YtgbpnekinbdadaaDoor
open Go.ChangeShapes Go.WideShapes Go.ChangeAt Go.RowKit
set_option linter.unusedVariables false
set_option linter.unusedSimpArgs false

theorem ret_i8 {k : IntKind} {a b : Int} (h : a = b) : Ending.returned (.int k a) = .returned (.int k b) := by rw [h]

/-- What Digit answers. -/
def digV (c : Nat) : Int := match hexD c with
  | some d => (d : Int)
  | none => -1

set_option maxHeartbeats 1600000 in
theorem rdigit_c {c : Nat} (hc : c < 256) {V : Int} (hV : digV c = V) (w : World) :
    Calls Tryd.prog 34 #[.int .u8 c] w fun e w' => e = .returned (.int .i64 V) ∧ w' = w := by
  unfold digV hexD at hV
  rcases (show c < 48 ∨ (48 ≤ c ∧ c ≤ 57) ∨ (57 < c ∧ c < 65) ∨ (65 ≤ c ∧ c ≤ 70) ∨ (70 < c ∧ c < 97) ∨ (97 ≤ c ∧ c ≤ 102) ∨ 102 < c by omega) with h | ⟨h, k⟩ | ⟨h, k⟩ | ⟨h, k⟩ | ⟨h, k⟩ | ⟨h, k⟩ | h
  · rw [if_neg (by omega), if_neg (by omega), if_neg (by omega)] at hV
    have HV : Hid (-1 = V) := hV
    have a1 : ¬ (c : Int) ≥ 48 := by omega
    have a2 : ¬ (c : Int) ≥ 97 := by omega
    have a3 : ¬ (c : Int) ≥ 65 := by omega
    clear hV h
    go_enter Tryd.func34, Tryd.ntmps34
    go_wp2
    go_ret
    exact ⟨ret_i8 HV.out, rfl⟩
  · rw [if_pos (by omega)] at hV
    have HV : Hid ((c : Int) - 48 = V) := by show _ = _; simp only [] at hV; omega
    have a1 : (c : Int) ≥ 48 := by omega
    have a2 : (c : Int) ≤ 57 := by omega
    clear hV h k
    go_enter Tryd.func34, Tryd.ntmps34
    go_wp2
    go_ret
    exact ⟨ret_i8 HV.out, rfl⟩
  · rw [if_neg (by omega), if_neg (by omega), if_neg (by omega)] at hV
    have HV : Hid (-1 = V) := hV
    have a1 : (c : Int) ≥ 48 := by omega
    have a4 : ¬ (c : Int) ≤ 57 := by omega
    have a2 : ¬ (c : Int) ≥ 97 := by omega
    have a3 : ¬ (c : Int) ≥ 65 := by omega
    clear hV h k
    go_enter Tryd.func34, Tryd.ntmps34
    go_wp2
    go_ret
    exact ⟨ret_i8 HV.out, rfl⟩
  · rw [if_neg (by omega), if_neg (by omega), if_pos (by omega)] at hV
    have HV : Hid ((c : Int) - 55 = V) := by show _ = _; simp only [] at hV; omega
    have a1 : (c : Int) ≥ 48 := by omega
    have a4 : ¬ (c : Int) ≤ 57 := by omega
    have a2 : ¬ (c : Int) ≥ 97 := by omega
    have a3 : (c : Int) ≥ 65 := by omega
    have a5 : (c : Int) ≤ 70 := by omega
    clear hV h k
    go_enter Tryd.func34, Tryd.ntmps34
    go_wp2
    go_ret
    exact ⟨ret_i8 HV.out, rfl⟩
  · rw [if_neg (by omega), if_neg (by omega), if_neg (by omega)] at hV
    have HV : Hid (-1 = V) := hV
    have a1 : (c : Int) ≥ 48 := by omega
    have a4 : ¬ (c : Int) ≤ 57 := by omega
    have a2 : ¬ (c : Int) ≥ 97 := by omega
    have a3 : (c : Int) ≥ 65 := by omega
    have a5 : ¬ (c : Int) ≤ 70 := by omega
    clear hV h k
    go_enter Tryd.func34, Tryd.ntmps34
    go_wp2
    go_ret
    exact ⟨ret_i8 HV.out, rfl⟩
  · rw [if_neg (by omega), if_pos (by omega)] at hV
    have HV : Hid ((c : Int) - 87 = V) := by show _ = _; simp only [] at hV; omega
    have a1 : (c : Int) ≥ 48 := by omega
    have a4 : ¬ (c : Int) ≤ 57 := by omega
    have a2 : (c : Int) ≥ 97 := by omega
    have a5 : (c : Int) ≤ 102 := by omega
    clear hV h k
    go_enter Tryd.func34, Tryd.ntmps34
    go_wp2
    go_ret
    exact ⟨ret_i8 HV.out, rfl⟩
  · rw [if_neg (by omega), if_neg (by omega), if_neg (by omega)] at hV
    have HV : Hid (-1 = V) := hV
    have a1 : (c : Int) ≥ 48 := by omega
    have a4 : ¬ (c : Int) ≤ 57 := by omega
    have a2 : (c : Int) ≥ 97 := by omega
    have a5 : ¬ (c : Int) ≤ 102 := by omega
    have a3 : (c : Int) ≥ 65 := by omega
    have a6 : ¬ (c : Int) ≤ 70 := by omega
    clear hV h
    go_enter Tryd.func34, Tryd.ntmps34
    go_wp2
    go_ret
    exact ⟨ret_i8 HV.out, rfl⟩

/-- Bytes as cells. -/
abbrev bytC (l : List Nat) : List Value := l.map fun n : Nat => .int .u8 (n : Int)

/-- A number that isn't there yet is -1. -/
def noI : Option Nat → Int
  | none => -1
  | some v => (v : Int)

/-- What Four answers. -/
def FourIs (l : List UInt8) (base : Nat) (sv : Value) (ok : Bool) (W : World) : Prop := (∃ bs, fourS l none [] = some bs ∧ ok = true ∧ W.ownsRow base 5 1 sv 4 (bytC bs)) ∨ (fourS l none [] = none ∧ ok = false)

def FourRet (l : List UInt8) (w : World) (e : Ending) (W : World) : Prop := ∃ sv ok, e = .returned (.tuple #[sv, .bool ok]) ∧ Hid (FourIs l w.heap.size sv ok W) ∧ Below w.heap.size w W

theorem drop_cons8 (s : ByteArray) (k : Nat) (h : k < s.size) : s.data.toList.drop k = s[k] :: s.data.toList.drop (k + 1) := by
  have h' : k < s.data.toList.length := by rw [Array.length_toList]; exact h
  rw [List.drop_eq_getElem_cons h']
  rfl

theorem drop_end8 (s : ByteArray) : s.data.toList.drop s.size = [] := by
  apply List.drop_of_length_le
  rw [Array.length_toList]
  exact Nat.le_refl _

set_option maxRecDepth 100000 in
set_option maxHeartbeats 3200000 in
theorem rfour_c (s : ByteArray) (hs : s.size ≤ 1000) (w : World) :
    Calls Tryd.prog 32 #[.string s] w fun e w' => FourRet s.data.toList w e w' := by
  obtain ⟨i0, hi, hz0, hz1, hz2⟩ := info_parts infoU8
  have O0 : (w.alloc (.cells #[] 5)).ownsRow w.heap.size 5 1 (.slice (some ⟨w.heap.size, 0, none⟩) 0 0) 0 (bytC []) := World.ownsRow_made _ _ _ (Nat.le_refl _) (Nat.zero_le _) rfl
  have B0 : Below w.heap.size w (w.alloc (.cells #[] 5)) := by repeat (first | with_reducible exact Below.refl _ _ | with_reducible refine Below.drew ?_ | with_reducible refine Below.alloc ?_ (by first | omega | (simp <;> omega)) _ | with_reducible refine Below.setCell ?_ (by first | omega | (simp <;> omega)) _)
  obtain ⟨R, hR⟩ : ∃ R, fourS s.data.toList none [] = R := ⟨_, rfl⟩
  have RH := hide hR
  have R0 : Hid (fourS (s.data.toList.drop 0) none [] = R) := hR
  have D8 := hide (drop_cons8 s)
  have DE := hide (drop_end8 s)
  clear hR
  go_enter Tryd.func32, Tryd.ntmps32
  go_wp2_with fail
  go_loopw [4, 5, 6] (fun u nv iv wr => ∃ (k : Nat) (no : Option Nat) (out : List Nat), iv = .int .i64 k ∧ k ≤ s.size + 1 ∧ nv = .int .i64 (noI no) ∧ (∀ v, no = some v → v < 256) ∧ out.length ≤ 4 ∧ Hid (wr.ownsRow w.heap.size 5 1 u out.length (bytC out)) ∧ Hid (Below w.heap.size w wr) ∧
    Hid (if k ≤ s.size then fourS (s.data.toList.drop k) no out = R else (if out.length = 4 then some out else none) = R)) (fun _ _ iv _ => s.size + 2 - (intOf iv).toNat)
  case atStart => exact ⟨0, none, [], rfl, by omega, rfl, (fun v e => by cases e), by simp, O0, B0, by show (if _ then _ else _); rw [if_pos (by omega)]; exact R0.out⟩
  case round =>
    clear O0 B0 R0
    obtain ⟨k, no, out, rfl, hk, rfl, hno, hol, hown, hb, hF⟩ := hrel
    obtain ⟨q, cap, hu⟩ : ∃ q cap, u4 = .slice q out.length cap := by
      rcases hown.out.2 with ⟨h1, h2⟩ | ⟨g', cp, cur, h1, _⟩
      · exact ⟨none, 0, by rw [h1, h2]⟩
      · exact ⟨some ⟨g', 0, none⟩, cp, h1⟩
    subst hu
    have hs := hb.out.size
    have BAD : Hid (R = none → ∀ sv W, FourIs s.data.toList w.heap.size sv false W) := fun e sv W => Or.inr ⟨by rw [RH.out, e], rfl⟩
    by_cases h1 : k ≤ s.size
    · have h1' : (k : Int) ≤ (s.size : Int) := by omega
      have hF1 : fourS (s.data.toList.drop k) no out = R := by
        have := hF.out
        rwa [if_pos h1] at this
      clear hF
      by_cases h2 : k = s.size
      · subst h2
        rw [DE.out] at hF1
        cases no with
        | none =>
          have e : R = none := hF1.symm
          have G := hide (BAD.out e (.slice none 0 0))
          have hB := hide hb.out
          clear BAD hF1 hown hb e hs RH D8 DE
          go_wp2
          go_ret2
          exact ⟨_, _, by first | rfl | simp, G.out _, hB.out⟩
        | some v =>
          have vl := hno v rfl
          have n0 : ¬ (v : Int) < 0 := by omega
          have hF2 : (if out.length = 3 then some (out ++ [v]) else none) = R := hF1
          by_cases l4 : out.length = 4
          · rw [if_neg (by omega)] at hF2
            have G := hide (BAD.out hF2.symm (.slice none 0 0))
            have hB := hide hb.out
            have l4' : ((out.length : Int) == 4) = true := by simp; omega
            have l5 : (out.length : Int) = 4 := by omega
            clear BAD hF1 hF2 hown hb hs RH D8 DE l4
            show Code.wp _ _ _ _ _
            have nv : noI (some v) = (v : Int) := rfl
            rw [nv]
            go_wp2
            go_ret2
            exact ⟨_, _, by first | rfl | simp, G.out _, hB.out⟩
          · have l4' : ((out.length : Int) == 4) = false := by simp; omega
            have wv : IntKind.u8.wrap (v : Int) = (v : Int) := by simp [IntKind.wrap, IntKind.bits, IntKind.signed]; omega
            have nv : noI (some v) = (v : Int) := rfl
            rw [nv]
            clear hF1 BAD
            go_wp2_with (first | (at_builtin; refine wpList_append_own _ rfl _ _ 40 rfl w.heap.size 5 i0 (.int .u8 0) 1 1 Tryd.underlying40 hi hz0 hz1 hz2 rfl (by decide) _ _ _ rfl (hown.out.alloc _) ⟨wr.heap.size, 0, none⟩ 1 1 [.int .u8 (v : Int)] rfl rfl (one_new wr _ _) (one_ok _ _) ?c3 ?c4 ?c5 ?_))
            case c3 => unfold maxLen; omega
            case c4 => omega
            case c5 => (first | omega | (simp; omega))
            intro v' w4 hown4 hgrow _
            have B4 := hide (below_grown hb.out hs hown.out hgrow)
            have O4 : Hid (w4.ownsRow w.heap.size 5 1 v' (out ++ [v]).length (bytC (out ++ [v]))) := by
              show World.ownsRow _ _ _ _ _ _ _
              rw [List.length_append, show bytC (out ++ [v]) = bytC out ++ [.int .u8 (v : Int)] by simp [bytC]]
              exact hown4
            clear hown hgrow hown4 hb
            go_wp2
            go_roundw
            case measure => (simp [intOf]; try omega)
            case rel =>
              refine ⟨s.size + 1, none, out ++ [v], by go_num, by omega, rfl, (fun v e => by cases e), by simp; omega, O4, B4, ?_⟩
              show (if _ then _ else _)
              rw [if_neg (by omega)]
              rw [← hF2]
              by_cases l3 : out.length = 3
              · rw [if_pos l3, if_pos (by simp; omega)]
              · rw [if_neg l3, if_neg (by simp; omega)]
      · have hlt : k < s.size := by omega
        have hki : (k : Int) < (s.size : Int) := by omega
        have e1 : ((k : Int) == (s.size : Int)) = false := by simp; omega
        rw [D8.out k hlt, fourS_cons] at hF1
        obtain ⟨c, hc⟩ : ∃ c : UInt8, s[k] = c := ⟨_, rfl⟩
        have bg : (s[k].toNat : Int) = (c.toNat : Int) := by rw [hc]
        rw [hc] at hF1
        have cl : c.toNat < 256 := UInt8.toNat_lt c
        obtain ⟨C, hC⟩ : ∃ C : Nat, c.toNat = C := ⟨_, rfl⟩
        have c46 : c = 46 ↔ C = 46 := by rw [← hC]; exact ⟨fun e => by rw [e]; rfl, fun e => UInt8.toNat_inj.1 e⟩
        rw [hC] at hF1 bg cl
        by_cases d : C = 46
        · rw [if_pos (c46.2 d)] at hF1
          have d' : ((C : Int) == 46) = true := by rw [beq_iff_eq]; omega
          cases no with
          | none =>
            have e : R = none := hF1.symm
            have G := hide (BAD.out e (.slice none 0 0))
            have hB := hide hb.out
            have nv : noI none = -1 := rfl
            rw [nv]
            clear BAD hF1 hown hb e hs RH D8 DE c46 hC hc d
            go_wp2
            go_ret2
            exact ⟨_, _, by first | rfl | simp, G.out _, hB.out⟩
          | some v =>
            have vl := hno v rfl
            have n0 : ¬ (v : Int) < 0 := by omega
            have nv : noI (some v) = (v : Int) := rfl
            rw [nv]
            have hF2 : (if out.length = 4 then none else fourS (s.data.toList.drop (k + 1)) none (out ++ [v])) = R := hF1
            by_cases l4 : out.length = 4
            · rw [if_pos l4] at hF2
              have G := hide (BAD.out hF2.symm (.slice none 0 0))
              have hB := hide hb.out
              have l4' : ((out.length : Int) == 4) = true := by simp; omega
              have l5 : (out.length : Int) = 4 := by omega
              clear BAD hF1 hF2 hown hb hs RH D8 DE l4 c46 hC hc d
              go_wp2
              go_ret2
              exact ⟨_, _, by first | rfl | simp, G.out _, hB.out⟩
            · rw [if_neg l4] at hF2
              have F4 := hide hF2
              have l4' : ((out.length : Int) == 4) = false := by simp; omega
              have wv : IntKind.u8.wrap (v : Int) = (v : Int) := by simp [IntKind.wrap, IntKind.bits, IntKind.signed]; omega
              clear hF1 hF2 BAD c46 hC hc d
              go_wp2_with (first | (at_builtin; refine wpList_append_own _ rfl _ _ 40 rfl w.heap.size 5 i0 (.int .u8 0) 1 1 Tryd.underlying40 hi hz0 hz1 hz2 rfl (by decide) _ _ _ rfl (hown.out.alloc _) ⟨wr.heap.size, 0, none⟩ 1 1 [.int .u8 (v : Int)] rfl rfl (one_new wr _ _) (one_ok _ _) ?c3 ?c4 ?c5 ?_))
              case c3 => unfold maxLen; omega
              case c4 => omega
              case c5 => (first | omega | (simp; omega))
              intro v' w4 hown4 hgrow _
              have B4 := hide (below_grown hb.out hs hown.out hgrow)
              have O4 : Hid (w4.ownsRow w.heap.size 5 1 v' (out ++ [v]).length (bytC (out ++ [v]))) := by
                show World.ownsRow _ _ _ _ _ _ _
                rw [List.length_append, show bytC (out ++ [v]) = bytC out ++ [.int .u8 (v : Int)] by simp [bytC]]
                exact hown4
              clear hown hgrow hown4 hb
              go_wp2
              go_roundw
              case measure => (simp [intOf]; try omega)
              case rel =>
                refine ⟨k + 1, none, out ++ [v], by go_num, by omega, rfl, (fun v e => by cases e), by simp; omega, O4, B4, ?_⟩
                show (if _ then _ else _)
                rw [if_pos (by omega)]
                exact F4.out
        · rw [if_neg (fun e => d (c46.1 e))] at hF1
          have d' : ((C : Int) == 46) = false := by rw [beq_eq_false_iff_ne]; omega
          by_cases b1 : C < 48
          · rw [if_pos (Or.inl b1)] at hF1
            have G := hide (BAD.out hF1.symm (.slice none 0 0))
            have hB := hide hb.out
            have b1' : (C : Int) < 48 := by omega
            clear BAD hF1 hown hb hs RH D8 DE c46 hC hc d b1
            go_wp2
            go_ret2
            exact ⟨_, _, by first | rfl | simp, G.out _, hB.out⟩
          · by_cases b2 : 57 < C
            · rw [if_pos (Or.inr (Or.inl b2))] at hF1
              have G := hide (BAD.out hF1.symm (.slice none 0 0))
              have hB := hide hb.out
              have b1' : ¬ (C : Int) < 48 := by omega
              have b2' : (C : Int) > 57 := by omega
              clear BAD hF1 hown hb hs RH D8 DE c46 hC hc d b1 b2
              go_wp2
              go_ret2
              exact ⟨_, _, by first | rfl | simp, G.out _, hB.out⟩
            · have b1' : ¬ (C : Int) < 48 := by omega
              have b2' : ¬ (C : Int) > 57 := by omega
              by_cases b3 : no = some 0
              · rw [if_pos (Or.inr (Or.inr b3))] at hF1
                have G := hide (BAD.out hF1.symm (.slice none 0 0))
                have hB := hide hb.out
                subst b3
                have nv : noI (some 0) = 0 := rfl
                rw [nv]
                clear BAD hF1 hown hb hs RH D8 DE c46 hC hc d b1 b2
                go_wp2
                go_ret2
                exact ⟨_, _, by first | rfl | simp, G.out _, hB.out⟩
              · rw [if_neg (fun h => by rcases h with h | h | h; exact b1 h; exact b2 h; exact b3 h)] at hF1
                obtain ⟨M, hM⟩ : ∃ M, 10 * no.getD 0 + (C - 48) = M := ⟨_, rfl⟩
                rw [hM] at hF1
                cases no with
                | none =>
                  have m1 : M = C - 48 := by rw [← hM]; simp
                  have nv : noI none = -1 := rfl
                  rw [nv]
                  rw [if_neg (by omega)] at hF1
                  have F4 := hide hF1
                  have mv : Hid (noI (some M) = (C : Int) - 48) := by show (M : Int) = _; omega
                  have ML : M < 256 := by omega
                  have hm2 : ¬ (C : Int) - 48 > 255 := by omega
                  clear hF1 BAD c46 hC hc d hM m1
                  go_wp2
                  go_roundw
                  case measure => (simp [intOf]; try omega)
                  case rel =>
                    refine ⟨k + 1, some M, out, by go_num, by omega, by rw [mv.out], (fun v e => by cases e; exact ML), hol, hown, hb, ?_⟩
                    show (if _ then _ else _)
                    rw [if_pos (by omega)]
                    exact F4.out
                | some v =>
                  have vl := hno v rfl
                  have v0 : v ≠ 0 := fun e => b3 (by rw [e])
                  have nv : noI (some v) = (v : Int) := rfl
                  rw [nv]
                  have m1 : (M : Int) = 10 * (v : Int) + (C : Int) - 48 := by have : 10 * v + (C - 48) = M := hM; omega
                  have v0' : ((v : Int) == 0) = false := by simp; omega
                  have vn : ¬ (v : Int) < 0 := by omega
                  have v5 : ¬ (v : Int) = 0 := by omega
                  by_cases b4 : 255 < M
                  · rw [if_pos b4] at hF1
                    have G := hide (BAD.out hF1.symm (.slice none 0 0))
                    have hB := hide hb.out
                    have hm2 : 10 * (v : Int) + (C : Int) - 48 > 255 := by omega
                    clear BAD hF1 hown hb hs RH D8 DE c46 hC hc d b1 b2 m1 hM b4
                    go_wp2
                    go_ret2
                    exact ⟨_, _, by first | rfl | simp, G.out _, hB.out⟩
                  · rw [if_neg b4] at hF1
                    have F4 := hide hF1
                    have mv : Hid (noI (some M) = 10 * (v : Int) + (C : Int) - 48) := by show (M : Int) = _; omega
                    have ML : M < 256 := by omega
                    have hm2 : ¬ 10 * (v : Int) + (C : Int) - 48 > 255 := by omega
                    clear hF1 BAD c46 hC hc d hM m1
                    go_wp2
                    go_roundw
                    case measure => (simp [intOf]; try omega)
                    case rel =>
                      refine ⟨k + 1, some M, out, by go_num, by omega, by rw [mv.out], (fun v e => by cases e; exact ML), hol, hown, hb, ?_⟩
                      show (if _ then _ else _)
                      rw [if_pos (by omega)]
                      exact F4.out
    · obtain rfl : k = s.size + 1 := by omega
      have h1' : ¬ ((s.size + 1 : Nat) : Int) ≤ (s.size : Int) := by omega
      have h1'' : ¬ (s.size : Int) + 1 ≤ (s.size : Int) := by omega
      have hF1 : (if out.length = 4 then some out else none) = R := by
        have := hF.out
        rwa [if_neg h1] at this
      have hB := hide hb.out
      have G : Hid (∀ ok, ok = decide (out.length = 4) → FourIs s.data.toList w.heap.size (.slice q out.length cap) ok wr) := by
        intro ok e
        by_cases l4 : out.length = 4
        · rw [if_pos l4] at hF1
          refine Or.inl ⟨out, by rw [RH.out, hF1], by rw [e]; simp [l4], ?_⟩
          have := hown.out
          rw [l4] at this ⊢
          exact this
        · rw [if_neg l4] at hF1
          exact Or.inr ⟨by rw [RH.out, hF1], by rw [e]; simp [l4]⟩
      clear BAD hF1 hF hown hb hs RH D8 DE
      go_wp2
      go_ret2
      refine ⟨_, _, by first | rfl | simp, G.out _ ?_, hB.out⟩
      rw [Bool.eq_iff_iff]
      simp
      omega
end Go.Proofs.YtgbpnekinbdadaaDoor
