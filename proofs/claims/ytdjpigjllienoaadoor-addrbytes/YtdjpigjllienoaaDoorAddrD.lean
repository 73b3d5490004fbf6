/-
  What Bytes of package addr returns, for every address.
-/
import Derived.Test.YtdjpigjllienoaaDoorAddrC
import Derived.Laws.BytesArg
import Derived.Deep.DeepCutAuto
namespace Go.Proofs.YtdjpigjllienoaaDoor
open Go.ChangeShapes Go.WideShapes Go.ChangeAt Go.RowKit
set_option linter.unusedVariables false
set_option linter.unusedSimpArgs false

theorem own_below {w w' : World} {B e size n : Nat} {v : Value} {xs : List Value} (h : w.ownsRow B e size v n xs) (hb : Below w.heap.size w w') : w'.ownsRow B e size v n xs := by
  refine ⟨h.1, ?_⟩
  rcases h.2 with ⟨rfl, h0⟩ | ⟨g, cap, cur, rfl, hg, hh, r⟩
  · exact Or.inl ⟨rfl, h0⟩
  · exact Or.inr ⟨g, cap, cur, rfl, hg, (hb.block g (Array.getElem?_eq_some_iff.1 hh).1).trans hh, r⟩

/-- Behind an append to a row of one's own, what lay below is as it was. -/
theorem below_grown {B : Nat} {w wr w' : World} {v : Value} {k e size : Nat} {xs : List Value} {o : Obj} (hb : Below B w wr) (hB : B ≤ wr.heap.size)
    (hown : wr.ownsRow B e size v k xs) (hg : (wr.alloc o).grownBy w' v.ownBlock) : Below B w w' := by
  refine Below.grown (hb.alloc hB o) hg (by simp; omega) (fun j hj => ?_)
  exact (hown.lt j hj).1

/-- The first k of the pieces of s bits of a number of W bits, the highest first. -/
def topP (a W s : Nat) : Nat → List Nat
  | 0 => []
  | k + 1 => topP a W s k ++ [a / 2 ^ (W - s * (k + 1)) % 2 ^ s]

theorem topP_length (a W s : Nat) : ∀ k, (topP a W s k).length = k
  | 0 => rfl
  | k + 1 => by simp [topP, topP_length a W s k]

/-- Numbers as a string's bytes. -/
def strP (l : List Nat) : ByteArray := strOfNums (l.map fun n : Nat => (n : Int))

theorem infoU8 : (Tryd.prog.info? 5).map (fun i => (i.zero, i.size, i.bytes)) = some (some (.int .u8 0), 1, 1) := by kernel_rfl

theorem piece_lt (x s : Nat) (hs : s ≤ 16) : x % 2 ^ s < 65536 := by
  have := Nat.mod_lt x (pow_pos2 s)
  have p : 2 ^ s ≤ 2 ^ 16 := Nat.pow_le_pow_right (by decide) hs
  rw [show (2 : Nat) ^ 16 = 65536 by decide] at p
  omega

set_option maxHeartbeats 800000 in
theorem bytes_none {v : Bool} {h l : Int} {a : Nat} (ha : IsNum h l a) (hok : okA v a = false) (w : World) :
    Calls Tryd.prog 9 #[av v h l] w fun e w' => e = .returned (.string ⟨#[]⟩) ∧ Below w.heap.size w w' := by
  have hr := fun w' => aright_c (v := v) ha w'
  rw [hok] at hr
  clear hok ha
  go_enter Tryd.func9, Tryd.ntmps9
  go_wp2_with fail
  refine (hr _).mono ?_
  rintro e w1 ⟨rfl, hb1⟩
  clear hr
  go_wp2
  go_ret
  exact ⟨rfl, by repeat (first | with_reducible exact Below.refl _ _ | with_reducible refine Below.drew ?_ | with_reducible refine Below.alloc ?_ (by first | omega | (simp <;> omega)) _ | with_reducible refine Below.setCell ?_ (by first | omega | (simp <;> omega)) _ | with_reducible refine Below.trans ?_ (Below.mono hb1 (by first | omega | (simp <;> omega))))⟩

set_option maxHeartbeats 1600000 in
theorem bytes_w {v : Bool} {h l : Int} {a : Nat} (ha : IsNum h l a) (hok : okA v a = true) (w : World) (N : Nat) (hN : widthA v = ((8 * N : Nat) : Int)) (hN2 : N = 4 ∨ N = 16) :
    Calls Tryd.prog 9 #[av v h l] w fun e w' => e = .returned (.string (strP (topP a (8 * N) 8 N))) ∧ Below w.heap.size w w' := by
  obtain ⟨i0, hi, hz0, hz1, hz2⟩ := info_parts infoU8
  have hr := fun w' => aright_c (v := v) ha w'
  rw [hok] at hr
  obtain ⟨W, n, hW, hn, hWn⟩ : ∃ W n : Int, W = ((8 * N : Nat) : Int) ∧ n = (N : Int) ∧ (W = 32 ∧ n = 4 ∨ W = 128 ∧ n = 16) := ⟨_, _, rfl, rfl, by omega⟩
  have wd := fun w' => width_lit v W (hN.trans hW.symm) h l w'
  have pc := fun (t : Int) (t0 : 0 ≤ t) (t1 : 8 * (t + 1) ≤ W) (w' : World) => piece_w (v := v) (s := 8) ha (Or.inl rfl) t0 (by rw [hN, ← hW]; exact t1) w'
  have Hn : Hid (n = (N : Int)) := hn
  have HN : Hid (widthA v = ((8 * N : Nat) : Int)) := hN
  have HW : Hid (W = ((8 * N : Nat) : Int)) := hW
  clear hN hW hn hok ha hN2
  rcases hWn with ⟨rfl, rfl⟩ | ⟨rfl, rfl⟩
  all_goals
    go_enter Tryd.func9, Tryd.ntmps9
    go_wp2_with fail
    refine (hr _).mono ?_
    rintro e w1 ⟨rfl, hb1⟩
    obtain ⟨hc1, hf1⟩ := bcell hb1
    have hz_w1_0 : w.heap.size < w1.heap.size   := (by have := hb1.size; first | omega | (simp at this; omega))
    clear hr
    go_wp2_with fail
    refine (wd _).mono ?_
    rintro e w2 ⟨rfl, hb2⟩
    obtain ⟨hc2, hf2⟩ := bcell hb2
    have hz_w2_0 : w.heap.size < w2.heap.size   := (by have := hb2.size; first | omega | (simp at this; omega))
    clear wd
    have B2 : Below w.heap.size w w2 := by repeat (first | with_reducible exact Below.refl _ _ | with_reducible refine Below.drew ?_ | with_reducible refine Below.alloc ?_ (by first | omega | (simp <;> omega)) _ | with_reducible refine Below.setCell ?_ (by first | omega | (simp <;> omega)) _ | with_reducible refine Below.trans ?_ (Below.mono hb2 (by first | omega | (simp <;> omega))) | with_reducible refine Below.trans ?_ (Below.mono hb1 (by first | omega | (simp <;> omega))))
    have bx : w2.cell? ⟨w.heap.size, 0, none⟩ = some (.bool v) ∧ w2.cell? ⟨w.heap.size, 1, none⟩ = some (.int .u64 h) ∧ w2.cell? ⟨w.heap.size, 2, none⟩ = some (.int .u64 l) := by simp [*]
    obtain ⟨bx0, bx1, bx2⟩ := bx
    clear hc1 hf1 hc2 hf2 hb1 hb2
    go_wp2_with fail
    go_loopw [3, 11] (fun u i wr => ∃ k : Nat, k ≤ N ∧ i = .int .i64 k ∧ wr.ownsRow w2.heap.size 5 1 u k ((topP a (8 * N) 8 k).map fun n : Nat => .int .u8 (n : Int)) ∧ Below w2.heap.size w2 wr) (fun _ i _ => N - (intOf i).toNat)
    case atStart => exact ⟨0, by omega, rfl, World.ownsRow_nil _ _ _ _, Below.refl _ _⟩
    case round =>
      obtain ⟨k, hk, rfl, hown, hb⟩ := hrel
      have hs := hb.size
      have Hn' := Hn.out
      by_cases hlt : k < N
      · first | have hki : (k : Int) < 4 := by omega | have hki : (k : Int) < 16 := by omega
        obtain ⟨hcr, hfr⟩ := bcell' hb
        have hzr : w.heap.size < wr.heap.size := by omega
        go_wp2_with fail
        refine (pc k (by omega) (by omega) _).mono ?_
        rintro e w3 ⟨r, rfl, hr3, hb3⟩
        obtain ⟨r0, r1⟩ : 0 ≤ r ∧ r < 256 := by
          have := hr3.out
          have m := Nat.mod_lt (a / 2 ^ (widthA v - 8 * ((k : Int) + 1)).toNat) (by decide : 0 < 2 ^ (8 : Int).toNat)
          rw [show 2 ^ (8 : Int).toNat = 256 from rfl] at m this
          omega
        have hown3 := own_below hown hb3
        have hb4 : Below w2.heap.size w2 w3 := hb.trans (hb3.mono hs)
        have hs3 := hb4.size
        clear hown hb3 hb hcr hfr hs hzr Hn'
        go_wp2_with (first | (at_builtin; refine wpList_append_own _ rfl _ _ 33 rfl w2.heap.size 5 i0 (.int .u8 0) 1 1 Tryd.underlying33 hi hz0 hz1 hz2 rfl (by decide) _ _ _ rfl (hown3.alloc _) ⟨w3.heap.size, 0, none⟩ 1 1 [.int .u8 r] rfl rfl ?c1 ?c2 ?c3 ?c4 ?c5 ?_))
        case c1 =>
          intro j u hj
          match j, hj with
          | 0, hj => simp at hj; subst hj; simp [Addr.add]
        case c2 => intro u hu; simp at hu; subst hu; rfl
        case c3 => unfold maxLen; omega
        case c4 => omega
        case c5 => simp; omega
        intro v' w4 hown4 hgrow _
        have hb5 := below_grown hb4 hs3 hown3 hgrow
        clear hown3 hgrow
        go_wp2
        go_roundw
        case measure => simp [intOf]; omega
        case rel =>
          refine ⟨k + 1, by omega, by go_num, ?_, hb5⟩
          have e1 : r = ((a / 2 ^ (8 * N - 8 * (k + 1)) % 2 ^ 8 : Nat) : Int) := by
            rw [hr3.out, HN.out, show (((8 * N : Nat) : Int) - 8 * ((k : Int) + 1)).toNat = 8 * N - 8 * (k + 1) by omega]; rfl
          rw [e1] at hown4
          simpa [topP] using hown4
      · obtain rfl : k = N := by omega
        first | have hki : ¬ (k : Int) < 16 := by omega | have hki : ¬ (k : Int) < 4 := by omega
        have cv : (convert 33 9 u3).run Tryd.prog wr = .ok (.string (strP (topP a (8 * k) 8 k))) wr := by
          obtain ⟨g, cap, rfl, _⟩ : ∃ g cap, u3 = .slice (some ⟨g, 0, none⟩) k cap ∧ True := by
            rcases hown.2 with ⟨rfl, h0⟩ | ⟨g, cap, cur, rfl, _⟩
            · have := Hn.out; omega
            · exact ⟨g, cap, rfl, trivial⟩
          refine run_convert_bytes_arg (P := Tryd.prog) wr 33 5 Tryd.underlying33 Tryd.underlying5 g 0 k cap ((topP a (8 * k) 8 k).map fun n : Nat => (n : Int)) (by rw [List.length_map, topP_length]) (fun i hi => ?_) 9 Tryd.underlying9
          rw [Nat.zero_add, World.ownsRow.cellAt hown i (by omega)]
          have hl : i < (topP a (8 * k) 8 k).length := by rw [topP_length]; exact hi
          simp [hl]
        have hB : Below w.heap.size w wr := B2.trans (hb.mono B2.size)
        clear hown hb hs
        go_wp2
        go_ret
        exact ⟨rfl, hB⟩
end Go.Proofs.YtdjpigjllienoaaDoor
