/-
  platbookref01.Print: the decimal digits, each laid before those that are there.
-/
import Derived.Test.YtegbbankbcojkaaRefOver
import Derived.Test.YtegbbankbcojkaaPrint
import Derived.Test.YtegbbankbcojkaaTextMath2
import Derived.Laws.AppendOwn
import Derived.OwnWalk
namespace Go.Proofs.Ytegbbankbcojkaa
open Go.ChangeShapes Go.WideShapes Go.ChangeAt Go.RowKit
set_option linter.unusedVariables false
set_option linter.unusedSimpArgs false

theorem infoU8 : (Try.prog.info? 5).map (fun i => (i.zero, i.size, i.bytes)) = some (some (.int .u8 0), 1, 1) := by kernel_rfl

/-- The last j digits lie at the head of block g. -/
def DigAt (w : World) (g : Nat) (a j : Nat) : Prop := g < w.heap.size ∧ ∀ i : Nat, i < j → w.cell? ⟨g, i, none⟩ = some (.int .u8 ((lowD a j).getD i 0))

/-- What the loop of Print keeps. -/
def DS (w : World) (g : Nat) (h l : Int) (a j : Nat) (wr : World) : Prop := Own wr w.heap.size h l ∧ DigAt wr g a j ∧ w.heap.size < g ∧ Below w.heap.size w wr
theorem DS.below {w W w1 : World} {g : Nat} {h l : Int} {a j : Nat} (s : DS w g h l a j W) (hb : Below W.heap.size W w1) : DS w g h l a j w1 :=
  ⟨s.1.below hb, ⟨Nat.lt_of_lt_of_le s.2.1.1 hb.size, fun i hi => (hb.cell s.2.1.1).trans (s.2.1.2 i hi)⟩, s.2.2.1, s.2.2.2.trans (hb.mono s.2.2.2.size)⟩

theorem owns_one (w : World) (x : Value) (e : TypeId) {base : Nat} (hb : base ≤ w.heap.size) : (w.alloc (.cells #[x] e)).ownsRow base e 1 (.slice (some ⟨w.heap.size, 0, none⟩) 1 1) 1 [x] :=
  ⟨rfl, .inr ⟨w.heap.size, 1, #[x], rfl, hb, heap_alloc_new w _, Nat.le_refl _, by unfold maxLen; omega, rfl, rfl⟩⟩

theorem dig_list (a j : Nat) : ((48 + a / 10 ^ j % 10 : Nat) : Int) :: lowD a j = lowD a (j + 1) := rfl

theorem dig_grown {w w1 w' : World} {g : Nat} {h l h' l' x : Int} {a j : Nat} {v' : Value} {tn tb : TypeId} (s : DS w g h l a j w1) (hx : x = ((48 + a / 10 ^ j % 10 : Nat) : Int))
    (hown : w'.ownsRow (w1.heap.size + 1) tb 1 v' (1 + j) ([Value.int .u8 x] ++ (lowD a j).map (Value.int .u8)))
    (hg : ((w1.alloc (.cells #[.int .u64 h', .int .u64 l'] tn)).alloc (.cells #[.int .u8 x] tb)).grownBy w' (Value.ownBlock (.slice (some ⟨w1.heap.size + 1, 0, none⟩) 1 1))) :
    ∃ g' cap, v' = .slice (some ⟨g', 0, none⟩) (1 + j) cap ∧ DS w g' h l a (j + 1) w' ∧ Two w' w1.heap.size h' l' ∧ w.heap.size < w1.heap.size := by
  have lw : w.heap.size < w1.heap.size := s.1.1.2.2
  rcases hown.2 with ⟨_, hn⟩ | ⟨g', cap, cur, rfl, hb, hgg, _⟩
  · omega
  · have lg : g' < w'.heap.size := (Array.getElem?_eq_some_iff.1 hgg).1
    have T := (Two.new w1 h' l' tn).alloc (.cells #[.int .u8 x] tb)
    have O := (s.1.alloc (.cells #[.int .u64 h', .int .u64 l'] tn)).alloc (.cells #[.int .u8 x] tb)
    have sz := hg.size
    simp at sz
    refine ⟨g', cap, rfl, ⟨⟨⟨hg.cell O.1.1 ?_, hg.cell O.1.2.1 ?_, by omega⟩, ?_, ?_⟩, ⟨lg, fun i hi => ?_⟩, by omega, ?_⟩, ⟨hg.cell T.1 ?_, hg.cell T.2.1 ?_, by omega⟩, lw⟩
    · simp [Value.ownBlock]; omega
    · simp [Value.ownBlock]; omega
    · rw [World.frozen?_of_block (hg.block _ O.1.2.2 (by simp [Value.ownBlock]; omega))]; exact O.2.1
    · rw [World.frozen?_of_block (hg.block _ O.1.2.2 (by simp [Value.ownBlock]; omega))]; exact O.2.2
    · have hl : i < (lowD a (j + 1)).length := by rw [lowD_length]; exact hi
      have e : ([Value.int .u8 x] ++ (lowD a j).map (Value.int .u8)) = (lowD a (j + 1)).map (Value.int .u8) := by rw [← dig_list, hx]; rfl
      have := hown.cells (g := g') rfl i (.int .u8 ((lowD a (j + 1)).getD i 0)) (by
        rw [e, List.getElem?_map, List.getD_eq_getElem?_getD, List.getElem?_eq_getElem hl]; rfl)
      rw [← this]
      congr 1
      unfold Addr.add; split <;> simp_all
    · exact ((s.2.2.2.alloc (by omega) _).alloc (by simp; omega) _).grown hg (by simp; omega) (by intro k hk; simp [Value.ownBlock] at hk; omega)
    · simp [Value.ownBlock]
    · simp [Value.ownBlock]

set_option maxHeartbeats 1600000 in
theorem rprint_c {ah al : Int} {a : Nat} (ha : IsNum ah al a) (w : World) :
    Calls Try.prog 23 #[nv ah al] w fun e w' => ∃ j : Nat, e = .returned (.string (strOfNums (lowD a j))) ∧ IsDec a j ∧ Below w.heap.size w w' := by
  obtain ⟨i0, hi, hz0, hz1, hz2⟩ := info_parts infoU8
  go_enter Try.func23, Try.ntmps23
  go_wp2_with fail
  go_loopw [3, 4] (fun v t wr => ∃ (j g cap : Nat) (h l : Int), v = .slice (some ⟨g, 0, none⟩) j cap ∧ t = .int .i64 j ∧ j ≤ 39 ∧ IsNum h l (a / 10 ^ j) ∧ Hid (1 < j → 10 ^ (j - 1) ≤ a) ∧ DS w g h l a j wr) (fun _ t _ => 40 - (intOf t).toNat)
  case atStart =>
    refine ⟨0, w.heap.size + 1, 0, ah, al, rfl, rfl, by omega, ha.cast (by simp), fun h => absurd h (by omega), (Own.new _ _ _ _).alloc _, ⟨by simp, fun i hi => absurd hi (by omega)⟩, by omega, by repeat (first | with_reducible exact Below.refl _ _ | with_reducible refine Below.drew ?_ | with_reducible refine Below.alloc ?_ (by first | omega | (simp <;> omega)) _ | with_reducible refine Below.setCell ?_ (by first | omega | (simp <;> omega)) _)⟩
  case round =>
    obtain ⟨j, g, cap, h, l, rfl, rfl, j1, hn, hge, S⟩ := hrel
    obtain ⟨⟨⟨c0, c1, c2⟩, f0, f1⟩, D, lg, hBr⟩ := id S
    have n0 := hn.h0; have n1 := hn.h1; have n2 := hn.l0; have n3 := hn.l1; have n4 := hn.eq
    have t0 : (h = 0 ∧ l = 0) ↔ a / 10 ^ j = 0 := by constructor <;> intro x <;> omega
    have n4' : Hid (h * 18446744073709551616 + l = ((a / 10 ^ j : Nat) : Int)) := n4
    have hj40 : (j : Int) < 40 := by omega
    clear n4
    go_upto_region 3 with fail
    go_cut [23] (fun t wc => t = .bool (decide (j = 0 ∨ a / 10 ^ j ≠ 0)) ∧ wc = wr)
    case first =>
      by_cases c : j = 0
      · subst c
        go_wp2
        go_meet
        case rel => exact ⟨by simp, rfl⟩
      · have c' : ((j : Int) == 0) = false := by simpa using c
        by_cases d : h = 0
        · by_cases d2 : l = 0
          · have e : a / 10 ^ j = 0 := t0.1 ⟨d, d2⟩
            have e' : Hid (decide (j = 0 ∨ a / 10 ^ j ≠ 0) = false) := by show _ = _; simp [c, e]
            clear e t0
            go_wp2
            go_meet
            case rel => exact ⟨by rw [e'.out], rfl⟩
          · have e : a / 10 ^ j ≠ 0 := fun x => d2 (t0.2 x).2
            have e' : Hid (decide (j = 0 ∨ a / 10 ^ j ≠ 0) = true) := by show _ = _; simp [e]
            have d3 : 0 < l := by omega
            clear e t0
            go_wp2
            go_meet
            case rel => exact ⟨by rw [e'.out], rfl⟩
        · have e : a / 10 ^ j ≠ 0 := fun x => d (t0.2 x).1
          have e' : Hid (decide (j = 0 ∨ a / 10 ^ j ≠ 0) = true) := by show _ = _; simp [e]
          have d3 : 0 < h := by omega
          clear e t0
          go_wp2
          go_meet
          case rel => exact ⟨by rw [e'.out], rfl⟩
    case rest =>
      obtain ⟨rfl, rfl⟩ := hcut
      by_cases c : j = 0 ∨ a / 10 ^ j ≠ 0
      · have jl : j < 39 := by
          rcases c with c | c
          · omega
          · apply Nat.not_le.1
            intro k2
            apply c
            have j39 : j = 39 := by omega
            have l1 := ha.lt
            rw [j39]
            have : (10 : Nat) ^ 39 = 1000000000000000000000000000000000000000 := by decide
            rw [this]
            exact Nat.div_eq_of_lt (by omega)
        have ct : decide (j = 0 ∨ a / 10 ^ j ≠ 0) = true := by simpa using c
        rw [ct]
        have G : Hid (1 < j + 1 → 10 ^ (j + 1 - 1) ≤ a) := by
          intro hj
          rcases c with c | c
          · omega
          · rw [Nat.add_sub_cancel]
            have := Nat.pos_of_ne_zero c
            exact (Nat.div_pos_iff.1 this).2
        clear ct c t0 n4'
        go_wp2_with fail
        refine (rover_c hn (by omega) (by omega) _).mono ?_
        rintro e w1 ⟨h', l', r, rfl, hn', hr, hb1⟩
        obtain ⟨r0, r1⟩ : 0 ≤ r ∧ r < 10 := by
          have x := hr.out
          have := Nat.mod_lt (a / 10 ^ j) (by decide : 0 < (10 : Int).toNat)
          constructor
          · omega
          · simp at this x; omega
        have S1 := S.below hb1
        have hx : Hid (48 + r = ((48 + a / 10 ^ j % 10 : Nat) : Int)) := by
          show _ = _
          have x := hr.out
          rw [x]; simp
        have hw1 : IntKind.u64.wrap (48 + r) = 48 + r := by rw [IntKind.wrap_u64]; omega
        have hw2 : IntKind.u8.wrap (48 + r) = 48 + r := by rw [IntKind.wrap_u8]; omega
        have l1 : w.heap.size < w1.heap.size := S1.1.1.2.2
        have OW : ((w1.alloc (.cells #[.int .u64 h', .int .u64 l'] 24)).alloc (.cells #[.int .u8 (48 + r)] 5)).ownsRow (w1.heap.size + 1) 5 1 (.slice (some ⟨w1.heap.size + 1, 0, none⟩) 1 1) 1 [.int .u8 (48 + r)] := by
          simpa using owns_one (w1.alloc (.cells #[.int .u64 h', .int .u64 l'] 24)) (.int .u8 (48 + r)) 5 (base := w1.heap.size + 1) (by simp)
        clear S hb1 D hBr hr c0 c1 c2 f0 f1
        go_wp2_with (first | (at_builtin; refine wpList_append_own _ rfl _ _ 55 rfl (w1.heap.size + 1) 5 i0 (.int .u8 0) 1 1 Try.underlying55 hi hz0 hz1 hz2 rfl (by decide) (.slice (some ⟨w1.heap.size + 1, 0, none⟩) 1 1) 1 [.int .u8 (48 + r)] rfl OW ⟨g, 0, none⟩ j cap ((lowD a j).map (Value.int .u8)) rfl ?c0 ?c1 ?c2 ?c3 ?c4 ?c5 ?_))
        case c0 => simp [lowD_length]
        case c1 =>
          intro i u hu
          have hil : i < j := by
            have := (List.getElem?_eq_some_iff.1 hu).1
            simpa [lowD_length] using this
          have hpl : (⟨g, 0, none⟩ : Addr).add i = ⟨g, i, none⟩ := by unfold Addr.add; split <;> simp_all
          rw [hpl, World.cell?_alloc_lt _ _ _ (by simp; have := S1.2.1.1; omega), World.cell?_alloc_lt _ _ _ S1.2.1.1, S1.2.1.2 i hil]
          rw [← hu, List.getElem?_map, List.getD_eq_getElem?_getD, List.getElem?_eq_getElem (by rw [lowD_length]; exact hil)]
          rfl
        case c2 =>
          intro u hu
          obtain ⟨x, _, rfl⟩ := List.mem_map.1 hu
          rfl
        case c3 => unfold maxLen; omega
        case c4 => omega
        case c5 => simp
        intro v' w3 hown' hgrow _
        obtain ⟨g', cap', rfl, S2, T2, _⟩ := dig_grown S1 hx.out hown' hgrow
        obtain ⟨T20, T21, T22⟩ := id T2
        obtain ⟨⟨⟨c0, c1, c2⟩, f0, f1⟩, D, lg', hBr⟩ := id S2
        clear hown' hgrow S1 hx
        go_wp2
        go_roundw
        case measure => simp [intOf]; omega
        case rel =>
          refine ⟨j + 1, g', cap', h', l', by rw [Nat.add_comm], by go_num, by omega, hn'.cast ?_, G, S2.1.put, ⟨by simpa using D.1, fun i hi => ?_⟩, lg', by repeat (first | with_reducible exact Below.refl _ _ | with_reducible refine Below.drew ?_ | with_reducible refine Below.alloc ?_ (by first | omega | (simp <;> omega)) _ | with_reducible refine Below.setCell ?_ (by first | omega | (simp <;> omega)) _ | with_reducible refine Below.trans ?_ (Below.mono hBr (by first | omega | (simp <;> omega))))⟩
          · rw [Nat.div_div_eq_div_mul, Nat.pow_succ]; rfl
          · rw [World.cell?_setCell_other _ _ _ _ (by intro c; cases c; omega), World.cell?_setCell_other _ _ _ _ (by intro c; cases c; omega)]
            exact D.2 i hi
      · have ct : decide (j = 0 ∨ a / 10 ^ j ≠ 0) = false := by simpa using c
        rw [ct]
        have e0 : a / 10 ^ j = 0 := by omega
        have dec : IsDec a j := ⟨by omega, by
          rcases Nat.div_eq_zero_iff.1 e0 with x | x
          · exact absurd x (Nat.ne_of_gt (Nat.pow_pos (by decide)))
          · exact x, hge.out⟩
        have cv' := run_convert_bytes_arg (P := Try.prog) wc 55 5 Try.underlying55 Try.underlying5 g 0 j cap (lowD a j) (lowD_length a j)
          (fun i hi => by rw [Nat.zero_add]; exact D.2 i hi) 9 Try.underlying9
        clear ct c t0 n4' hge e0 D S
        go_wp2
        go_ret
        exact ⟨j, rfl, dec, hBr⟩
end Go.Proofs.Ytegbbankbcojkaa
