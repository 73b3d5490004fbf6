/-
  Parse of the reference of package addr: the walk's pieces.
-/
import Derived.Test.YtgbpnekinbdadaaDoorRfP
import Derived.Test.YtgbpnekinbdadaaDoorRfO
import Derived.Test.YtgbpnekinbdadaaDoorAppM
namespace Go.Proofs.YtgbpnekinbdadaaDoor
open Go.ChangeShapes Go.WideShapes Go.ChangeAt Go.RowKit
set_option linter.unusedVariables false
set_option linter.unusedSimpArgs false

/-- Byte i of a text. -/
def bt (s : ByteArray) (i : Nat) : UInt8 := s.data.toList.getD i 0

theorem bt_get (s : ByteArray) (i : Nat) (h : i < s.size) : s[i] = bt s i := by
  unfold bt
  have h' : i < s.data.toList.length := by rw [Array.length_toList]; exact h
  rw [List.getD_eq_getElem?_getD, List.getElem?_eq_getElem h']
  rfl

theorem len8 (s : ByteArray) : s.data.toList.length = s.size := by rw [Array.length_toList]; rfl

theorem drop_bt (s : ByteArray) (k : Nat) (h : k < s.size) : s.data.toList.drop k = bt s k :: s.data.toList.drop (k + 1) := by
  rw [drop_cons8 s k h, bt_get s k h]

theorem take_bt (s : ByteArray) (k : Nat) (h : k < s.size) : s.data.toList.take (k + 1) = s.data.toList.take k ++ [bt s k] := by
  have h' : k < s.data.toList.length := by rw [len8]; exact h
  rw [List.take_add_one, List.getElem?_eq_getElem h']
  congr 1
  show [_] = [_]
  unfold bt
  rw [List.getD_eq_getElem?_getD, List.getElem?_eq_getElem h']
  rfl

/-- Is there a colon among the first k bytes? -/
def hasC (s : ByteArray) (k : Nat) : Bool := decide ((58 : UInt8) ∈ s.data.toList.take k)

theorem hasC_step (s : ByteArray) (k : Nat) (h : k < s.size) : hasC s (k + 1) = (hasC s k || bt s k == 58) := by
  unfold hasC
  rw [take_bt s k h, Bool.eq_iff_iff]
  have e : ((58 : UInt8) = bt s k) ↔ (bt s k == 58) = true := by
    rw [beq_iff_eq]
    exact ⟨fun h => h.symm, fun h => h.symm⟩
  simp only [List.mem_append, List.mem_singleton, decide_eq_true_eq, Bool.or_eq_true, e]

theorem hasC_all (s : ByteArray) : hasC s s.size = colonF s.data.toList := by
  unfold hasC colonF
  rw [List.take_of_length_le (by rw [len8]; exact Nat.le_refl _)]
  by_cases c : (58 : UInt8) ∈ s.data.toList
  · rw [decide_eq_true c, decide_eq_true (index_in _ c)]
  · rw [decide_eq_false c, index_out _ c]
    rfl

/-- What Parse leaves. -/
def RPRet (l : List UInt8) (w : World) (e : Ending) (W : World) : Prop := ∃ v h lo c, e = .returned (.tuple #[av v h lo, .int .i64 c]) ∧ Hid (ParseIs l v h lo c) ∧ Below w.heap.size w W

/-- What the main loop keeps. -/
structure PSq (w : World) (u : Value) (out : List Nat) (W : World) : Prop where
  own : W.ownsRow (w.heap.size + 1) 5 1 u out.length (bytC out)
  res : Blk W w.heap.size #[.bool false, .int .u64 0, .int .u64 0] 26
  bel : Below w.heap.size w W
  siz : w.heap.size + 1 ≤ W.heap.size

theorem PSq.below {w W W' : World} {u : Value} {out : List Nat} (S : PSq w u out W) (k : Below W.heap.size W W') : PSq w u out W' :=
  ⟨own_below S.own k, S.res.below k, S.bel.trans (k.mono S.bel.size), Nat.le_trans S.siz k.size⟩

theorem PSq.grown {w W W' : World} {u u' : Value} {out out' : List Nat} {o : Obj} (S : PSq w u out W) (h : W'.ownsRow (w.heap.size + 1) 5 1 u' out'.length (bytC out')) (hg : (W.alloc o).grownBy W' u.ownBlock) : PSq w u' out' W' := by
  have B : Below (w.heap.size + 1) W W' := below_grown (Below.refl _ _) S.siz S.own hg
  exact ⟨h, (B.block w.heap.size (by omega)).trans S.res, S.bel.trans (B.mono (by omega)), Nat.le_trans S.siz B.size⟩

theorem PSq.grown0 {w W W' : World} {u u' : Value} {out out' : List Nat} (S : PSq w u out W) (h : W'.ownsRow (w.heap.size + 1) 5 1 u' out'.length (bytC out')) (hg : W.grownBy W' u.ownBlock) : PSq w u' out' W' := by
  have nz : u.ownBlock ≠ some w.heap.size := by
    intro e
    have := (S.own.lt _ e).1
    omega
  have bl : ∀ k, k < w.heap.size + 1 → W'.heap[k]? = W.heap[k]? := fun k hk => hg.block k (by have := S.siz; omega) (fun e => by
    have := (S.own.lt k e.symm).1
    omega)
  have B : Below (w.heap.size + 1) W W' := ⟨hg.os, hg.tape, hg.output, hg.size, bl⟩
  exact ⟨h, (bl _ (by omega)).trans S.res, S.bel.trans (B.mono (by omega)), Nat.le_trans S.siz B.size⟩

theorem slice_of {W : World} {base n : Nat} {u : Value} {xs : List Value} (h : W.ownsRow base 5 1 u n xs) : ∃ q cap, u = .slice q n cap := by
  rcases h.2 with ⟨h1, h2⟩ | ⟨g', cp, cur, h1, _⟩
  · exact ⟨none, 0, by rw [h1, h2]⟩
  · exact ⟨some ⟨g', 0, none⟩, cp, h1⟩

/-- A row of bytes that is there, as OfBytes takes it. -/
theorem row_of {W : World} {base n : Nat} {u : Value} {bs : List Nat} (h : W.ownsRow base 5 1 u n (bytC bs)) (h0 : 0 < n) : ∃ g cap, u = .slice (some ⟨g, 0, none⟩) n cap ∧ (∀ j x, bs[j]? = some x → W.cell? ⟨g, j, none⟩ = some (.int .u8 (x : Nat))) ∧ g < W.heap.size := by
  rcases h.2 with ⟨_, h2⟩ | ⟨g, cap, cur, h1, _, h3, _⟩
  · omega
  · refine ⟨g, cap, h1, fun j x hx => ?_, (Array.getElem?_eq_some_iff.1 h3).1⟩
    have := h.cells (g := g) (by rw [h1]; rfl) j (.int .u8 (x : Nat)) (by rw [List.getElem?_map, hx]; rfl)
    have ad : (⟨g, 0, none⟩ : Addr).add j = ⟨g, j, none⟩ := by unfold Addr.add; split <;> simp_all
    rwa [ad] at this

set_option maxRecDepth 100000 in
set_option maxHeartbeats 3200000 in
/-- Where no colon is. -/
theorem rparse_short (s : ByteArray) (hs : s.size ≤ 1000) (hc : colonF s.data.toList = false) (w : World) :
    Calls Tryd.prog 14 #[.string s] w fun e w' => RPRet s.data.toList w e w' := by
  have HC := hide (hasC_step s)
  have HA : Hid (hasC s s.size = false) := (hasC_all s).trans hc
  have W0 : Blk (w.alloc (.cells #[.bool false, .int .u64 0, .int .u64 0] 26)) w.heap.size #[.bool false, .int .u64 0, .int .u64 0] 26 := Blk.new _ _ _
  have B0 : Below w.heap.size w (w.alloc (.cells #[.bool false, .int .u64 0, .int .u64 0] 26)) := by repeat (first | with_reducible exact Below.refl _ _ | with_reducible refine Below.drew ?_ | with_reducible refine Below.alloc ?_ (by first | omega | (simp <;> omega)) _ | with_reducible refine Below.setCell ?_ (by first | omega | (simp <;> omega)) _)
  have FO := hide (fun w' => rfour_c s hs w')
  have fs := hide (four_short 3 [] s.data.toList rfl)
  have fb := hide (four_bytes s.data.toList none [])
  have PN : Hid (∀ n, shortF 3 0 s.data.toList = some n → parseF s.data.toList = some (false, n)) := fun n e => by unfold parseF; rw [hc, if_neg (by simp), e]; rfl
  have PZ : Hid (shortF 3 0 s.data.toList = none → parseF s.data.toList = none) := fun e => by unfold parseF; rw [hc, if_neg (by simp), e]; rfl
  have WH := hide W0
  have BH := hide B0
  obtain ⟨w0, hw0⟩ : ∃ w0, w0 = w.alloc (.cells #[.bool false, .int .u64 0, .int .u64 0] 26) := ⟨_, rfl⟩
  rw [← hw0] at WH BH
  clear hc W0 B0
  go_enter Tryd.func14, Tryd.ntmps14
  go_wp2_with fail
  rw [← hw0]
  clear hw0
  go_loop [4, 5] (fun cv iv => ∃ k : Nat, k ≤ s.size ∧ iv = .int .i64 k ∧ cv = .bool (hasC s k)) (fun _ iv => s.size - (intOf iv).toNat)
  case atStart => exact ⟨0, Nat.zero_le _, rfl, rfl⟩
  case round =>
    obtain ⟨k, hk, rfl, rfl⟩ := hrel
    by_cases hlt : k < s.size
    · have hki : (k : Int) < (s.size : Int) := by omega
      have st := HC.out k hlt
      have bg : s[k] = bt s k := bt_get s k hlt
      obtain ⟨c, ec⟩ : ∃ c : UInt8, bt s k = c := ⟨_, rfl⟩
      rw [ec] at bg st
      have bg' : (s[k].toNat : Int) = (c.toNat : Int) := by rw [bg]
      have c58 : (c == 58) = decide (c.toNat = 58) := by
        rw [Bool.eq_iff_iff, beq_iff_eq, decide_eq_true_iff]
        exact ⟨fun e => by rw [e]; rfl, fun e => UInt8.toNat_inj.1 e⟩
      obtain ⟨C, hC⟩ : ∃ C : Nat, c.toNat = C := ⟨_, rfl⟩
      rw [hC] at bg' c58
      obtain ⟨b0, hb0⟩ : ∃ b0, hasC s k = b0 := ⟨_, rfl⟩
      rw [hb0, c58] at st
      rw [hb0]
      have ST := hide st
      clear st c58 hC ec hb0 bg HC HA FO fs fb PN PZ
      by_cases d : C = 58
      · have d' : ((C : Int) == 58) = true := by rw [beq_iff_eq]; omega
        have X : Hid (hasC s (k + 1) = true) := by show _ = _; rw [ST.out, d]; simp
        cases b0
        all_goals
          go_wp2
          go_round
          case rel => exact ⟨k + 1, by omega, by go_num, by rw [X.out]⟩
          case measure => (simp [intOf]; omega)
      · have d' : ((C : Int) == 58) = false := by rw [beq_eq_false_iff_ne]; omega
        have X : Hid (hasC s (k + 1) = b0) := by show _ = _; rw [ST.out, decide_eq_false d, Bool.or_false]
        cases b0
        all_goals
          go_wp2
          go_round
          case rel => exact ⟨k + 1, by omega, by go_num, by rw [X.out]⟩
          case measure => (simp [intOf]; omega)
    · obtain rfl : k = s.size := by omega
      rw [HA.out]
      have hki : ¬ (s.size : Int) < (s.size : Int) := by omega
      clear HC HA
      go_wp2_with fail
      refine (FO.out _).mono ?_
      rintro e w1 ⟨sv, ok, rfl, hF, hb⟩
      have R1 := WH.out.below hb
      obtain ⟨r0, r1, r2, r3, r4, r5, r6⟩ := R1.three
      have B1 := BH.out.trans (hb.mono BH.out.size)
      rcases hF.out with ⟨bs, h1, rfl, h3⟩ | ⟨h1, rfl⟩
      · obtain ⟨b4, b256⟩ := fb.out bs (fun v e => by cases e) (fun b m => by cases m) h1
        obtain ⟨g, cap, rfl, hcell, hg⟩ := row_of h3 (by omega)
        have OB := hide (rofb_c bs b256 4 b4 (Or.inl rfl) g cap w1 hcell hg (b16 := false) rfl)
        have e1 : shortF 3 0 s.data.toList = some (bnum 0 bs) := by
          have := fs.out
          rw [h1] at this
          exact this.symm
        have PI : Hid (∀ h l, IsNum h l (bnum 0 bs) → ParseIs s.data.toList false h l 0) := fun h l hn => Or.inl ⟨bnum 0 bs, PN.out _ e1, hn, rfl⟩
        have RH := hide R1
        have BH1 := hide B1
        clear hF h1 h3 hcell hg R1 r0 r1 r2 r3 r4 r5 r6 B1 b256 e1 fs fb PN PZ FO WH BH hb b4
        go_wp2_with fail
        refine OB.out.mono ?_
        rintro e w2 ⟨h, l, rfl, hn, hb⟩
        have R2 := RH.out.below hb
        obtain ⟨r0, r1, r2, r3, r4, r5, r6⟩ := R2.three
        have B2 := BH1.out.trans (hb.mono BH1.out.size)
        have G := hide (PI.out h l hn)
        clear OB hb RH BH1 PI hn R2
        go_wp2
        refine bodyPost_ret (v := .tuple #[av false h l, .int .i64 0]) (by simp [results, Tryd.results14, go_sem, World.cell?_setCell_same', World.cell?_setCell_other, *]) rfl ⟨false, h, l, 0, rfl, G, by repeat (first | with_reducible exact Below.refl _ _ | with_reducible refine Below.drew ?_ | with_reducible refine Below.alloc ?_ (by first | omega | (simp <;> omega)) _ | with_reducible refine Below.setCell ?_ (by first | omega | (simp <;> omega)) _ | with_reducible refine Below.trans ?_ (Below.mono B2 (by first | omega | (simp <;> omega))))⟩
      · have e1 : shortF 3 0 s.data.toList = none := by
          have := fs.out
          rw [h1] at this
          exact this.symm
        have G : Hid (ParseIs s.data.toList false 0 0 4) := Or.inr ⟨PZ.out e1, rfl, rfl, rfl, rfl⟩
        clear hF h1 e1 fs fb PN PZ FO WH BH hb R1
        go_wp2
        refine bodyPost_ret (v := .tuple #[av false 0 0, .int .i64 4]) (by simp [results, Tryd.results14, go_sem, World.cell?_setCell_same', World.cell?_setCell_other, *]) rfl ⟨false, 0, 0, 4, rfl, G, by repeat (first | with_reducible exact Below.refl _ _ | with_reducible refine Below.drew ?_ | with_reducible refine Below.alloc ?_ (by first | omega | (simp <;> omega)) _ | with_reducible refine Below.setCell ?_ (by first | omega | (simp <;> omega)) _ | with_reducible refine Below.trans ?_ (Below.mono B1 (by first | omega | (simp <;> omega))))⟩
end Go.Proofs.YtgbpnekinbdadaaDoor
