/-
  Texts RfQ, RfN of the proof.
-/
import Derived.Test.YtipjmmhlfmahbaaGreatDoorP32
import Derived.Test.YtipjmmhlfmahbaaGreatDoorP31
import Derived.Test.YtipjmmhlfmahbaaGreatDoorP30

namespace Go.Proofs.YtipjmmhlfmahbaaGreatDoor
open Go.ChangeShapes Go.WideShapes Go.ChangeAt Go.RowKit
set_option linter.unusedVariables false
set_option linter.unusedSimpArgs false

/-- Byte i of a text. -/
def bt (s : ByteArray) (i : Nat) : UInt8 := s.data.toList.getD i 0

theorem bt_get (s : ByteArray) (i : Nat) (h : i < s.size) : s[i] = bt s i := by
  unfold bt
  have h' : i < s.data.toList.length := by rw [Array.length_toList]; exact h
  rw [List.getD_eq_getElem?_getD, List.getElem?_eq_getElem h']
  rfl

theorem len8 (s : ByteArray) : s.data.toList.length = s.size := by rw [Array.length_toList]; rfl

theorem drop_bt (s : ByteArray) (k : Nat) (h : k < s.size) : s.data.toList.drop k = bt s k :: s.data.toList.drop (k + 1) := by
  rw [drop_cons8 s k h, bt_get s k h]

theorem take_bt (s : ByteArray) (k : Nat) (h : k < s.size) : s.data.toList.take (k + 1) = s.data.toList.take k ++ [bt s k] := by
  have h' : k < s.data.toList.length := by rw [len8]; exact h
  rw [List.take_add_one, List.getElem?_eq_getElem h']
  congr 1
  show [_] = [_]
  unfold bt
  rw [List.getD_eq_getElem?_getD, List.getElem?_eq_getElem h']
  rfl

/-- Is there a colon among the first k bytes? -/
def hasC (s : ByteArray) (k : Nat) : Bool := decide ((58 : UInt8) ∈ s.data.toList.take k)

theorem hasC_step (s : ByteArray) (k : Nat) (h : k < s.size) : hasC s (k + 1) = (hasC s k || bt s k == 58) := by
  unfold hasC
  rw [take_bt s k h, Bool.eq_iff_iff]
  have e : ((58 : UInt8) = bt s k) ↔ (bt s k == 58) = true := by
    rw [beq_iff_eq]
    exact ⟨fun h => h.symm, fun h => h.symm⟩
  simp only [List.mem_append, List.mem_singleton, decide_eq_true_eq, Bool.or_eq_true, e]

theorem hasC_all (s : ByteArray) : hasC s s.size = colonF s.data.toList := by
  unfold hasC colonF
  rw [List.take_of_length_le (by rw [len8]; exact Nat.le_refl _)]
  by_cases c : (58 : UInt8) ∈ s.data.toList
  · rw [decide_eq_true c, decide_eq_true (index_in _ c)]
  · rw [decide_eq_false c, index_out _ c]
    rfl

/-- What Parse leaves. -/
def RPRet (l : List UInt8) (w : World) (e : Ending) (W : World) : Prop := ∃ v h lo c, e = .returned (.tuple #[av v h lo, .int .i64 c]) ∧ Hid (ParseIs l v h lo c) ∧ Below w.heap.size w W

/-- What the main loop keeps. -/
structure PSq (w : World) (u : Value) (out : List Nat) (W : World) : Prop where
  own : W.ownsRow (w.heap.size + 1) 5 1 u out.length (bytC out)
  res : Blk W w.heap.size #[.bool false, .int .u64 0, .int .u64 0] 26
  bel : Below w.heap.size w W
  siz : w.heap.size + 1 ≤ W.heap.size

theorem PSq.below {w W W' : World} {u : Value} {out : List Nat} (S : PSq w u out W) (k : Below W.heap.size W W') : PSq w u out W' :=
  ⟨own_below S.own k, S.res.below k, S.bel.trans (k.mono S.bel.size), Nat.le_trans S.siz k.size⟩

theorem PSq.grown {w W W' : World} {u u' : Value} {out out' : List Nat} {o : Obj} (S : PSq w u out W) (h : W'.ownsRow (w.heap.size + 1) 5 1 u' out'.length (bytC out')) (hg : (W.alloc o).grownBy W' u.ownBlock) : PSq w u' out' W' := by
  have B : Below (w.heap.size + 1) W W' := below_grown (Below.refl _ _) S.siz S.own hg
  exact ⟨h, (B.block w.heap.size (by omega)).trans S.res, S.bel.trans (B.mono (by omega)), Nat.le_trans S.siz B.size⟩

theorem PSq.grown0 {w W W' : World} {u u' : Value} {out out' : List Nat} (S : PSq w u out W) (h : W'.ownsRow (w.heap.size + 1) 5 1 u' out'.length (bytC out')) (hg : W.grownBy W' u.ownBlock) : PSq w u' out' W' := by
  have nz : u.ownBlock ≠ some w.heap.size := by
    intro e
    have := (S.own.lt _ e).1
    omega
  have bl : ∀ k, k < w.heap.size + 1 → W'.heap[k]? = W.heap[k]? := fun k hk => hg.block k (by have := S.siz; omega) (fun e => by
    have := (S.own.lt k e.symm).1
    omega)
  have B : Below (w.heap.size + 1) W W' := ⟨hg.os, hg.tape, hg.output, hg.size, bl⟩
  exact ⟨h, (bl _ (by omega)).trans S.res, S.bel.trans (B.mono (by omega)), Nat.le_trans S.siz B.size⟩

theorem slice_of {W : World} {base n : Nat} {u : Value} {xs : List Value} (h : W.ownsRow base 5 1 u n xs) : ∃ q cap, u = .slice q n cap := by
  rcases h.2 with ⟨h1, h2⟩ | ⟨g', cp, cur, h1, _⟩
  · exact ⟨none, 0, by rw [h1, h2]⟩
  · exact ⟨some ⟨g', 0, none⟩, cp, h1⟩

/-- A row of bytes that is there, as OfBytes takes it. -/
theorem row_of {W : World} {base n : Nat} {u : Value} {bs : List Nat} (h : W.ownsRow base 5 1 u n (bytC bs)) (h0 : 0 < n) : ∃ g cap, u = .slice (some ⟨g, 0, none⟩) n cap ∧ (∀ j x, bs[j]? = some x → W.cell? ⟨g, j, none⟩ = some (.int .u8 (x : Nat))) ∧ g < W.heap.size := by
  rcases h.2 with ⟨_, h2⟩ | ⟨g, cap, cur, h1, _, h3, _⟩
  · omega
  · refine ⟨g, cap, h1, fun j x hx => ?_, (Array.getElem?_eq_some_iff.1 h3).1⟩
    have := h.cells (g := g) (by rw [h1]; rfl) j (.int .u8 (x : Nat)) (by rw [List.getElem?_map, hx]; rfl)
    have ad : (⟨g, 0, none⟩ : Addr).add j = ⟨g, j, none⟩ := by unfold Addr.add; split <;> simp_all
    rwa [ad] at this

set_option maxRecDepth 100000 in
set_option maxHeartbeats 3200000 in
/-- Where no colon is. -/
theorem rparse_short (s : ByteArray) (hs : s.size ≤ 1000) (hc : colonF s.data.toList = false) (w : World) :
    Calls Tryz.prog 18 #[.string s] w fun e w' => RPRet s.data.toList w e w' := by
  have HC := hide (hasC_step s)
  have HA : Hid (hasC s s.size = false) := (hasC_all s).trans hc
  have W0 : Blk (w.alloc (.cells #[.bool false, .int .u64 0, .int .u64 0] 26)) w.heap.size #[.bool false, .int .u64 0, .int .u64 0] 26 := Blk.new _ _ _
  have B0 : Below w.heap.size w (w.alloc (.cells #[.bool false, .int .u64 0, .int .u64 0] 26)) := by repeat (first | with_reducible exact Below.refl _ _ | with_reducible refine Below.drew ?_ | with_reducible refine Below.alloc ?_ (by first | omega | (simp <;> omega)) _ | with_reducible refine Below.setCell ?_ (by first | omega | (simp <;> omega)) _)
  have FO := hide (fun w' => rfour_c s hs w')
  have fs := hide (four_short 3 [] s.data.toList rfl)
  have fb := hide (four_bytes s.data.toList none [])
  have PN : Hid (∀ n, shortF 3 0 s.data.toList = some n → parseF s.data.toList = some (false, n)) := fun n e => by unfold parseF; rw [hc, if_neg (by simp), e]; rfl
  have PZ : Hid (shortF 3 0 s.data.toList = none → parseF s.data.toList = none) := fun e => by unfold parseF; rw [hc, if_neg (by simp), e]; rfl
  have WH := hide W0
  have BH := hide B0
  obtain ⟨w0, hw0⟩ : ∃ w0, w0 = w.alloc (.cells #[.bool false, .int .u64 0, .int .u64 0] 26) := ⟨_, rfl⟩
  rw [← hw0] at WH BH
  clear hc W0 B0
  go_enter Tryz.func18, Tryz.ntmps18
  go_wp2_with fail
  rw [← hw0]
  clear hw0
  go_loop [4, 5] (fun cv iv => ∃ k : Nat, k ≤ s.size ∧ iv = .int .i64 k ∧ cv = .bool (hasC s k)) (fun _ iv => s.size - (intOf iv).toNat)
  case atStart => exact ⟨0, Nat.zero_le _, rfl, rfl⟩
  case round =>
    obtain ⟨k, hk, rfl, rfl⟩ := hrel
    by_cases hlt : k < s.size
    · have hki : (k : Int) < (s.size : Int) := by omega
      have st := HC.out k hlt
      have bg : s[k] = bt s k := bt_get s k hlt
      obtain ⟨c, ec⟩ : ∃ c : UInt8, bt s k = c := ⟨_, rfl⟩
      rw [ec] at bg st
      have bg' : (s[k].toNat : Int) = (c.toNat : Int) := by rw [bg]
      have c58 : (c == 58) = decide (c.toNat = 58) := by
        rw [Bool.eq_iff_iff, beq_iff_eq, decide_eq_true_iff]
        exact ⟨fun e => by rw [e]; rfl, fun e => UInt8.toNat_inj.1 e⟩
      obtain ⟨C, hC⟩ : ∃ C : Nat, c.toNat = C := ⟨_, rfl⟩
      rw [hC] at bg' c58
      obtain ⟨b0, hb0⟩ : ∃ b0, hasC s k = b0 := ⟨_, rfl⟩
      rw [hb0, c58] at st
      rw [hb0]
      have ST := hide st
      clear st c58 hC ec hb0 bg HC HA FO fs fb PN PZ
      by_cases d : C = 58
      · have d' : ((C : Int) == 58) = true := by rw [beq_iff_eq]; omega
        have X : Hid (hasC s (k + 1) = true) := by show _ = _; rw [ST.out, d]; simp
        cases b0
        all_goals
          go_wp2
          go_round
          case rel => exact ⟨k + 1, by omega, by go_num, by rw [X.out]⟩
          case measure => (simp [intOf]; omega)
      · have d' : ((C : Int) == 58) = false := by rw [beq_eq_false_iff_ne]; omega
        have X : Hid (hasC s (k + 1) = b0) := by show _ = _; rw [ST.out, decide_eq_false d, Bool.or_false]
        cases b0
        all_goals
          go_wp2
          go_round
          case rel => exact ⟨k + 1, by omega, by go_num, by rw [X.out]⟩
          case measure => (simp [intOf]; omega)
    · obtain rfl : k = s.size := by omega
      rw [HA.out]
      have hki : ¬ (s.size : Int) < (s.size : Int) := by omega
      clear HC HA
      go_wp2_with fail
      refine (FO.out _).mono ?_
      rintro e w1 ⟨sv, ok, rfl, hF, hb⟩
      have R1 := WH.out.below hb
      obtain ⟨r0, r1, r2, r3, r4, r5, r6⟩ := R1.three
      have B1 := BH.out.trans (hb.mono BH.out.size)
      rcases hF.out with ⟨bs, h1, rfl, h3⟩ | ⟨h1, rfl⟩
      · obtain ⟨b4, b256⟩ := fb.out bs (fun v e => by cases e) (fun b m => by cases m) h1
        obtain ⟨g, cap, rfl, hcell, hg⟩ := row_of h3 (by omega)
        have OB := hide (rofb_c bs b256 4 b4 (Or.inl rfl) g cap w1 hcell hg (b16 := false) rfl)
        have e1 : shortF 3 0 s.data.toList = some (bnum 0 bs) := by
          have := fs.out
          rw [h1] at this
          exact this.symm
        have PI : Hid (∀ h l, IsNum h l (bnum 0 bs) → ParseIs s.data.toList false h l 0) := fun h l hn => Or.inl ⟨bnum 0 bs, PN.out _ e1, hn, rfl⟩
        have RH := hide R1
        have BH1 := hide B1
        clear hF h1 h3 hcell hg R1 r0 r1 r2 r3 r4 r5 r6 B1 b256 e1 fs fb PN PZ FO WH BH hb b4
        go_wp2_with fail
        refine OB.out.mono ?_
        rintro e w2 ⟨h, l, rfl, hn, hb⟩
        have R2 := RH.out.below hb
        obtain ⟨r0, r1, r2, r3, r4, r5, r6⟩ := R2.three
        have B2 := BH1.out.trans (hb.mono BH1.out.size)
        have G := hide (PI.out h l hn)
        clear OB hb RH BH1 PI hn R2
        go_wp2
        refine bodyPost_ret (v := .tuple #[av false h l, .int .i64 0]) (by simp [results, Tryz.results18, go_sem, World.cell?_setCell_same', World.cell?_setCell_other, *]) rfl ⟨false, h, l, 0, rfl, G, by repeat (first | with_reducible exact Below.refl _ _ | with_reducible refine Below.drew ?_ | with_reducible refine Below.alloc ?_ (by first | omega | (simp <;> omega)) _ | with_reducible refine Below.setCell ?_ (by first | omega | (simp <;> omega)) _ | with_reducible refine Below.trans ?_ (Below.mono B2 (by first | omega | (simp <;> omega))))⟩
      · have e1 : shortF 3 0 s.data.toList = none := by
          have := fs.out
          rw [h1] at this
          exact this.symm
        have G : Hid (ParseIs s.data.toList false 0 0 4) := Or.inr ⟨PZ.out e1, rfl, rfl, rfl, rfl⟩
        clear hF h1 e1 fs fb PN PZ FO WH BH hb R1
        go_wp2
        refine bodyPost_ret (v := .tuple #[av false 0 0, .int .i64 4]) (by simp [results, Tryz.results18, go_sem, World.cell?_setCell_same', World.cell?_setCell_other, *]) rfl ⟨false, 0, 0, 4, rfl, G, by repeat (first | with_reducible exact Below.refl _ _ | with_reducible refine Below.drew ?_ | with_reducible refine Below.alloc ?_ (by first | omega | (simp <;> omega)) _ | with_reducible refine Below.setCell ?_ (by first | omega | (simp <;> omega)) _ | with_reducible refine Below.trans ?_ (Below.mono B1 (by first | omega | (simp <;> omega))))⟩
end Go.Proofs.YtipjmmhlfmahbaaGreatDoor

namespace Go.Proofs.YtipjmmhlfmahbaaGreatDoor
open Go.ChangeShapes Go.WideShapes Go.ChangeAt Go.RowKit
set_option linter.unusedVariables false
set_option linter.unusedSimpArgs false

/-- What the bytes read so far come to. -/
def finF : Option (List Nat × Option Nat) → Option Nat
  | none => none
  | some (o, g) => rfin o g

def seg (s : ByteArray) (a e : Nat) : List UInt8 := (s.data.toList.drop a).take (e - a)

theorem seg_nil (s : ByteArray) (a : Nat) : seg s a a = [] := by unfold seg; simp

theorem seg_step (s : ByteArray) (a e : Nat) (h : a ≤ e) (he : e < s.size) : seg s a (e + 1) = seg s a e ++ [bt s e] := by
  unfold seg
  have h' : e < s.data.toList.length := by rw [len8]; exact he
  have d : e - a < (s.data.toList.drop a).length := by rw [List.length_drop]; omega
  rw [show e + 1 - a = (e - a) + 1 by omega, List.take_add_one, List.getElem?_eq_getElem d]
  congr 1
  show [_] = [_]
  unfold bt
  rw [List.getElem_drop, List.getD_eq_getElem?_getD, List.getElem?_eq_getElem h']
  simp only [show a + (e - a) = e by omega, Option.getD_some]

theorem seg_len (s : ByteArray) (a e : Nat) (h : a ≤ e) (he : e ≤ s.size) : (seg s a e).length = e - a := by
  unfold seg
  rw [List.length_take, List.length_drop, len8]
  omega

theorem seg_cons (s : ByteArray) (k e : Nat) (h : k < e) (he : e ≤ s.size) : seg s k e = bt s k :: seg s (k + 1) e := by
  unfold seg
  rw [drop_bt s k (by omega), show e - k = (e - (k + 1)) + 1 by omega, List.take_succ_cons]

theorem seg_all (s : ByteArray) (a : Nat) : seg s a s.size = s.data.toList.drop a := by
  unfold seg
  rw [List.take_of_length_le]
  rw [List.length_drop, len8]
  exact Nat.le_refl _

theorem seg_cut (s : ByteArray) (a e : Nat) (h : a ≤ e) (he : e < s.size) : s.data.toList.drop a = seg s a e ++ bt s e :: s.data.toList.drop (e + 1) := by
  unfold seg
  rw [← drop_bt s e he]
  have : s.data.toList.drop e = (s.data.toList.drop a).drop (e - a) := by rw [List.drop_drop]; congr 1; omega
  rw [this, List.take_append_drop]

theorem drop_all (s : ByteArray) : s.data.toList.drop s.size = [] := List.drop_eq_nil_of_le (by rw [len8]; exact Nat.le_refl _)

/-- Two colons in front. -/
theorem take2 (s : ByteArray) : (s.data.toList.take 2 = [58, 58]) ↔ (2 ≤ s.size ∧ bt s 0 = 58 ∧ bt s 1 = 58) := by
  constructor
  · intro h
    have l2 : 2 ≤ s.size := by
      have := congrArg List.length h
      rw [List.length_take, len8] at this
      simp at this
      omega
    refine ⟨l2, ?_⟩
    have e0 := drop_bt s 0 (by omega)
    have e1 := drop_bt s 1 (by omega)
    rw [List.drop_zero] at e0
    rw [e0, e1] at h
    simp at h
    exact h
  · rintro ⟨l2, h0, h1⟩
    have e0 := drop_bt s 0 (by omega)
    have e1 := drop_bt s 1 (by omega)
    rw [List.drop_zero] at e0
    rw [e0, e1, h0, h1]
    rfl

/-- Where the groups begin. -/
def Start (s : ByteArray) (a : Nat) (gap : Option Nat) : Prop := a ≤ s.size ∧ (gap = none ∨ gap = some 0) ∧ refL s.data.toList = finF (rloop (s.size + 1) (s.data.toList.drop a) [] gap)

def StartB (s : ByteArray) : Bool → Prop
  | true => Start s 2 (some 0)
  | false => Start s 0 none

theorem start_two {s : ByteArray} (h : 2 ≤ s.size ∧ bt s 0 = 58 ∧ bt s 1 = 58) : StartB s true := by
  refine ⟨h.1, Or.inr rfl, ?_⟩
  unfold refL
  rw [if_pos ((take2 s).2 h), len8]
  cases rloop (s.size + 1) (s.data.toList.drop 2) [] (some 0) with
  | none => rfl
  | some p => rfl

theorem start_one {s : ByteArray} (h : ¬ (2 ≤ s.size ∧ bt s 0 = 58 ∧ bt s 1 = 58)) : StartB s false := by
  refine ⟨Nat.zero_le _, Or.inl rfl, ?_⟩
  unfold refL
  rw [if_neg (fun e => h ((take2 s).1 e)), len8, List.drop_zero]
  cases rloop (s.size + 1) s.data.toList [] none with
  | none => rfl
  | some p => rfl

theorem c58_int (c : UInt8) : ((c.toNat : Int) == 58) = decide (c = 58) := by
  rw [Bool.eq_iff_iff, beq_iff_eq, decide_eq_true_iff]
  exact ⟨fun e => UInt8.toNat_inj.1 (by have : (58 : UInt8).toNat = 58 := rfl; omega), fun e => by rw [e]; rfl⟩

theorem c46_int (c : UInt8) : ((c.toNat : Int) == 46) = decide (c = 46) := by
  rw [Bool.eq_iff_iff, beq_iff_eq, decide_eq_true_iff]
  exact ⟨fun e => UInt8.toNat_inj.1 (by have : (46 : UInt8).toNat = 46 := rfl; omega), fun e => by rw [e]; rfl⟩

theorem hexL_lt : ∀ (l : List UInt8) (a n : Nat), hexL a l = some n → n < (a + 1) * 16 ^ l.length
  | [], a, n, h => by
    cases h
    simp
  | c :: r, a, n, h => by
    unfold hexL at h
    split at h
    · rename_i d hd
      have d16 := hexD_lt hd
      have := hexL_lt r _ n h
      have m : (a * 16 + d + 1) * 16 ^ r.length ≤ (a + 1) * 16 * 16 ^ r.length := Nat.mul_le_mul_right _ (by omega)
      rw [List.length_cons, Nat.pow_succ, Nat.mul_comm (16 ^ r.length) 16, ← Nat.mul_assoc]
      omega
    · cases h

/-- The main loop's state. -/
structure PIn (s : ByteArray) (out : List Nat) (gap : Option Nat) (a f : Nat) : Prop where
  le : a ≤ s.size
  ob : ∀ b ∈ out, b < 256
  ol : out.length ≤ 16
  gb : ∀ g, gap = some g → g ≤ out.length
  lf : s.size - a < f
  rl : refL s.data.toList = finF (rloop f (s.data.toList.drop a) out gap)

/-- Behind the main loop. -/
structure PEx (s : ByteArray) (out : List Nat) (gap : Option Nat) : Prop where
  ob : ∀ b ∈ out, b < 256
  ol : out.length ≤ 20
  gb : ∀ g, gap = some g → g ≤ out.length
  rl : refL s.data.toList = rfin out gap

theorem StartB.pin {s : ByteArray} {t : Bool} (h : StartB s t) : PIn s [] (cond t (some 0) none) (cond t 2 0) (s.size + 1) := by
  cases t with
  | true => exact ⟨h.1, by simp, by simp, (by intro g e; cases e; simp), by show s.size - 2 < _; omega, h.2.2⟩
  | false => exact ⟨h.1, by simp, by simp, (by intro g e; cases e), by show s.size - 0 < _; omega, h.2.2⟩

theorem PIn.done {s : ByteArray} {out : List Nat} {gap : Option Nat} {f : Nat} (h : PIn s out gap s.size f) : PEx s out gap := by
  refine ⟨h.ob, by have := h.ol; omega, h.gb, ?_⟩
  have := h.lf
  obtain ⟨f', rfl⟩ : ∃ f', f = f' + 1 := ⟨f - 1, by omega⟩
  rw [h.rl, drop_all]
  rfl

/-- A piece: from a to e. -/
structure Piece (s : ByteArray) (a e : Nat) : Prop where
  ae : a ≤ e
  es : e ≤ s.size
  no : (58 : UInt8) ∉ seg s a e
  en : e = s.size ∨ bt s e = 58

theorem Piece.cut {s : ByteArray} {a e : Nat} (h : Piece s a e) : (e = s.size ∧ cutG [58] (s.data.toList.drop a) = (seg s a e, [], false)) ∨ (e < s.size ∧ bt s e = 58 ∧ cutG [58] (s.data.toList.drop a) = (seg s a e, s.data.toList.drop (e + 1), true)) := by
  by_cases q : e = s.size
  · subst q
    refine Or.inl ⟨rfl, ?_⟩
    have := h.no
    rw [seg_all] at this ⊢
    exact cut1_no 58 _ this
  · have lt : e < s.size := by have := h.es; omega
    have b := h.en.resolve_left q
    refine Or.inr ⟨lt, b, ?_⟩
    have c := seg_cut s a e h.ae lt
    rw [b] at c
    rw [c, cut1_at 58 _ _ h.no]

/-- Behind a group. -/
def tailF (f : Nat) (Y : List UInt8) (o : List Nat) (k : Nat) (gap : Option Nat) : Option (List Nat × Option Nat) := match Y with
  | [] => none
  | c :: Z => if c = 58 then (match gap with
      | some _ => none
      | none => rloop f Z o (some k))
    else rloop f (c :: Z) o gap

theorem rloop_at (f : Nat) (l : List UInt8) (out : List Nat) (gap : Option Nat) (h0 : l ≠ []) {X Y : List UInt8} {fnd : Bool} (hc : cutG [58] l = (X, Y, fnd)) : rloop (f + 1) l out gap = if (46 : UInt8) ∈ X then (fourS l none []).map (fun b => (out ++ b, gap))
    else match hexG X with
      | none => none
      | some n => if 14 < out.length then none
        else if fnd = false then some (out ++ [n / 256, n % 256], gap)
        else tailF f Y (out ++ [n / 256, n % 256]) (out.length + 2) gap := by
  have e : rloop (f + 1) l out gap = if l = [] then some (out, gap) else
    if (46 : UInt8) ∈ (cutG [58] l).1 then (fourS l none []).map (fun b => (out ++ b, gap))
    else match hexG (cutG [58] l).1 with
      | none => none
      | some n => if 14 < out.length then none
        else if (cutG [58] l).2.2 = false then some (out ++ [n / 256, n % 256], gap)
        else tailF f (cutG [58] l).2.1 (out ++ [n / 256, n % 256]) (out.length + 2) gap := rfl
  rw [e, if_neg h0, hc]

theorem PIn.step {s : ByteArray} {out : List Nat} {gap : Option Nat} {a f e : Nat} (h : PIn s out gap a f) (p : Piece s a e) (ha : a < s.size) : ∃ (f' : Nat) (Y : List UInt8) (fnd : Bool), f = f' + 1 ∧ s.size - a ≤ f' ∧ ((e = s.size ∧ fnd = false) ∨ (e < s.size ∧ fnd = true ∧ Y = s.data.toList.drop (e + 1))) ∧ refL s.data.toList = finF (if (46 : UInt8) ∈ seg s a e then (fourS (s.data.toList.drop a) none []).map (fun b => (out ++ b, gap))
    else match hexG (seg s a e) with
      | none => none
      | some n => if 14 < out.length then none
        else if fnd = false then some (out ++ [n / 256, n % 256], gap)
        else tailF f' Y (out ++ [n / 256, n % 256]) (out.length + 2) gap) := by
  have := h.lf
  obtain ⟨f', rfl⟩ : ∃ f', f = f' + 1 := ⟨f - 1, by omega⟩
  have ne : s.data.toList.drop a ≠ [] := by rw [drop_bt s a ha]; simp
  rcases p.cut with ⟨e1, e2⟩ | ⟨e1, _, e2⟩
  · exact ⟨f', [], false, rfl, by omega, Or.inl ⟨e1, rfl⟩, by rw [h.rl, rloop_at f' _ out gap ne e2]⟩
  · exact ⟨f', _, true, rfl, by omega, Or.inr ⟨e1, rfl, rfl⟩, by rw [h.rl, rloop_at f' _ out gap ne e2]⟩

theorem PIn.dot_no {s : ByteArray} {out : List Nat} {gap : Option Nat} {a f e : Nat} (h : PIn s out gap a f) (p : Piece s a e) (ha : a < s.size) (d : (46 : UInt8) ∈ seg s a e) (q : fourS (s.data.toList.drop a) none [] = none) : refL s.data.toList = none := by
  obtain ⟨f', Y, fnd, _, _, hY, e1⟩ := h.step p ha
  rw [e1, if_pos d, q]
  rfl

theorem PIn.dot_yes {s : ByteArray} {out : List Nat} {gap : Option Nat} {a f e : Nat} (h : PIn s out gap a f) (p : Piece s a e) (ha : a < s.size) (d : (46 : UInt8) ∈ seg s a e) {b : List Nat} (q : fourS (s.data.toList.drop a) none [] = some b) : PEx s (out ++ b) gap := by
  obtain ⟨f', Y, fnd, _, _, hY, e1⟩ := h.step p ha
  obtain ⟨b4, b256⟩ := four_bytes _ none [] b (fun v e => by cases e) (fun b m => by cases m) q
  refine ⟨fun x hx => ?_, by rw [List.length_append, b4]; have := h.ol; omega, fun g hg => ?_, ?_⟩
  · rcases List.mem_append.1 hx with m | m
    · exact h.ob x m
    · exact b256 x m
  · rw [List.length_append]
    have := h.gb g hg
    omega
  · rw [e1, if_pos d, q]
    rfl

theorem PIn.size_no {s : ByteArray} {out : List Nat} {gap : Option Nat} {a f e : Nat} (h : PIn s out gap a f) (p : Piece s a e) (ha : a < s.size) (d : (46 : UInt8) ∉ seg s a e) (q : e = a ∨ 4 < e - a) : refL s.data.toList = none := by
  obtain ⟨f', Y, fnd, _, _, hY, e1⟩ := h.step p ha
  have : hexG (seg s a e) = none := by
    unfold hexG
    rw [if_pos]
    rw [seg_len s a e p.ae p.es]
    omega
  rw [e1, if_neg d, this]
  rfl

theorem PIn.hex_is {s : ByteArray} {out : List Nat} {gap : Option Nat} {a f e : Nat} (h : PIn s out gap a f) (p : Piece s a e) (ha : a < s.size) (q : a < e) (q4 : e - a ≤ 4) : hexG (seg s a e) = hexL 0 (seg s a e) := by
  unfold hexG
  rw [if_neg]
  rw [seg_len s a e p.ae p.es]
  omega

theorem PIn.hex_no {s : ByteArray} {out : List Nat} {gap : Option Nat} {a f e : Nat} (h : PIn s out gap a f) (p : Piece s a e) (ha : a < s.size) (d : (46 : UInt8) ∉ seg s a e) (q : a < e) (q4 : e - a ≤ 4) (k : hexL 0 (seg s a e) = none) : refL s.data.toList = none := by
  obtain ⟨f', Y, fnd, _, _, hY, e1⟩ := h.step p ha
  rw [e1, if_neg d, h.hex_is p ha q q4, k]
  rfl

theorem PIn.hex_lt {s : ByteArray} {out : List Nat} {gap : Option Nat} {a f e : Nat} (h : PIn s out gap a f) (p : Piece s a e) (ha : a < s.size) (q : a < e) (q4 : e - a ≤ 4) {n : Nat} (k : hexL 0 (seg s a e) = some n) : n < 65536 := by
  have := hexL_lt _ _ _ k
  rw [seg_len s a e p.ae p.es] at this
  have m : 16 ^ (e - a) ≤ 16 ^ 4 := Nat.pow_le_pow_right (by omega) q4
  omega

theorem PIn.long_no {s : ByteArray} {out : List Nat} {gap : Option Nat} {a f e : Nat} (h : PIn s out gap a f) (p : Piece s a e) (ha : a < s.size) (d : (46 : UInt8) ∉ seg s a e) (q : a < e) (q4 : e - a ≤ 4) {n : Nat} (k : hexL 0 (seg s a e) = some n) (l : 14 < out.length) : refL s.data.toList = none := by
  obtain ⟨f', Y, fnd, _, _, hY, e1⟩ := h.step p ha
  rw [e1, if_neg d, h.hex_is p ha q q4, k]
  simp only []
  rw [if_pos l]
  rfl

theorem PIn.more_ob {s : ByteArray} {out : List Nat} {gap : Option Nat} {a f e : Nat} (h : PIn s out gap a f) (p : Piece s a e) (ha : a < s.size) (n : Nat) (hn : n < 65536) : ∀ b ∈ out ++ [n / 256, n % 256], b < 256 := by
  intro x hx
  rcases List.mem_append.1 hx with m | m
  · exact h.ob x m
  · simp at m
    omega

theorem PIn.ends {s : ByteArray} {out : List Nat} {gap : Option Nat} {a f e : Nat} (h : PIn s out gap a f) (p : Piece s a e) (ha : a < s.size) (d : (46 : UInt8) ∉ seg s a e) (q : a < e) (q4 : e - a ≤ 4) {n : Nat} (k : hexL 0 (seg s a e) = some n) (l : out.length ≤ 14) (z : e = s.size) : PEx s (out ++ [n / 256, n % 256]) gap := by
  obtain ⟨f', Y, fnd, _, _, hY, e1⟩ := h.step p ha
  refine ⟨h.more_ob p ha n (h.hex_lt p ha q q4 k), by rw [List.length_append]; simp; omega, fun g hg => by rw [List.length_append]; have := h.gb g hg; omega, ?_⟩
  rw [e1, if_neg d, h.hex_is p ha q q4, k]
  simp only []
  rw [if_neg (by omega), if_pos (by rcases hY with ⟨_, q⟩ | ⟨q, _⟩; exact q; omega)]
  rfl

theorem PIn.last_no {s : ByteArray} {out : List Nat} {gap : Option Nat} {a f e : Nat} (h : PIn s out gap a f) (p : Piece s a e) (ha : a < s.size) (d : (46 : UInt8) ∉ seg s a e) (q : a < e) (q4 : e - a ≤ 4) {n : Nat} (k : hexL 0 (seg s a e) = some n) (z : e + 1 = s.size) : refL s.data.toList = none := by
  obtain ⟨f', Y, fnd, _, _, hY, e1⟩ := h.step p ha
  rw [e1, if_neg d, h.hex_is p ha q q4, k]
  simp only []
  obtain ⟨rfl, rfl⟩ : fnd = true ∧ Y = s.data.toList.drop (e + 1) := by rcases hY with ⟨q, _⟩ | ⟨_, q⟩; omega; exact q
  rw [z, drop_all]
  split <;> rfl

theorem PIn.gap_no {s : ByteArray} {out : List Nat} {gap : Option Nat} {a f e : Nat} (h : PIn s out gap a f) (p : Piece s a e) (ha : a < s.size) (d : (46 : UInt8) ∉ seg s a e) (q : a < e) (q4 : e - a ≤ 4) {n : Nat} (k : hexL 0 (seg s a e) = some n) (z : e + 1 < s.size) (c : bt s (e + 1) = 58) {g : Nat} (hg : gap = some g) : refL s.data.toList = none := by
  obtain ⟨f', Y, fnd, _, _, hY, e1⟩ := h.step p ha
  rw [e1, if_neg d, h.hex_is p ha q q4, k]
  simp only []
  obtain ⟨rfl, rfl⟩ : fnd = true ∧ Y = s.data.toList.drop (e + 1) := by rcases hY with ⟨q, _⟩ | ⟨_, q⟩; omega; exact q
  subst hg
  rw [drop_bt s (e + 1) z, c]
  split
  · rfl
  · rfl

theorem PIn.gap_yes {s : ByteArray} {out : List Nat} {gap : Option Nat} {a f e : Nat} (h : PIn s out gap a f) (p : Piece s a e) (ha : a < s.size) (d : (46 : UInt8) ∉ seg s a e) (q : a < e) (q4 : e - a ≤ 4) {n : Nat} (k : hexL 0 (seg s a e) = some n) (l : out.length ≤ 14) (z : e + 1 < s.size) (c : bt s (e + 1) = 58) (hg : gap = none) : ∃ f', PIn s (out ++ [n / 256, n % 256]) (some (out.length + 2)) (e + 2) f' := by
  obtain ⟨f', Y, fnd, ef, hf, hY, e1⟩ := h.step p ha
  refine ⟨f', by omega, h.more_ob p ha n (h.hex_lt p ha q q4 k), by rw [List.length_append]; simp; omega, fun g e => by cases e; rw [List.length_append]; simp, by omega, ?_⟩
  rw [e1, if_neg d, h.hex_is p ha q q4, k]
  simp only []
  obtain ⟨rfl, rfl⟩ : fnd = true ∧ Y = s.data.toList.drop (e + 1) := by rcases hY with ⟨q, _⟩ | ⟨_, q⟩; omega; exact q
  rw [if_neg (by omega : ¬ 14 < out.length), if_neg (by simp), drop_bt s (e + 1) z, c]
  subst hg
  rfl

theorem PIn.goes {s : ByteArray} {out : List Nat} {gap : Option Nat} {a f e : Nat} (h : PIn s out gap a f) (p : Piece s a e) (ha : a < s.size) (d : (46 : UInt8) ∉ seg s a e) (q : a < e) (q4 : e - a ≤ 4) {n : Nat} (k : hexL 0 (seg s a e) = some n) (l : out.length ≤ 14) (z : e + 1 < s.size) (c : bt s (e + 1) ≠ 58) : ∃ f', PIn s (out ++ [n / 256, n % 256]) gap (e + 1) f' := by
  obtain ⟨f', Y, fnd, ef, hf, hY, e1⟩ := h.step p ha
  refine ⟨f', by omega, h.more_ob p ha n (h.hex_lt p ha q q4 k), by rw [List.length_append]; simp; omega, fun g e => by have := h.gb g e; rw [List.length_append]; omega, by omega, ?_⟩
  rw [e1, if_neg d, h.hex_is p ha q q4, k]
  simp only []
  obtain ⟨rfl, rfl⟩ : fnd = true ∧ Y = s.data.toList.drop (e + 1) := by rcases hY with ⟨q, _⟩ | ⟨_, q⟩; omega; exact q
  rw [if_neg (by omega : ¬ 14 < out.length), if_neg (by simp), drop_bt s (e + 1) z]
  unfold tailF
  simp only []
  rw [if_neg c]

theorem noI_eq (gap : Option Nat) (i : Nat) : ((i : Int) == noI gap) = decide (gap = some i) := by
  cases gap with
  | none => rw [Bool.eq_iff_iff, beq_iff_eq, decide_eq_true_iff]; exact ⟨fun e => by have : (i : Int) = -1 := e; omega, fun e => by cases e⟩
  | some g => rw [Bool.eq_iff_iff, beq_iff_eq, decide_eq_true_iff]; exact ⟨fun e => by have : (i : Int) = (g : Int) := e; congr 1; omega, fun e => by cases e; rfl⟩

theorem noI_eq' (gap : Option Nat) (i : Nat) : (noI gap == (i : Int)) = decide (gap = some i) := by rw [Bool.beq_comm, noI_eq]

/-- Is what was read no address? -/
def badF (out : List Nat) : Option Nat → Bool
  | none => decide (out.length ≠ 16)
  | some _ => decide (14 < out.length)

theorem PEx.bad {s : ByteArray} {out : List Nat} {gap : Option Nat} (h : PEx s out gap) (b : badF out gap = true) : refL s.data.toList = none := by
  rw [h.rl]
  cases gap with
  | none => rw [rfin_none, if_neg (of_decide_eq_true b)]
  | some g => rw [rfin_some, if_pos (of_decide_eq_true b)]

/-- All bytes, those up to i put in. -/
def allF (out : List Nat) : Option Nat → Nat → List Nat
  | none, i => out.take i
  | some g, i => if i ≤ g then out.take i else out.take g ++ List.replicate (16 - out.length) 0 ++ (out.take i).drop g

/-- Ahead of byte i. -/
def allM (out : List Nat) (gap : Option Nat) (i : Nat) : List Nat := if gap = some i then allF out gap i ++ List.replicate (16 - out.length) 0 else allF out gap i

theorem all_zero (out : List Nat) (gap : Option Nat) : allF out gap 0 = [] := by
  cases gap with
  | none => simp [allF]
  | some g => simp [allF]

theorem take_more {out : List Nat} {i x : Nat} (hx : out[i]? = some x) : out.take (i + 1) = out.take i ++ [x] := by
  rw [List.take_add_one, hx]
  rfl

theorem all_next {out : List Nat} {gap : Option Nat} {i x : Nat} (hx : out[i]? = some x) : allF out gap (i + 1) = allM out gap i ++ [x] := by
  have hi : i < out.length := (List.getElem?_eq_some_iff.1 hx).1
  cases gap with
  | none =>
    unfold allM
    rw [if_neg (by simp)]
    exact take_more hx
  | some g =>
    have tl : (out.take i).length = i := by rw [List.length_take]; omega
    unfold allM
    by_cases c : g = i
    · subst c
      rw [if_pos rfl]
      show (if g + 1 ≤ g then _ else _) = (if g ≤ g then _ else _) ++ _ ++ _
      rw [if_neg (by omega), if_pos (Nat.le_refl _), take_more hx, List.drop_left' tl]
    · rw [if_neg (by simp; exact c)]
      show (if i + 1 ≤ g then _ else _) = (if i ≤ g then _ else _) ++ _
      by_cases d : i + 1 ≤ g
      · rw [if_pos d, if_pos (by omega), take_more hx]
      · rw [if_neg d, if_neg (by omega), take_more hx, List.drop_append_of_le_length (by omega)]
        simp only [List.append_assoc]

theorem PEx.fin {s : ByteArray} {out : List Nat} {gap : Option Nat} (h : PEx s out gap) (b : badF out gap = false) : refL s.data.toList = some (bnum 0 (allM out gap out.length)) ∧ (allM out gap out.length).length = 16 ∧ ∀ x ∈ allM out gap out.length, x < 256 := by
  have tk : out.take out.length = out := List.take_of_length_le (Nat.le_refl _)
  cases gap with
  | none =>
    have l : out.length = 16 := by
      have := of_decide_eq_false b
      omega
    have e : allM out none out.length = out := by
      unfold allM
      rw [if_neg (by simp)]
      exact tk
    rw [e, h.rl, rfin_none, if_pos l]
    exact ⟨rfl, l, h.ob⟩
  | some g =>
    have l : ¬ 14 < out.length := of_decide_eq_false b
    have gl := h.gb g rfl
    have e : allM out (some g) out.length = out.take g ++ List.replicate (16 - out.length) 0 ++ out.drop g := by
      unfold allM
      by_cases c : g = out.length
      · subst c
        rw [if_pos rfl]
        show (if out.length ≤ out.length then _ else _) ++ _ = _
        rw [if_pos (Nat.le_refl _), tk, List.drop_length, List.append_nil]
      · rw [if_neg (by simp; exact c)]
        show (if out.length ≤ g then _ else _) = _
        rw [if_neg (by omega), tk]
    rw [e, h.rl, rfin_some, if_neg l]
    refine ⟨rfl, by simp; omega, fun x hx => ?_⟩
    rcases List.mem_append.1 hx with m | m
    · rcases List.mem_append.1 m with m | m
      · exact h.ob x (List.mem_of_mem_take m)
      · rw [(List.mem_replicate.1 m).2]
        omega
    · exact h.ob x (List.mem_of_mem_drop m)

theorem below_grown0 {B : Nat} {e : TypeId} {w W W' : World} {u : Value} {n : Nat} {xs : List Value} (hb : Below B w W) (hs : B ≤ W.heap.size) (ho : W.ownsRow B e 1 u n xs) (hg : W.grownBy W' u.ownBlock) : Below B w W' := by
  have bl : ∀ k, k < B → W'.heap[k]? = W.heap[k]? := fun k hk => hg.block k (by omega) (fun e => by
    have := (ho.lt k e.symm).1
    omega)
  exact hb.trans ⟨hg.os, hg.tape, hg.output, hg.size, bl⟩
end Go.Proofs.YtipjmmhlfmahbaaGreatDoor
