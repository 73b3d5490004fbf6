/-
  The reference's disk in memory; its At and Step.
-/
import Derived.Test.YtoppmpodiofhhaaDkD
import Derived.Deep.DeepCutAuto
namespace Go.Proofs.Ytoppmpodiofhhaa
open Go.ChangeShapes Go.WideShapes Go.ChangeAt Go.RowKit
set_option linter.unusedVariables false
set_option linter.unusedSimpArgs false

def sfS (f : Pf) : ByteArray := ⟨(f.bs.take f.safe).toArray⟩
def tlS (f : Pf) : ByteArray := ⟨(f.bs.drop f.safe).toArray⟩
def cellsP (f : Pf) : List Value := [.int .i64 f.no, .string (sfS f), .string (tlS f)]
def flat (l : List Pf) : List Value := l.flatMap cellsP

theorem flat_cons (f : Pf) (l : List Pf) : flat (f :: l) = .int .i64 f.no :: .string (sfS f) :: .string (tlS f) :: flat l := rfl
theorem flat_append (a b : List Pf) : flat (a ++ b) = flat a ++ flat b := by unfold flat; rw [List.flatMap_append]
theorem flat_length : ∀ l : List Pf, (flat l).length = l.length * 3
  | [] => rfl
  | f :: r => by rw [flat_cons]; simp only [List.length_cons, flat_length r]; omega

theorem flat_at : ∀ {l : List Pf} {i : Nat} {f : Pf}, l[i]? = some f → (flat l)[i * 3]? = some (.int .i64 f.no) ∧ (flat l)[i * 3 + 1]? = some (.string (sfS f)) ∧ (flat l)[i * 3 + 2]? = some (.string (tlS f))
  | [], i, f, h => by simp at h
  | g :: r, 0, f, h => by
    obtain rfl : g = f := by simpa using h
    rw [flat_cons]
    exact ⟨rfl, rfl, rfl⟩
  | g :: r, i + 1, f, h => by
    have q := flat_at (l := r) (i := i) (f := f) (by simpa using h)
    rw [flat_cons]
    rw [show (i + 1) * 3 = i * 3 + 1 + 1 + 1 by omega]
    simp only [List.getElem?_cons_succ]
    exact q

theorem flat_drop : ∀ (l : List Pf) (i : Nat), (flat l).drop (i * 3) = flat (l.drop i)
  | l, 0 => by simp
  | [], i + 1 => by simp [flat]
  | g :: r, i + 1 => by
    rw [flat_cons, show (i + 1) * 3 = i * 3 + 1 + 1 + 1 by omega]
    simp only [List.drop_succ_cons]
    exact flat_drop r i

theorem flat_take : ∀ (l : List Pf) (i : Nat), (flat l).take (i * 3) = flat (l.take i)
  | l, 0 => by simp [flat]
  | [], i + 1 => by simp [flat]
  | g :: r, i + 1 => by
    rw [flat_cons, show (i + 1) * 3 = i * 3 + 1 + 1 + 1 by omega]
    simp only [List.take_succ_cons]
    rw [flat_take r i, flat_cons]

theorem flat_one : ∀ l : List Pf, ∀ u ∈ flat l, u.oneCell' = true := by
  intro l u hu
  obtain ⟨f, _, h⟩ := List.mem_flatMap.1 hu
  simp only [cellsP, List.mem_cons, List.not_mem_nil, or_false] at h
  rcases h with rfl | rfl | rfl <;> rfl

/-- What a reference's disk may turn. -/
def MineR (B : Nat) (W : World) (k : Nat) : Prop := B ≤ k ∧ ∃ cs t fl, W.heap[k]? = some (.cells cs t fl) ∧ (t = 39 ∨ t = 60)

theorem MineR.alien {B : Nat} {W : World} {k : Nat} (h : MineR B W k) : Alien W k := by
  obtain ⟨_, cs, t, fl, e, ht⟩ := h
  refine ⟨cs, t, fl, e, ?_⟩
  rcases ht with rfl | rfl <;> exact ⟨by decide, by decide, by decide⟩

theorem Ch.nextR {B : Nat} {a b c : World} (h : Ch (MineR B a) a b) (k : Ch (MineR B b) b c) : Ch (MineR B a) a c := by
  refine ⟨k.os.trans h.os, k.tape.trans h.tape, k.output.trans h.output, Nat.le_trans h.size k.size, fun i hi hn => ?_⟩
  refine (k.block i (Nat.lt_of_lt_of_le hi h.size) (fun c => hn ⟨c.1, ?_⟩)).trans (h.block i hi hn)
  obtain ⟨_, cs, t, fl, e, ht⟩ := c
  exact ⟨cs, t, fl, (h.block i hi hn).symm.trans e, ht⟩

theorem Ch.belR {B : Nat} {w a b : World} (h : Below B w a) (k : Ch (MineR B a) a b) (hB : B ≤ w.heap.size) : Below B w b := by
  refine ⟨k.os.trans h.os, k.tape.trans h.tape, k.output.trans h.output, Nat.le_trans h.size k.size, fun i hi => ?_⟩
  refine (k.block i ?_ (fun c => ?_)).trans (h.block i hi)
  · have := h.size; omega
  · have := c.1; omega

theorem Ch.farR {B : Nat} {a b : World} (k : Ch (MineR B a) a b) {x : Nat} {cs : Array Value} {t : TypeId} (h : Blk a x cs t) (ht : t ≠ 39 ∧ t ≠ 60) : Blk b x cs t := by
  refine k.blk h ?_
  rintro ⟨_, cs', t', fl, e, hh⟩
  unfold Blk at h
  rw [h] at e
  injection e with e
  injection e with _ e2
  subst e2
  rcases hh with q | q
  · exact ht.1 q
  · exact ht.2 q

/-- The reference's disk, on, without a fuse. -/
structure RdAt (B r : Nat) (v : Value) (fs : List Pf) (st : Nat) (W : World) : Prop where
  hd : Blk W r #[v, .bool false, .int .i64 0, .int .i64 (st : Int)] 39
  row : W.ownsRow B 60 3 v fs.length (flat fs)
  lo : B ≤ r
  ok : ∀ f, f ∈ fs → f.safe ≤ f.bs.length ∧ f.bs.length ≤ 1048576 ∧ 1 ≤ f.no ∧ f.no ≤ 1000000
  len : fs.length ≤ 110

theorem rowR_block {W : World} {B n : Nat} {v : Value} {xs : List Value} (h : W.ownsRow B 60 3 v n xs) {k : Nat} (hk : v.ownBlock = some k) : B ≤ k ∧ k < W.heap.size ∧ ∃ cur, W.heap[k]? = some (.cells cur 60 (0, 0)) := by
  rcases h.2 with ⟨rfl, _⟩ | ⟨g, cap, cur, rfl, hb, hg, _⟩
  · simp [Value.ownBlock] at hk
  · simp [Value.ownBlock] at hk
    subst hk
    exact ⟨hb, (Array.getElem?_eq_some_iff.1 hg).1, cur, hg⟩

theorem RdAt.ch {B r : Nat} {v : Value} {fs : List Pf} {st : Nat} {W W' : World} (R : RdAt B r v fs st W) {X : Nat → Prop} (k : Ch X W W') (h : ∀ b, b < W.heap.size → X b → ¬ MineR B W b) : RdAt B r v fs st W' := by
  refine ⟨k.blk R.hd (fun c => h r R.hd.lt c ⟨R.lo, _, _, _, R.hd, Or.inl rfl⟩), k.row R.row (fun b hb c => ?_), R.lo, R.ok, R.len⟩
  obtain ⟨h1, h2, cur, h3⟩ := rowR_block R.row hb
  exact h b h2 c ⟨h1, _, _, _, h3, Or.inr rfl⟩

theorem RdAt.below {B r : Nat} {v : Value} {fs : List Pf} {st : Nat} {W W' : World} (R : RdAt B r v fs st W) (k : Below W.heap.size W W') : RdAt B r v fs st W' := R.ch (Ch.below (X := fun _ => False) k) (fun _ _ h => h.elim)

theorem RdAt.mine {B r : Nat} {v : Value} {fs : List Pf} {st : Nat} {W W' : World} (R : RdAt B r v fs st W) (k : Ch (Mine B W) W W') : RdAt B r v fs st W' := R.ch k (fun b _ h c => h.2 c.alien)

/-- The head is another. -/
theorem RdAt.head {B r : Nat} {v : Value} {fs : List Pf} {st : Nat} {W W' : World} (R : RdAt B r v fs st W) {st' : Nat} (k : Ch (fun b => b = r) W W') (h : Blk W' r #[v, .bool false, .int .i64 0, .int .i64 (st' : Int)] 39) : RdAt B r v fs st' W' ∧ Ch (MineR B W) W W' := by
  refine ⟨⟨h, k.row R.row (fun b hb e => ?_), R.lo, R.ok, R.len⟩, k.mono (fun b _ e => ?_)⟩
  · subst e
    obtain ⟨_, _, cur, hc⟩ := rowR_block R.row hb
    have q := R.hd
    unfold Blk at q
    rw [q] at hc
    injection hc with hc
    injection hc with _ e2
    cases e2
  · subst e
    exact ⟨R.lo, _, _, _, R.hd, Or.inl rfl⟩

theorem lenR {W : World} {B n : Nat} {v : Value} {xs : List Value} (h : W.ownsRow B 60 3 v n xs) (ty : TypeId) (W' : World) : (Builtin.len_ #[37] ty #[v]).run Try.prog W' = .ok (.int .i64 (n : Int)) W' := by
  rcases h.2 with ⟨rfl, rfl⟩ | ⟨g, cap, cur, rfl, _⟩
  · simp [Builtin.len_, run_underlying Try.underlying37, goInt, Result.andThen, Builtin.lenOf]
  · simp [Builtin.len_, run_underlying Try.underlying37, goInt, Result.andThen, Builtin.lenOf]

/-- Where a file stands. -/
def atI (fs : List Pf) (n : Int) : Int := match fs.findIdx? (fun f => f.no == n) with | some i => (i : Int) | none => -1

theorem atI_is {fs : List Pf} {n : Int} {k : Nat} {f : Pf} (h : ∀ j g, j < k → fs[j]? = some g → g.no ≠ n) (hf : fs[k]? = some f) (hn : f.no = n) : atI fs n = (k : Int) := by
  unfold atI
  have e : fs.findIdx? (fun f => f.no == n) = some k := by
    rw [List.findIdx?_eq_some_iff_getElem]
    obtain ⟨hk, e⟩ := List.getElem?_eq_some_iff.1 hf
    refine ⟨hk, by rw [e]; simpa using hn, fun j hj => ?_⟩
    have := h j (fs[j]'(by omega)) hj (List.getElem?_eq_getElem (by omega))
    simpa using this
  rw [e]

theorem atI_none {fs : List Pf} {n : Int} (h : ∀ j g, j < fs.length → fs[j]? = some g → g.no ≠ n) : atI fs n = -1 := by
  unfold atI
  have e : fs.findIdx? (fun f => f.no == n) = none := by
    rw [List.findIdx?_eq_none_iff]
    intro g hg
    obtain ⟨j, hj, e⟩ := List.getElem_of_mem hg
    have := h j g hj (by rw [List.getElem?_eq_getElem hj, e])
    simpa using this
  rw [e]

set_option maxRecDepth 100000 in
set_option maxHeartbeats 1000000 in
theorem rat_c {B r : Nat} {v : Value} {fs : List Pf} {st : Nat} (n : Int) {W : World} (R : RdAt B r v fs st W) :
    Calls Try.prog 26 #[.pointer (some ⟨r, 0, none⟩), .int .i64 n] W fun e W' => e = .returned (.int .i64 (atI fs n)) ∧ W' = W := by
  have c0 : W.cell? ⟨r, 0, none⟩ = some v := R.hd.cell 0
  have hl := R.hd.lt
  have LV := lenR R.row
  have RW := hide R.row
  have ll := R.len
  obtain ⟨m, hm⟩ : ∃ m, fs.length = m := ⟨_, rfl⟩
  have HM := hide hm
  rw [hm] at LV ll
  clear R hm
  go_enter Try.func26, Try.ntmps26
  go_wp2_with fail
  go_loop [5] (fun iv => ∃ k : Nat, k ≤ m ∧ iv = .int .i64 k ∧ Hid (∀ j g, j < k → fs[j]? = some g → g.no ≠ n)) (fun iv => m - (intOf iv).toNat)
  case atStart => exact ⟨0, by omega, rfl, fun j g hj => by omega⟩
  case round =>
    obtain ⟨k, hk, rfl, HK⟩ := hrel
    by_cases hlt : k < m
    · have hlt' : (k : Int) < (m : Int) := by omega
      have hkl : k < fs.length := by rw [HM.out]; exact hlt
      obtain ⟨f, hf⟩ : ∃ f, fs[k]? = some f := ⟨_, List.getElem?_eq_getElem hkl⟩
      have q := flat_at hf
      rcases RW.out.2 with ⟨-, h0⟩ | ⟨g, cap, cur, rfl, -, -, -, -, -, -⟩
      · omega
      have cj : W.cell? ⟨g, k * 3, none⟩ = some (.int .i64 f.no) := by
        rw [World.ownsRow.cellAt RW.out (k * 3) (by omega)]
        exact q.1
      have hj0 : (k : Int) < (fs.length : Int) := by omega
      obtain ⟨no, hno⟩ : ∃ no, f.no = no := ⟨_, rfl⟩
      rw [hno] at cj
      have HF := hide hf
      have HNO := hide hno
      clear q hf hno hkl
      by_cases hn : no = n
      · subst hn
        have E := hide (atI_is HK.out HF.out HNO.out)
        clear HF HNO HK
        go_wp2_with fail
        go_ret
        exact ⟨by rw [E.out]; rfl, rfl⟩
      · have hb : (no == n) = false := by simpa using hn
        have HK2 : Hid (∀ j g, j < k + 1 → fs[j]? = some g → g.no ≠ n) := by
          intro j g hj hg
          by_cases e : j = k
          · subst e
            rw [HF.out] at hg
            obtain rfl := Option.some.inj hg
            rw [HNO.out]; exact hn
          · exact HK.out j g (by omega) hg
        clear HF HNO HK
        go_wp2_with fail
        go_round
        case rel => exact ⟨k + 1, by omega, by go_num, HK2⟩
        case measure => simp [intOf]; omega
    · have hlt' : ¬ (k : Int) < (m : Int) := by omega
      have E : Hid (atI fs n = -1) := atI_none (fun j g hj hg => HK.out j g (by have := HM.out; omega) hg)
      clear HK hlt
      go_wp2_with fail
      go_ret
      exact ⟨by rw [E.out]; rfl, rfl⟩

theorem rstep_c {B r : Nat} {v : Value} {fs : List Pf} {st : Nat} (hst : st < 1000000000) {W : World} (R : RdAt B r v fs st W) :
    Calls Try.prog 28 #[.pointer (some ⟨r, 0, none⟩)] W fun e W' => e = .returned (.bool false) ∧ RdAt B r v fs (st + 1) W' ∧ Ch (MineR B W) W W' := by
  have c2 : W.cell? ⟨r, 2, none⟩ = some (.int .i64 0) := R.hd.cell 2
  have c3 : W.cell? ⟨r, 3, none⟩ = some (.int .i64 (st : Int)) := R.hd.cell 3
  have f3 := R.hd.frozen 3
  have hl := R.hd.lt
  have q : Blk (W.setCell ⟨r, 3, none⟩ (.int .i64 ((st : Int) + 1))) r #[v, .bool false, .int .i64 0, .int .i64 ((st + 1 : Nat) : Int)] 39 := by
    rw [show ((st + 1 : Nat) : Int) = (st : Int) + 1 by omega]
    exact R.hd.put 3 _
  have R1 := hide (R.head (Ch.cell W r 3 _) q)
  obtain ⟨t, ht⟩ : ∃ t : Int, (st : Int) = t := ⟨_, rfl⟩
  have t0 : 0 ≤ t := by omega
  have t1 : t < 1000000000 := by omega
  rw [ht] at c3 R1
  clear R q ht hst
  go_enter Try.func28, Try.ntmps28
  go_wp2_with fail
  go_ret
  exact ⟨rfl, R1.out⟩

end Go.Proofs.Ytoppmpodiofhhaa
