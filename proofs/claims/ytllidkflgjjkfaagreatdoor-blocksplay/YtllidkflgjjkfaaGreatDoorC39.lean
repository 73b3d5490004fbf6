/-
  Texts Se1, SeA, Se2, Se3 of the proof.
-/
import Derived.Test.YtllidkflgjjkfaaGreatDoorC18
import Derived.Test.YtllidkflgjjkfaaGreatDoorC38
import Derived.Test.YtllidkflgjjkfaaGreatDoorC0

namespace Go.Proofs.YtllidkflgjjkfaaGreatDoor
open Go.ChangeShapes Go.WideShapes Go.ChangeAt Go.RowKit
set_option linter.unusedVariables false
set_option linter.unusedSimpArgs false

/-- The numbers of the first and the last block that overlap. -/
def spA (v : Bool) (n : Nat) (b k : Int) (m : Nat) (c : Int) : Nat := numN v n k (if withinB v n b v m c then n else m)

def spZ (v : Bool) (n : Nat) (b k : Int) (m : Nat) (c : Int) : Nat := numN v n k (if withinB v n b v m c then lastN v n b else lastN v m c)

theorem last_ge {v : Bool} {m : Nat} {c : Int} : m ≤ lastN v m c := by unfold lastN; omega

theorem sp_facts {v : Bool} {n m : Nat} {b c k : Int} (hc : cutB v n b k = true) (hq : okP v m c = true) (ho : overB v n b v m c = true) (hn : n < 340282366920938463463374607431768211456) (hm : m < 340282366920938463463374607431768211456) :
    spA v n b k m c ≤ spZ v n b k m c ∧ spZ v n b k m c < 2 ^ (k - b).toNat ∧ ∀ i, i < 2 ^ (k - b).toNat → overB v (blkN v n k i) k v m c = (decide (spA v n b k m c ≤ i) && decide (i ≤ spZ v n b k m c)) := by
  rcases span_ends hc hq ho hn hm with ⟨h1, h2⟩ | ⟨h1, h2, h3⟩
  · unfold spA spZ
    rw [h1]
    simp only [if_true]
    exact ⟨num_mono last_ge, num_lt hc (Nat.le_refl _), fun i hi => span_is hc hq hn hm hi (Nat.le_refl _) last_ge h2 (Nat.le_refl _)⟩
  · unfold spA spZ
    rw [h1]
    simp only [Bool.false_eq_true, if_false]
    exact ⟨num_mono last_ge, num_lt hc h3, fun i hi => span_is hc hq hn hm hi h2 last_ge (fun x x1 x2 => Iff.rfl) h3⟩

theorem over_fam {v u : Bool} {n m : Nat} {b c : Int} (h : overB v n b u m c = true) : v = u := by
  unfold overB at h
  rw [Bool.or_eq_true] at h
  rcases h with h | h
  · exact (has_parts (within_parts h).2.2).1.symm
  · exact (has_parts (within_parts h).2.2).1

/-- Where none of a range's addresses is a prefix's, none of its blocks' is. -/
theorem over_block {v u : Bool} {n m i : Nat} {b c k : Int} (hc : cutB v n b k = true) (hn : n < 340282366920938463463374607431768211456) (hm : m < 340282366920938463463374607431768211456) (hi : i < 2 ^ (k - b).toNat) (ho : overB v n b u m c = false) : overB v (blkN v n k i) k u m c = false := by
  cases h : overB v (blkN v n k i) k u m c
  · rfl
  · obtain rfl := over_fam h
    cases hq : okP v m c
    · rw [over_no (Or.inr hq)] at h
      cases h
    · have o := blk_ok hc hn hi
      have e := (over_ends o.1 hq o.2 hm).1 h
      have l := blk_last hc hi
      have g : n ≤ blkN v n k i := by unfold blkN; omega
      rw [(over_ends (cutB_parts hc).1 hq hn hm).2 ⟨by omega, by omega⟩] at ho
      cases ho

theorem span_c {v : Bool} {h l b k qh ql c fh fl gh gl : Int} {n m : Nat} (hp : IsNum h l n) (hq : IsNum qh ql m) (hc : cutB v n b k = true) (hq0 : okP v m c = true) (ho : overB v n b v m c = true) (hf : IsNum fh fl (spA v n b k m c)) (hg : IsNum gh gl (spZ v n b k m c)) (w : World) :
    Calls Tryz.prog 126 #[pv v h l b, .int .i64 k, pv v qh ql c] w fun e w' => e = .returned (.tuple #[nv fh fl, nv gh gl, .int .i64 0]) ∧ Below w.heap.size w w' := by
  rcases span_ends hc hq0 ho hp.lt hq.lt with ⟨h1, h2⟩ | ⟨h1, h2, h3⟩
  · unfold spA at hf
    unfold spZ at hg
    rw [h1] at hf hg
    exact span_ok_p hp hq hp hc hq0 ho h1 (cutB_parts hc).1 (Nat.le_refl _) hf hg w
  · unfold spA at hf
    unfold spZ at hg
    rw [h1] at hf hg
    exact span_ok_q hp hq hq hc hq0 ho h1 hq0 h2 hf hg w

/-- Which blocks, by their numbers, overlap a prefix. -/
def ovP (v : Bool) (n : Nat) (k : Int) (N : Nat) (u : Bool) (m : Nat) (c : Int) : Nat → Bool := fun p => decide (p < N) && overB v (blkN v n k p) k u m c

/-- What becomes of those that are used when all that overlap a prefix are, or aren't. -/
def setO (v : Bool) (n : Nat) (k : Int) (N : Nat) (u : Bool) (m : Nat) (c : Int) (t : Bool) (f : Nat → Bool) : Nat → Bool := fun p => if ovP v n k N u m c p then t else f p

/-- How many are otherwise. -/
def cntO (f f' : Nat → Bool) : Int := (cnt (fun p => f p != f' p) 65536 : Nat)

/-- What is said of a prefix by which blocks are to be used, or not. -/
def qE (v : Bool) (n : Nat) (b : Int) (u : Bool) (m : Nat) (c : Int) : Int := if okP u m c then (if overB v n b u m c then 0 else 12) else 1

theorem ovP_row {v : Bool} {n m N : Nat} {b c k : Int} (hc : cutB v n b k = true) (hN : 2 ^ (k - b).toNat = N) (hq : okP v m c = true) (ho : overB v n b v m c = true) (hn : n < 340282366920938463463374607431768211456) (hm : m < 340282366920938463463374607431768211456) : ovP v n k N v m c = rowF (spA v n b k m c) (spZ v n b k m c) := by
  obtain ⟨s1, s2, s3⟩ := sp_facts hc hq ho hn hm
  rw [hN] at s2 s3
  funext p
  unfold ovP rowF
  by_cases hp : p < N
  · rw [decide_eq_true hp, Bool.true_and, s3 p hp]
    by_cases c1 : spA v n b k m c ≤ p <;> by_cases c2 : p ≤ spZ v n b k m c <;> simp [c1, c2]
  · rw [decide_eq_false hp, Bool.false_and]
    exact (decide_eq_false (by omega)).symm

theorem ovP_none {v u : Bool} {n m N : Nat} {b c k : Int} (hc : cutB v n b k = true) (hN : 2 ^ (k - b).toNat = N) (hn : n < 340282366920938463463374607431768211456) (hm : m < 340282366920938463463374607431768211456) (h : okP u m c = false ∨ overB v n b u m c = false) : ovP v n k N u m c = fun _ => false := by
  funext p
  unfold ovP
  by_cases hp : p < N
  · rw [decide_eq_true hp, Bool.true_and]
    rcases h with h | h
    · exact over_no (Or.inr h)
    · exact over_block hc hn hm (by omega) h
  · rw [decide_eq_false hp, Bool.false_and]

theorem setO_row {v : Bool} {n m N : Nat} {b c k : Int} {t : Bool} {f : Nat → Bool} (hc : cutB v n b k = true) (hN : 2 ^ (k - b).toNat = N) (hq : okP v m c = true) (ho : overB v n b v m c = true) (hn : n < 340282366920938463463374607431768211456) (hm : m < 340282366920938463463374607431768211456) : setO v n k N v m c t f = rowB (spA v n b k m c) (spZ v n b k m c) t f := by
  funext p
  unfold setO rowB
  rw [ovP_row hc hN hq ho hn hm]
  unfold rowF
  by_cases c1 : spA v n b k m c ≤ p ∧ p ≤ spZ v n b k m c
  · rw [decide_eq_true c1, if_pos rfl, if_pos c1]
  · rw [decide_eq_false c1, if_neg (by simp), if_neg c1]

theorem setO_none {v u : Bool} {n m N : Nat} {b c k : Int} {t : Bool} {f : Nat → Bool} (hc : cutB v n b k = true) (hN : 2 ^ (k - b).toNat = N) (hn : n < 340282366920938463463374607431768211456) (hm : m < 340282366920938463463374607431768211456) (h : okP u m c = false ∨ overB v n b u m c = false) : setO v n k N u m c t f = f := by
  funext p
  unfold setO
  rw [ovP_none hc hN hn hm h]
  rfl

theorem cntO_same (f : Nat → Bool) : cntO f f = 0 := by
  unfold cntO
  rw [cnt_zero (fun p _ => by simp)]
  rfl

/-- What a set is of. -/
structure SetOf (v : Bool) (h l b k : Int) (n N : Nat) : Prop where
  num : IsNum h l n
  cut : cutB v n b k = true
  len : 2 ^ (k - b).toNat = N
  small : N ≤ 65536

theorem SetOf.pos {v : Bool} {h l b k : Int} {n N : Nat} (O : SetOf v h l b k n N) : 0 < N := O.len ▸ pow_pos2 _

theorem SetOf.bits {v : Bool} {h l b k : Int} {n N : Nat} (O : SetOf v h l b k n N) : 0 ≤ b ∧ b ≤ k ∧ k ≤ 128 := by
  have := cutB_parts O.cut
  have := width_le v
  omega
end Go.Proofs.YtllidkflgjjkfaaGreatDoor

namespace Go.Proofs.YtllidkflgjjkfaaGreatDoor
open Go.ChangeShapes Go.WideShapes Go.ChangeAt Go.RowKit
set_option linter.unusedVariables false
set_option linter.unusedSimpArgs false

/-- A slice of prefixes. -/
def PfxsAt (W : World) (x : Option Addr) (len b o : Nat) : Prop := (x = some ⟨b, o, none⟩ ∨ len = 0) ∧ len ≤ 9223372036854775807 ∧ ∀ i, i < len → ∃ (u : Bool) (qh ql : Int) (m : Nat) (c : Int), IsNum qh ql m ∧ W.cell? ⟨b, o + i * 4, none⟩ = some (.bool u) ∧ W.cell? ⟨b, o + i * 4 + 1, none⟩ = some (.int .u64 qh) ∧ W.cell? ⟨b, o + i * 4 + 2, none⟩ = some (.int .u64 ql) ∧ W.cell? ⟨b, o + i * 4 + 3, none⟩ = some (.int .i64 c)

/-- A slice of calls. -/
def BActsAt (W : World) (x : Option Addr) (len b o : Nat) : Prop := (x = some ⟨b, o, none⟩ ∨ len = 0) ∧ len ≤ 9223372036854775807 ∧ ∀ i, i < len → ∃ (K : Int) (u : Bool) (qh ql : Int) (m : Nat) (c A : Int), IsNum qh ql m ∧ (-9223372036854775808 ≤ A ∧ A ≤ 9223372036854775807) ∧ W.cell? ⟨b, o + i * 6, none⟩ = some (.int .i64 K) ∧ W.cell? ⟨b, o + i * 6 + 1, none⟩ = some (.bool u) ∧ W.cell? ⟨b, o + i * 6 + 2, none⟩ = some (.int .u64 qh) ∧ W.cell? ⟨b, o + i * 6 + 3, none⟩ = some (.int .u64 ql) ∧ W.cell? ⟨b, o + i * 6 + 4, none⟩ = some (.int .i64 c) ∧ W.cell? ⟨b, o + i * 6 + 5, none⟩ = some (.int .i64 A)

end Go.Proofs.YtllidkflgjjkfaaGreatDoor

namespace Go.Proofs.YtllidkflgjjkfaaGreatDoor
open Go.ChangeShapes Go.WideShapes Go.ChangeAt Go.RowKit
set_option linter.unusedVariables false
set_option linter.unusedSimpArgs false

theorem Blk.seven {W : World} {b : Nat} {x y z u s r q : Value} {t : TypeId} (h : Blk W b #[x, y, z, u, s, r, q] t) : W.cell? ⟨b, 0, none⟩ = some x ∧ W.cell? ⟨b, 1, none⟩ = some y ∧ W.cell? ⟨b, 2, none⟩ = some z ∧ W.cell? ⟨b, 3, none⟩ = some u ∧ W.cell? ⟨b, 4, none⟩ = some s ∧ W.cell? ⟨b, 5, none⟩ = some r ∧ W.cell? ⟨b, 6, none⟩ = some q ∧ b < W.heap.size :=
  ⟨h.cell 0, h.cell 1, h.cell 2, h.cell 3, h.cell 4, h.cell 5, h.cell 6, h.lt⟩

theorem pfx_start7 (w : World) (v : Bool) (h l b : Int) : Kn w [(w.heap.size, [.bool v, .int .u64 h, .int .u64 l, .int .i64 b], 28)] (w.alloc (.cells #[.bool v, .int .u64 h, .int .u64 l, .int .i64 b] 28)) := (Kn.nil w).push rfl

/-- A set in memory. -/
structure SetAt (W : World) (v : Bool) (h l b k : Int) (x a g N : Nat) (f : Nat → Bool) (c : Nat) : Prop where
  hd : Blk W x #[.bool v, .int .u64 h, .int .u64 l, .int .i64 b, .int .i64 k, .pointer (some ⟨a, 0, none⟩), .int .i64 (c : Int)] 115
  m : MapB W a g N f
  cur : c < N

theorem SetAt.below {W W' : World} {v : Bool} {h l b k : Int} {x a g N c : Nat} {f : Nat → Bool} (P : SetAt W v h l b k x a g N f c) (q : Below W.heap.size W W') : SetAt W' v h l b k x a g N f c := ⟨P.hd.below q, P.m.below q, P.cur⟩

theorem SetAt.ne {W : World} {v : Bool} {h l b k : Int} {x a g N c : Nat} {f : Nat → Bool} (P : SetAt W v h l b k x a g N f c) : a ≠ x ∧ g ≠ x := P.m.neOf P.hd (by decide) (by decide)

theorem SetAt.turn {W W' : World} {v : Bool} {h l b k : Int} {x a g N c : Nat} {f f' : Nat → Bool} (P : SetAt W v h l b k x a g N f c) (m' : MapB W' a g N f') (q : But [g] W.heap.size W W') : SetAt W' v h l b k x a g N f' c :=
  ⟨q.blk P.hd P.hd.lt (by simpa using P.ne.2.symm), m', P.cur⟩

theorem SetAt.move {W : World} {v : Bool} {h l b k : Int} {x a g N c c' : Nat} {f : Nat → Bool} (P : SetAt W v h l b k x a g N f c) (hc : c' < N) : SetAt (W.setCell ⟨x, 6, none⟩ (.int .i64 (c' : Int))) v h l b k x a g N f c' :=
  ⟨by simpa using P.hd.put 6 (.int .i64 (c' : Int)), P.m.setFar P.ne.1 P.ne.2 6 _, hc⟩

theorem SetAt.keep {B : Nat} {W W' : World} {v : Bool} {h l b k : Int} {x a g N c : Nat} {f : Nat → Bool} (P : SetAt W v h l b k x a g N f c) (q : Below B W W') (hx : x < B) (ha : a < B) (hg : g < B) : SetAt W' v h l b k x a g N f c :=
  have r : But [] B W W' := But.of q (Nat.le_refl _)
  ⟨r.blk P.hd hx (by simp), P.m.but r ha hg (by simp) (by simp), P.cur⟩

theorem SetAt.head {W : World} {v : Bool} {h l b k : Int} {x a g N c : Nat} {f : Nat → Bool} (P : SetAt W v h l b k x a g N f c) : W.cell? ⟨a, 0, none⟩ = some (.int .i64 N) := by
  obtain ⟨⟨ws, hm, _⟩, _⟩ := P.m
  exact hm.head.cell 0

theorem SetAt.lt {W : World} {v : Bool} {h l b k : Int} {x a g N c : Nat} {f : Nat → Bool} (P : SetAt W v h l b k x a g N f c) : x < W.heap.size ∧ a < W.heap.size ∧ g < W.heap.size := ⟨P.hd.lt, P.m.lt.1, P.m.lt.2.1⟩

set_option maxHeartbeats 800000 in
theorem ssize_c {v : Bool} {h l b k : Int} {x a g N c : Nat} {f : Nat → Bool} (w : World) (P : SetAt w v h l b k x a g N f c) :
    Calls Tryz.prog 40 #[.pointer (some ⟨x, 0, none⟩)] w fun e w' => e = .returned (.int .i64 N) ∧ w' = w := by
  obtain ⟨x0, x1, x2, x3, x4, x5, x6, xl⟩ := P.hd.seven
  have SZ := hide (size_c a N w P.head)
  clear P
  go_enter Tryz.func40, Tryz.ntmps40
  go_wp2_with fail
  refine SZ.out.mono ?_
  rintro e w1 ⟨rfl, rfl⟩
  clear SZ
  go_wp2
  go_ret
  exact ⟨rfl, rfl⟩

theorem sbits_c {v : Bool} {h l b k : Int} {x a g N c : Nat} {f : Nat → Bool} (w : World) (P : SetAt w v h l b k x a g N f c) :
    Calls Tryz.prog 41 #[.pointer (some ⟨x, 0, none⟩)] w fun e w' => e = .returned (.int .i64 k) ∧ w' = w := by
  obtain ⟨x0, x1, x2, x3, x4, x5, x6, xl⟩ := P.hd.seven
  clear P
  go_enter Tryz.func41, Tryz.ntmps41
  go_wp2
  go_ret
  exact ⟨rfl, rfl⟩

set_option maxHeartbeats 800000 in
theorem sprefix_c {v : Bool} {h l b k : Int} {x a g N c : Nat} {f : Nat → Bool} (w : World) (P : SetAt w v h l b k x a g N f c) :
    Calls Tryz.prog 42 #[.pointer (some ⟨x, 0, none⟩)] w fun e w' => e = .returned (pv v h l b) ∧ Below w.heap.size w w' := by
  obtain ⟨x0, x1, x2, x3, x4, x5, x6, xl⟩ := P.hd.seven
  clear P
  go_enter Tryz.func42, Tryz.ntmps42
  go_wp2
  first
    | (go_ret; exact ⟨rfl, by repeat (first | with_reducible exact Below.refl _ _ | with_reducible refine Below.drew ?_ | with_reducible refine Below.alloc ?_ (by first | omega | (simp <;> omega)) _ | with_reducible refine Below.setCell ?_ (by first | omega | (simp <;> omega)) _)⟩)
    | refine bodyPost_ret (v := pv v h l b) (by simp [results, Tryz.results42, go_sem, World.cell?_setCell_same', World.cell?_setCell_other, *]) rfl ⟨rfl, by repeat (first | with_reducible exact Below.refl _ _ | with_reducible refine Below.drew ?_ | with_reducible refine Below.alloc ?_ (by first | omega | (simp <;> omega)) _ | with_reducible refine Below.setCell ?_ (by first | omega | (simp <;> omega)) _)⟩

set_option maxHeartbeats 1600000 in
theorem sleft_c {v : Bool} {h l b k : Int} {x a g N cu : Nat} {f : Nat → Bool} {C : Int} (hC : (N : Int) - (cnt f N : Nat) = C) (w : World) (P0 : SetAt w v h l b k x a g N f cu) :
    Calls Tryz.prog 39 #[.pointer (some ⟨x, 0, none⟩)] w fun e w' => e = .returned (.int .i64 C) ∧ Below w.heap.size w w' := by
  have PH := hide P0
  obtain ⟨x0, x1, x2, x3, x4, x5, x6, xl⟩ := P0.hd.seven
  have K0 : Kn w [(x, [.bool v, .int .u64 h, .int .u64 l, .int .i64 b, .int .i64 k, .pointer (some ⟨a, 0, none⟩), .int .i64 (cu : Int)], 115)] w := (Kn.nil w).cons P0.hd
  have l4 := P0.m.lt
  have hcl : cnt f N ≤ N := cnt_le _ _
  obtain ⟨c, hc⟩ : ∃ c, cnt f N = c := ⟨_, rfl⟩
  have CC := hide (fun w' H => count_ok a g N f w' H)
  rw [hc] at CC hcl hC
  have hsub : IntKind.i64.wrap ((N : Int) - c) = C := by rw [← hC]; simp [IntKind.wrap, IntKind.bits, IntKind.signed]; omega
  have hCC : IntKind.i64.wrap C = C := by rw [← hC]; simp [IntKind.wrap, IntKind.bits, IntKind.signed]; omega
  clear P0 hc
  go_enter Tryz.func39, Tryz.ntmps39
  go_wp2_with fail
  refine wp_region_held_drew (S := (Kn w [(x, [.bool v, .int .u64 h, .int .u64 l, .int .i64 b, .int .i64 k, .pointer (some ⟨a, 0, none⟩), .int .i64 (cu : Int)], 115)])) (by kernel_rfl) ?hS100 (fun hHeld => ?rest100)
  case hS100 => (first | with_reducible exact K0.drew | with_reducible exact hHeld | with_reducible exact hHeld.below hb5)
  refine wtk7 (i := 0) (v := ?v101) (ga7 rfl) (by kernel_rfl) (fun _ _ _ h => h) ⟨by rfl, ?hy101⟩ (by assumption) ?rest101
  case hy101 => (intro wq hSw; (try simp only [Two, Kn, Facts, CellsAt] at hSw); go_simp; try with_reducible rfl)
  try simp only [Act.put, sa7, sb7, sc7]
  refine wtk7 (i := 1) (v := ?v102) (ga7 rfl) (by kernel_rfl) (fun _ _ _ h => h) ⟨by rfl, ?hy102⟩ (by assumption) ?rest102
  case hy102 => (intro wq hSw; (try simp only [Two, Kn, Facts, CellsAt] at hSw); go_simp; try with_reducible rfl)
  try simp only [Act.put, sa7, sb7, sc7]
  refine wtk7 (i := 2) (v := ?v103) (ga7 rfl) (by kernel_rfl) (fun _ _ _ h => h) ⟨by rfl, ?hy103⟩ (by assumption) ?rest103
  case hy103 => (intro wq hSw; (try simp only [Two, Kn, Facts, CellsAt] at hSw); go_simp; try with_reducible rfl)
  try simp only [Act.put, sa7, sb7, sc7]
  refine wtk7 (i := 3) (v := ?v104) (ga7 rfl) (by kernel_rfl) (fun _ _ _ h => h) ⟨by rfl, ?hy104⟩ (by assumption) ?rest104
  case hy104 => (intro wq hSw; (try simp only [Two, Kn, Facts, CellsAt] at hSw); go_simp; try with_reducible rfl)
  try simp only [Act.put, sa7, sb7, sc7]
  refine wtk7 (i := 5) (v := ?v105) (ga7 rfl) (by kernel_rfl) (fun _ _ _ h => h) ⟨by rfl, ?hy105⟩ (by assumption) ?rest105
  case hy105 => (intro wq hSw; (try simp only [Two, Kn, Facts, CellsAt] at hSw); go_simp; try with_reducible rfl)
  try simp only [Act.put, sa7, sb7, sc7]
  refine wtk7 (i := 6) (v := ?v106) (ga7 rfl) (by kernel_rfl) (fun _ _ _ h => h) ⟨by rfl, ?hy106⟩ (by assumption) ?rest106
  case hy106 => (intro wq hSw; (try simp only [Two, Kn, Facts, CellsAt] at hSw); go_simp; try with_reducible rfl)
  try simp only [Act.put, sa7, sb7, sc7]
  refine wtk7 (i := 7) (v := ?v107) (ga7 rfl) (by kernel_rfl) (fun _ _ _ h => h) ⟨by rfl, ?hy107⟩ (by assumption) ?rest107
  case hy107 => (intro wq hSw; (try simp only [Two, Kn, Facts, CellsAt] at hSw); go_simp; try with_reducible rfl)
  try simp only [Act.put, sa7, sb7, sc7]
  refine wtk7 (i := 8) (v := ?v108) (ga7 rfl) (by kernel_rfl) (fun _ _ _ h => h) ⟨by rfl, ?hy108⟩ (by assumption) ?rest108
  case hy108 => (intro wq hSw; (try simp only [Two, Kn, Facts, CellsAt] at hSw); go_simp; try with_reducible rfl)
  try simp only [Act.put, sa7, sb7, sc7]
  refine wpAnyH_ready (rs := [4]) (by kernel_rfl) (by simp) ?rdy109
  refine AllReadyH.cons (ga7 rfl) (fun K hK => ?stp109) AllReadyH.nil
  go_simp
  go_wp2_with fail
  (refine (size_c a N _ (PH.out.below hHeld.bel).head).mono ?_; rintro e w4 ⟨rfl, rfl⟩)
  go_wp2_with fail
  refine hK.out _ _ ?hSn109 (fun hHeld2 => ?rest109)
  case hSn109 => (first | with_reducible exact K0.drew | with_reducible exact hHeld | with_reducible exact hHeld.below hb5)
  clear hK K hHeld
  have hHeld := hHeld2
  clear hHeld2
  try simp only [Act.put, sa7, sb7, sc7]
  refine wpAnyH_ready (rs := [9]) (by kernel_rfl) (by simp) ?rdy110
  refine AllReadyH.cons (ga7 rfl) (fun K hK => ?stp110) AllReadyH.nil
  go_simp
  go_wp2_with fail
  (refine (CC.out _ (PH.out.below hHeld.bel).m).mono ?_; rintro e w5 ⟨rfl, hb5⟩)
  go_wp2_with fail
  refine hK.out _ _ ?hSn110 (fun hHeld2 => ?rest110)
  case hSn110 => (first | with_reducible exact K0.drew | with_reducible exact hHeld | with_reducible exact hHeld.below hb5)
  clear hK K hHeld
  have hHeld := hHeld2
  clear hHeld2
  try simp only [Act.put, sa7, sb7, sc7]
  refine wtk7 (i := 10) (v := ?v111) (ga7 rfl) (by kernel_rfl) (fun _ _ _ h => h) ⟨by rfl, ?hy111⟩ (by assumption) ?rest111
  case hy111 => (intro wq hSw; (try simp only [Two, Kn, Facts, CellsAt] at hSw); go_simp; try with_reducible rfl)
  try simp only [Act.put, sa7, sb7, sc7]
  refine wtk7 (i := 11) (v := ?v112) (ga7 rfl) (by kernel_rfl) (fun _ _ _ h => h) ⟨by rfl, ?hy112⟩ (by assumption) ?rest112
  case hy112 => (intro wq hSw; (try simp only [Two, Kn, Facts, CellsAt] at hSw); go_simp; try with_reducible rfl)
  try simp only [Act.put, sa7, sb7, sc7]
  refine wpAnyH_done (by kernel_rfl) ?fin100 _
  have B := hHeld.bel
  clear hHeld K0 CC hb5
  go_wp2
  go_ret
  exact ⟨by first | rfl | simp [hsub, hCC], B⟩

end Go.Proofs.YtllidkflgjjkfaaGreatDoor

namespace Go.Proofs.YtllidkflgjjkfaaGreatDoor
open Go.ChangeShapes Go.WideShapes Go.ChangeAt Go.RowKit
set_option linter.unusedVariables false
set_option linter.unusedSimpArgs false

set_option maxHeartbeats 800000 in
theorem snew_arg {v : Bool} {h l b k : Int} {n : Nat} (hp : IsNum h l n) (hc : cutB v n b k = false) (w : World) :
    Calls Tryz.prog 28 #[pv v h l b, .int .i64 k] w fun e w' => e = .returned (.tuple #[.pointer none, .int .i64 1]) ∧ Below w.heap.size w w' := by
  have BK := hide (fun w' => blks_no hp hc w')
  have K := pfx_start7 w v h l b
  clear hp hc
  go_enter Tryz.func28, Tryz.ntmps28
  go_wp2_with fail
  refine (BK.out _).mono ?_
  rintro e w1 ⟨rfl, hb⟩
  have B := (K.below hb).bel
  have hs := B.size
  clear BK hb K
  go_wp2
  go_ret2
  exact ⟨rfl, by repeat (first | with_reducible exact Below.refl _ _ | with_reducible refine Below.drew ?_ | with_reducible refine Below.alloc ?_ (by first | omega | (simp <;> omega)) _ | with_reducible refine Below.setCell ?_ (by first | omega | (simp <;> omega)) _ | with_reducible refine Below.trans ?_ (Below.mono B (by first | omega | (simp <;> omega))))⟩

set_option maxRecDepth 100000 in
set_option maxHeartbeats 1600000 in
theorem snew_out {v : Bool} {h l b k rh rl : Int}
    (HS : Hid (∀ w', Calls Tryz.prog 79 #[pv v h l b, .int .i64 k] w' fun e w1 => e = .returned (.tuple #[nv rh rl, .bool false, .int .i64 0]) ∧ Below w'.heap.size w' w1)) (w : World) :
    Calls Tryz.prog 28 #[pv v h l b, .int .i64 k] w fun e w' => e = .returned (.tuple #[.pointer none, .int .i64 5]) ∧ Below w.heap.size w w' := by
  have K := pfx_start7 w v h l b
  go_enter Tryz.func28, Tryz.ntmps28
  go_wp2_with fail
  refine (HS.out _).mono ?_
  rintro e w1 ⟨rfl, hb⟩
  have B := (K.below hb).bel
  have hs := B.size
  have K0 := (Kn.of (w := w) (W := w1) (L := []) trivial B).push (b := w1.heap.size) (cs := [.int .u64 rh, .int .u64 rl]) (t := 24) rfl
  clear HS hb K
  go_wp2_with fail
  refine wp_region_held_drew (S := (Kn w [(w1.heap.size, [.int .u64 rh, .int .u64 rl], 24)])) (by kernel_rfl) ?hS100 (fun hHeld => ?rest100)
  case hS100 => (first | with_reducible exact K0.drew)
  refine wtk7 (i := 0) (v := ?v101) (ga7 rfl) (by kernel_rfl) (fun _ _ _ h => h) ⟨by rfl, ?hy101⟩ (by assumption) ?rest101
  case hy101 => (intro wq hSw; (try simp only [Two, Kn, Facts, CellsAt] at hSw); go_simp; try with_reducible rfl)
  try simp only [Act.put, sa7, sb7, sc7]
  refine wtk7 (i := 1) (v := ?v102) (ga7 rfl) (by kernel_rfl) (fun _ _ _ h => h) ⟨by rfl, ?hy102⟩ (by assumption) ?rest102
  case hy102 => (intro wq hSw; (try simp only [Two, Kn, Facts, CellsAt] at hSw); go_simp; try with_reducible rfl)
  try simp only [Act.put, sa7, sb7, sc7]
  refine wtk7 (i := 2) (v := ?v103) (ga7 rfl) (by kernel_rfl) (fun _ _ _ h => h) ⟨by rfl, ?hy103⟩ (by assumption) ?rest103
  case hy103 => (intro wq hSw; (try simp only [Two, Kn, Facts, CellsAt] at hSw); go_simp; try with_reducible rfl)
  try simp only [Act.put, sa7, sb7, sc7]
  refine wpAnyH_take (i := 3) (oi := _) (v := undef) (ga7 rfl) (by kernel_rfl) (by kernel_rfl) (by kernel_rfl) (fun _ _ _ h => h) (Or.inr ⟨by rfl, rfl⟩) (by assumption) ?rest104
  try simp only [Act.put, sa7, sb7, sc7]
  refine wpAnyH_take (i := 4) (oi := _) (v := undef) (ga7 rfl) (by kernel_rfl) (by kernel_rfl) (by kernel_rfl) (fun _ _ _ h => h) (Or.inr ⟨by rfl, rfl⟩) (by assumption) ?rest105
  try simp only [Act.put, sa7, sb7, sc7]
  refine wpAnyH_take (i := 5) (oi := _) (v := undef) (ga7 rfl) (by kernel_rfl) (by kernel_rfl) (by kernel_rfl) (fun _ _ _ h => h) (Or.inr ⟨by rfl, rfl⟩) (by assumption) ?rest106
  try simp only [Act.put, sa7, sb7, sc7]
  refine wpAnyH_take (i := 6) (oi := _) (v := undef) (ga7 rfl) (by kernel_rfl) (by kernel_rfl) (by kernel_rfl) (fun _ _ _ h => h) (Or.inr ⟨by rfl, rfl⟩) (by assumption) ?rest107
  try simp only [Act.put, sa7, sb7, sc7]
  refine wtk7 (i := 7) (v := ?v108) (ga7 rfl) (by kernel_rfl) (fun _ _ _ h => h) ⟨by rfl, ?hy108⟩ (by assumption) ?rest108
  case hy108 => (intro wq hSw; (try simp only [Two, Kn, Facts, CellsAt] at hSw); go_simp; try with_reducible rfl)
  try simp only [Act.put, sa7, sb7, sc7]
  refine wpAnyH_done (by kernel_rfl) ?fin100 _
  clear hHeld K0
  go_wp2
  go_ret2
  exact ⟨rfl, by repeat (first | with_reducible exact Below.refl _ _ | with_reducible refine Below.drew ?_ | with_reducible refine Below.alloc ?_ (by first | omega | (simp <;> omega)) _ | with_reducible refine Below.setCell ?_ (by first | omega | (simp <;> omega)) _ | with_reducible refine Below.trans ?_ (Below.mono B (by first | omega | (simp <;> omega))))⟩

set_option maxRecDepth 100000 in
set_option maxHeartbeats 1600000 in
theorem snew_gt {v : Bool} {h l b k rh rl : Int}
    (HS : Hid (∀ w', Calls Tryz.prog 79 #[pv v h l b, .int .i64 k] w' fun e w1 => e = .returned (.tuple #[nv rh rl, .bool true, .int .i64 0]) ∧ Below w'.heap.size w' w1))
    (CM : Hid (∀ w', Calls Tryz.prog 78 #[nv rh rl, nv 0 65536] w' fun e w1 => e = .returned (.int .i64 1) ∧ Below w'.heap.size w' w1)) (w : World) :
    Calls Tryz.prog 28 #[pv v h l b, .int .i64 k] w fun e w' => e = .returned (.tuple #[.pointer none, .int .i64 5]) ∧ Below w.heap.size w w' := by
  have K := pfx_start7 w v h l b
  have OF : Hid (∀ w', Calls Tryz.prog 80 #[.int .u64 65536] w' fun e w1 => e = .returned (nv 0 65536) ∧ Below w'.heap.size w' w1) := fun w' => of_w 65536 w'
  go_enter Tryz.func28, Tryz.ntmps28
  go_wp2_with fail
  refine (HS.out _).mono ?_
  rintro e w1 ⟨rfl, hb⟩
  have K0 := (Kn.of (w := w) (W := w1) (L := []) trivial (K.below hb).bel).push (b := w1.heap.size) (cs := [.int .u64 rh, .int .u64 rl]) (t := 24) rfl
  clear HS hb K
  go_wp2_with fail
  refine wp_region_held_drew (S := (Kn w [(w1.heap.size, [.int .u64 rh, .int .u64 rl], 24)])) (by kernel_rfl) ?hS200 (fun hHeld => ?rest200)
  case hS200 => (first | with_reducible exact K0.drew | with_reducible exact hHeld.below hb4 | with_reducible exact hHeld.below hb5)
  refine wtk7 (i := 0) (v := ?v201) (ga7 rfl) (by kernel_rfl) (fun _ _ _ h => h) ⟨by rfl, ?hy201⟩ (by assumption) ?rest201
  case hy201 => (intro wq hSw; (try simp only [Two, Kn, Facts, CellsAt] at hSw); go_simp; try with_reducible rfl)
  try simp only [Act.put, sa7, sb7, sc7]
  refine wtk7 (i := 1) (v := ?v202) (ga7 rfl) (by kernel_rfl) (fun _ _ _ h => h) ⟨by rfl, ?hy202⟩ (by assumption) ?rest202
  case hy202 => (intro wq hSw; (try simp only [Two, Kn, Facts, CellsAt] at hSw); go_simp; try with_reducible rfl)
  try simp only [Act.put, sa7, sb7, sc7]
  refine wtk7 (i := 2) (v := ?v203) (ga7 rfl) (by kernel_rfl) (fun _ _ _ h => h) ⟨by rfl, ?hy203⟩ (by assumption) ?rest203
  case hy203 => (intro wq hSw; (try simp only [Two, Kn, Facts, CellsAt] at hSw); go_simp; try with_reducible rfl)
  try simp only [Act.put, sa7, sb7, sc7]
  refine wtk7 (i := 3) (v := ?v204) (ga7 rfl) (by kernel_rfl) (fun _ _ _ h => h) ⟨by rfl, ?hy204⟩ (by assumption) ?rest204
  case hy204 => (intro wq hSw; (try simp only [Two, Kn, Facts, CellsAt] at hSw); go_simp; try with_reducible rfl)
  try simp only [Act.put, sa7, sb7, sc7]
  refine wpAnyH_ready (rs := [4]) (by kernel_rfl) (by simp) ?rdy205
  refine AllReadyH.cons (ga7 rfl) (fun K hK => ?stp205) AllReadyH.nil
  go_simp
  go_wp2_with fail
  (refine (OF.out _).mono ?_; rintro e w4 ⟨rfl, hb4⟩)
  go_wp2_with fail
  refine hK.out _ _ ?hSn205 (fun hHeld2 => ?rest205)
  case hSn205 => (first | with_reducible exact K0.drew | with_reducible exact hHeld.below hb4 | with_reducible exact hHeld.below hb5)
  clear hK K hHeld
  have hHeld := hHeld2
  clear hHeld2
  try simp only [Act.put, sa7, sb7, sc7]
  refine wpAnyH_ready (rs := [5]) (by kernel_rfl) (by simp) ?rdy206
  refine AllReadyH.cons (ga7 rfl) (fun K hK => ?stp206) AllReadyH.nil
  go_simp
  go_wp2_with fail
  (refine (CM.out _).mono ?_; rintro e w5 ⟨rfl, hb5⟩; have K5 := hHeld.below hb5)
  go_wp2_with fail
  refine hK.out _ _ ?hSn206 (fun hHeld2 => ?rest206)
  case hSn206 => (first | with_reducible exact K0.drew | with_reducible exact hHeld.below hb4 | with_reducible exact hHeld.below hb5)
  clear hK K hHeld
  have hHeld := hHeld2
  clear hHeld2
  try simp only [Act.put, sa7, sb7, sc7]
  refine wtk7 (i := 6) (v := ?v207) (ga7 rfl) (by kernel_rfl) (fun _ _ _ h => h) ⟨by rfl, ?hy207⟩ (by assumption) ?rest207
  case hy207 => (intro wq hSw; (try simp only [Two, Kn, Facts, CellsAt] at hSw); go_simp; try with_reducible rfl)
  try simp only [Act.put, sa7, sb7, sc7]
  refine wtk7 (i := 7) (v := ?v208) (ga7 rfl) (by kernel_rfl) (fun _ _ _ h => h) ⟨by rfl, ?hy208⟩ (by assumption) ?rest208
  case hy208 => (intro wq hSw; (try simp only [Two, Kn, Facts, CellsAt] at hSw); go_simp; try with_reducible rfl)
  try simp only [Act.put, sa7, sb7, sc7]
  refine wpAnyH_done (by kernel_rfl) ?fin200 _
  have B := K5.bel
  have F := K5.1
  simp only [Facts, CellsAt] at F
  clear hHeld hb4 hb5 K0 OF CM K5
  go_wp2
  go_ret2
  exact ⟨rfl, by repeat (first | with_reducible exact Below.refl _ _ | with_reducible refine Below.drew ?_ | with_reducible refine Below.alloc ?_ (by first | omega | (simp <;> omega)) _ | with_reducible refine Below.setCell ?_ (by first | omega | (simp <;> omega)) _ | with_reducible refine Below.trans ?_ (Below.mono B (by first | omega | (simp <;> omega))))⟩

set_option maxRecDepth 100000 in
set_option maxHeartbeats 1600000 in
theorem snew_eq {v : Bool} {h l b k rh rl : Int} {N : Nat} (hN : N ≤ 65536) (h0 : 0 < N) (hl : rl = (N : Int))
    (HS : Hid (∀ w', Calls Tryz.prog 79 #[pv v h l b, .int .i64 k] w' fun e w1 => e = .returned (.tuple #[nv rh rl, .bool true, .int .i64 0]) ∧ Below w'.heap.size w' w1))
    (CM : Hid (∀ w', Calls Tryz.prog 78 #[nv rh rl, nv 0 65536] w' fun e w1 => e = .returned (.int .i64 0) ∧ Below w'.heap.size w' w1)) (w : World) :
    Calls Tryz.prog 28 #[pv v h l b, .int .i64 k] w fun e w' => ∃ x a g, e = .returned (.tuple #[.pointer (some ⟨x, 0, none⟩), .int .i64 0]) ∧ SetAt w' v h l b k x a g N (fun _ => false) 0 ∧ Below w.heap.size w w' ∧ w.heap.size ≤ x ∧ w.heap.size ≤ g ∧ w.heap.size ≤ a := by
  subst hl
  have K := pfx_start7 w v h l b
  have OF : Hid (∀ w', Calls Tryz.prog 80 #[.int .u64 65536] w' fun e w1 => e = .returned (nv 0 65536) ∧ Below w'.heap.size w' w1) := fun w' => of_w 65536 w'
  have NB := hide (fun w' => new_b N hN w')
  have hw : IntKind.i64.wrap (N : Int) = (N : Int) := by simp [IntKind.wrap, IntKind.bits, IntKind.signed]; omega
  go_enter Tryz.func28, Tryz.ntmps28
  go_wp2_with fail
  refine (HS.out _).mono ?_
  rintro e w1 ⟨rfl, hb⟩
  have K0 := (K.below hb).push (b := w1.heap.size) (cs := [.int .u64 rh, .int .u64 (N : Int)]) (t := 24) rfl
  clear HS hb K
  go_wp2_with fail
  refine wp_region_held_drew (S := (Kn w [(w1.heap.size, [.int .u64 rh, .int .u64 (N : Int)], 24), (w.heap.size, [.bool v, .int .u64 h, .int .u64 l, .int .i64 b], 28)])) (by kernel_rfl) ?hS300 (fun hHeld => ?rest300)
  case hS300 => (first | with_reducible exact K0.drew | with_reducible exact hHeld.below hb4 | with_reducible exact hHeld.below hb5)
  refine wtk7 (i := 0) (v := ?v301) (ga7 rfl) (by kernel_rfl) (fun _ _ _ h => h) ⟨by rfl, ?hy301⟩ (by assumption) ?rest301
  case hy301 => (intro wq hSw; (try simp only [Two, Kn, Facts, CellsAt] at hSw); go_simp; try with_reducible rfl)
  try simp only [Act.put, sa7, sb7, sc7]
  refine wtk7 (i := 1) (v := ?v302) (ga7 rfl) (by kernel_rfl) (fun _ _ _ h => h) ⟨by rfl, ?hy302⟩ (by assumption) ?rest302
  case hy302 => (intro wq hSw; (try simp only [Two, Kn, Facts, CellsAt] at hSw); go_simp; try with_reducible rfl)
  try simp only [Act.put, sa7, sb7, sc7]
  refine wtk7 (i := 2) (v := ?v303) (ga7 rfl) (by kernel_rfl) (fun _ _ _ h => h) ⟨by rfl, ?hy303⟩ (by assumption) ?rest303
  case hy303 => (intro wq hSw; (try simp only [Two, Kn, Facts, CellsAt] at hSw); go_simp; try with_reducible rfl)
  try simp only [Act.put, sa7, sb7, sc7]
  refine wtk7 (i := 3) (v := ?v304) (ga7 rfl) (by kernel_rfl) (fun _ _ _ h => h) ⟨by rfl, ?hy304⟩ (by assumption) ?rest304
  case hy304 => (intro wq hSw; (try simp only [Two, Kn, Facts, CellsAt] at hSw); go_simp; try with_reducible rfl)
  try simp only [Act.put, sa7, sb7, sc7]
  refine wpAnyH_ready (rs := [4]) (by kernel_rfl) (by simp) ?rdy305
  refine AllReadyH.cons (ga7 rfl) (fun K hK => ?stp305) AllReadyH.nil
  go_simp
  go_wp2_with fail
  (refine (OF.out _).mono ?_; rintro e w4 ⟨rfl, hb4⟩)
  go_wp2_with fail
  refine hK.out _ _ ?hSn305 (fun hHeld2 => ?rest305)
  case hSn305 => (first | with_reducible exact K0.drew | with_reducible exact hHeld.below hb4 | with_reducible exact hHeld.below hb5)
  clear hK K hHeld
  have hHeld := hHeld2
  clear hHeld2
  try simp only [Act.put, sa7, sb7, sc7]
  refine wpAnyH_ready (rs := [5]) (by kernel_rfl) (by simp) ?rdy306
  refine AllReadyH.cons (ga7 rfl) (fun K hK => ?stp306) AllReadyH.nil
  go_simp
  go_wp2_with fail
  (refine (CM.out _).mono ?_; rintro e w5 ⟨rfl, hb5⟩; have K5 := hHeld.below hb5)
  go_wp2_with fail
  refine hK.out _ _ ?hSn306 (fun hHeld2 => ?rest306)
  case hSn306 => (first | with_reducible exact K0.drew | with_reducible exact hHeld.below hb4 | with_reducible exact hHeld.below hb5)
  clear hK K hHeld
  have hHeld := hHeld2
  clear hHeld2
  try simp only [Act.put, sa7, sb7, sc7]
  refine wtk7 (i := 6) (v := ?v307) (ga7 rfl) (by kernel_rfl) (fun _ _ _ h => h) ⟨by rfl, ?hy307⟩ (by assumption) ?rest307
  case hy307 => (intro wq hSw; (try simp only [Two, Kn, Facts, CellsAt] at hSw); go_simp; try with_reducible rfl)
  try simp only [Act.put, sa7, sb7, sc7]
  refine wtk7 (i := 7) (v := ?v308) (ga7 rfl) (by kernel_rfl) (fun _ _ _ h => h) ⟨by rfl, ?hy308⟩ (by assumption) ?rest308
  case hy308 => (intro wq hSw; (try simp only [Two, Kn, Facts, CellsAt] at hSw); go_simp; try with_reducible rfl)
  try simp only [Act.put, sa7, sb7, sc7]
  refine wpAnyH_done (by kernel_rfl) ?fin300 _
  have F := K5.1
  simp only [Facts, CellsAt] at F
  have KH5 := hide K5
  clear hHeld hb4 hb5 K0 OF CM K5
  go_wp2_with fail
  refine (NB.out _).mono ?_
  rintro e w6 ⟨rfl, hM, hb, hs⟩
  have K6 := hide (KH5.out.below hb)
  have F6 := K6.out.1
  simp only [Facts, CellsAt] at F6
  have MH := hide hM
  have SH := hide hs
  have LH := hide KH5.out.bel.size
  clear NB hb hM hs KH5 F hw
  go_wp2
  go_ret2
  have B := K6.out.bel
  have BN := Blk.new w6 #[.bool v, .int .u64 h, .int .u64 l, .int .i64 b, .int .i64 k, .pointer (some ⟨w5.heap.size + 1, 0, none⟩), .int .i64 ((0 : Nat) : Int)] 115
  have e1 := LH.out
  have e2 := SH.out
  have hs6 := B.size
  refine ⟨_, w5.heap.size + 1, w5.heap.size, rfl, ⟨BN, MH.out.below (by repeat (first | with_reducible exact Below.refl _ _ | with_reducible refine Below.drew ?_ | with_reducible refine Below.alloc ?_ (by first | omega | (simp <;> omega)) _ | with_reducible refine Below.setCell ?_ (by first | omega | (simp <;> omega)) _)), h0⟩, by repeat (first | with_reducible exact Below.refl _ _ | with_reducible refine Below.drew ?_ | with_reducible refine Below.alloc ?_ (by first | omega | (simp <;> omega)) _ | with_reducible refine Below.setCell ?_ (by first | omega | (simp <;> omega)) _ | with_reducible refine Below.trans ?_ (Below.mono B (by first | omega | (simp <;> omega)))), ?_, ?_, ?_⟩
  · exact B.size
  · exact e1
  · omega

set_option maxRecDepth 100000 in
set_option maxHeartbeats 1600000 in
theorem snew_lt {v : Bool} {h l b k rh rl : Int} {N : Nat} (hN : N ≤ 65536) (h0 : 0 < N) (hl : rl = (N : Int))
    (HS : Hid (∀ w', Calls Tryz.prog 79 #[pv v h l b, .int .i64 k] w' fun e w1 => e = .returned (.tuple #[nv rh rl, .bool true, .int .i64 0]) ∧ Below w'.heap.size w' w1))
    (CM : Hid (∀ w', Calls Tryz.prog 78 #[nv rh rl, nv 0 65536] w' fun e w1 => e = .returned (.int .i64 (-1)) ∧ Below w'.heap.size w' w1)) (w : World) :
    Calls Tryz.prog 28 #[pv v h l b, .int .i64 k] w fun e w' => ∃ x a g, e = .returned (.tuple #[.pointer (some ⟨x, 0, none⟩), .int .i64 0]) ∧ SetAt w' v h l b k x a g N (fun _ => false) 0 ∧ Below w.heap.size w w' ∧ w.heap.size ≤ x ∧ w.heap.size ≤ g ∧ w.heap.size ≤ a := by
  subst hl
  have K := pfx_start7 w v h l b
  have OF : Hid (∀ w', Calls Tryz.prog 80 #[.int .u64 65536] w' fun e w1 => e = .returned (nv 0 65536) ∧ Below w'.heap.size w' w1) := fun w' => of_w 65536 w'
  have NB := hide (fun w' => new_b N hN w')
  have hw : IntKind.i64.wrap (N : Int) = (N : Int) := by simp [IntKind.wrap, IntKind.bits, IntKind.signed]; omega
  go_enter Tryz.func28, Tryz.ntmps28
  go_wp2_with fail
  refine (HS.out _).mono ?_
  rintro e w1 ⟨rfl, hb⟩
  have K0 := (K.below hb).push (b := w1.heap.size) (cs := [.int .u64 rh, .int .u64 (N : Int)]) (t := 24) rfl
  clear HS hb K
  go_wp2_with fail
  refine wp_region_held_drew (S := (Kn w [(w1.heap.size, [.int .u64 rh, .int .u64 (N : Int)], 24), (w.heap.size, [.bool v, .int .u64 h, .int .u64 l, .int .i64 b], 28)])) (by kernel_rfl) ?hS400 (fun hHeld => ?rest400)
  case hS400 => (first | with_reducible exact K0.drew | with_reducible exact hHeld.below hb4 | with_reducible exact hHeld.below hb5)
  refine wtk7 (i := 0) (v := ?v401) (ga7 rfl) (by kernel_rfl) (fun _ _ _ h => h) ⟨by rfl, ?hy401⟩ (by assumption) ?rest401
  case hy401 => (intro wq hSw; (try simp only [Two, Kn, Facts, CellsAt] at hSw); go_simp; try with_reducible rfl)
  try simp only [Act.put, sa7, sb7, sc7]
  refine wtk7 (i := 1) (v := ?v402) (ga7 rfl) (by kernel_rfl) (fun _ _ _ h => h) ⟨by rfl, ?hy402⟩ (by assumption) ?rest402
  case hy402 => (intro wq hSw; (try simp only [Two, Kn, Facts, CellsAt] at hSw); go_simp; try with_reducible rfl)
  try simp only [Act.put, sa7, sb7, sc7]
  refine wtk7 (i := 2) (v := ?v403) (ga7 rfl) (by kernel_rfl) (fun _ _ _ h => h) ⟨by rfl, ?hy403⟩ (by assumption) ?rest403
  case hy403 => (intro wq hSw; (try simp only [Two, Kn, Facts, CellsAt] at hSw); go_simp; try with_reducible rfl)
  try simp only [Act.put, sa7, sb7, sc7]
  refine wtk7 (i := 3) (v := ?v404) (ga7 rfl) (by kernel_rfl) (fun _ _ _ h => h) ⟨by rfl, ?hy404⟩ (by assumption) ?rest404
  case hy404 => (intro wq hSw; (try simp only [Two, Kn, Facts, CellsAt] at hSw); go_simp; try with_reducible rfl)
  try simp only [Act.put, sa7, sb7, sc7]
  refine wpAnyH_ready (rs := [4]) (by kernel_rfl) (by simp) ?rdy405
  refine AllReadyH.cons (ga7 rfl) (fun K hK => ?stp405) AllReadyH.nil
  go_simp
  go_wp2_with fail
  (refine (OF.out _).mono ?_; rintro e w4 ⟨rfl, hb4⟩)
  go_wp2_with fail
  refine hK.out _ _ ?hSn405 (fun hHeld2 => ?rest405)
  case hSn405 => (first | with_reducible exact K0.drew | with_reducible exact hHeld.below hb4 | with_reducible exact hHeld.below hb5)
  clear hK K hHeld
  have hHeld := hHeld2
  clear hHeld2
  try simp only [Act.put, sa7, sb7, sc7]
  refine wpAnyH_ready (rs := [5]) (by kernel_rfl) (by simp) ?rdy406
  refine AllReadyH.cons (ga7 rfl) (fun K hK => ?stp406) AllReadyH.nil
  go_simp
  go_wp2_with fail
  (refine (CM.out _).mono ?_; rintro e w5 ⟨rfl, hb5⟩; have K5 := hHeld.below hb5)
  go_wp2_with fail
  refine hK.out _ _ ?hSn406 (fun hHeld2 => ?rest406)
  case hSn406 => (first | with_reducible exact K0.drew | with_reducible exact hHeld.below hb4 | with_reducible exact hHeld.below hb5)
  clear hK K hHeld
  have hHeld := hHeld2
  clear hHeld2
  try simp only [Act.put, sa7, sb7, sc7]
  refine wtk7 (i := 6) (v := ?v407) (ga7 rfl) (by kernel_rfl) (fun _ _ _ h => h) ⟨by rfl, ?hy407⟩ (by assumption) ?rest407
  case hy407 => (intro wq hSw; (try simp only [Two, Kn, Facts, CellsAt] at hSw); go_simp; try with_reducible rfl)
  try simp only [Act.put, sa7, sb7, sc7]
  refine wtk7 (i := 7) (v := ?v408) (ga7 rfl) (by kernel_rfl) (fun _ _ _ h => h) ⟨by rfl, ?hy408⟩ (by assumption) ?rest408
  case hy408 => (intro wq hSw; (try simp only [Two, Kn, Facts, CellsAt] at hSw); go_simp; try with_reducible rfl)
  try simp only [Act.put, sa7, sb7, sc7]
  refine wpAnyH_done (by kernel_rfl) ?fin400 _
  have F := K5.1
  simp only [Facts, CellsAt] at F
  have KH5 := hide K5
  clear hHeld hb4 hb5 K0 OF CM K5
  go_wp2_with fail
  refine (NB.out _).mono ?_
  rintro e w6 ⟨rfl, hM, hb, hs⟩
  have K6 := hide (KH5.out.below hb)
  have F6 := K6.out.1
  simp only [Facts, CellsAt] at F6
  have MH := hide hM
  have SH := hide hs
  have LH := hide KH5.out.bel.size
  clear NB hb hM hs KH5 F hw
  go_wp2
  go_ret2
  have B := K6.out.bel
  have BN := Blk.new w6 #[.bool v, .int .u64 h, .int .u64 l, .int .i64 b, .int .i64 k, .pointer (some ⟨w5.heap.size + 1, 0, none⟩), .int .i64 ((0 : Nat) : Int)] 115
  have e1 := LH.out
  have e2 := SH.out
  have hs6 := B.size
  refine ⟨_, w5.heap.size + 1, w5.heap.size, rfl, ⟨BN, MH.out.below (by repeat (first | with_reducible exact Below.refl _ _ | with_reducible refine Below.drew ?_ | with_reducible refine Below.alloc ?_ (by first | omega | (simp <;> omega)) _ | with_reducible refine Below.setCell ?_ (by first | omega | (simp <;> omega)) _)), h0⟩, by repeat (first | with_reducible exact Below.refl _ _ | with_reducible refine Below.drew ?_ | with_reducible refine Below.alloc ?_ (by first | omega | (simp <;> omega)) _ | with_reducible refine Below.setCell ?_ (by first | omega | (simp <;> omega)) _ | with_reducible refine Below.trans ?_ (Below.mono B (by first | omega | (simp <;> omega)))), ?_, ?_, ?_⟩
  · exact B.size
  · exact e1
  · omega

theorem snew_c {v : Bool} {h l b k : Int} {n N : Nat} (O : SetOf v h l b k n N) (w : World) :
    Calls Tryz.prog 28 #[pv v h l b, .int .i64 k] w fun e w' => ∃ x a g, e = .returned (.tuple #[.pointer (some ⟨x, 0, none⟩), .int .i64 0]) ∧ SetAt w' v h l b k x a g N (fun _ => false) 0 ∧ Below w.heap.size w w' ∧ w.heap.size ≤ x ∧ w.heap.size ≤ g ∧ w.heap.size ≤ a := by
  have n6 : IsNum 0 65536 65536 := ⟨by omega, by omega, by omega, by omega, rfl⟩
  obtain ⟨b0, b1, b2⟩ := O.bits
  obtain ⟨rh, rl, t, hr⟩ := countIs_ex (K := (k - b).toNat) (by omega)
  have le := O.small
  have h0 := O.pos
  have HS : Hid (∀ w', Calls Tryz.prog 79 #[pv v h l b, .int .i64 k] w' fun e w1 => e = .returned (.tuple #[nv rh rl, .bool t, .int .i64 0]) ∧ Below w'.heap.size w' w1) := fun w' => blks_ok O.num O.cut hr w'
  rcases hr with ⟨k1, rfl, k3⟩ | ⟨k1, rfl, rfl, rfl⟩
  · rw [O.len] at k3
    have hl : rl = (N : Int) := by
      obtain ⟨x1, x2, x3, x4, x5⟩ := k3
      omega
    rcases Nat.lt_or_eq_of_le le with lt | eq
    · exact snew_lt le h0 hl HS (fun w' => num_cmp k3 n6 (cmpI_lt (by omega)).symm w') w
    · exact snew_eq le h0 hl HS (fun w' => num_cmp k3 n6 (cmpI_eq (by omega)).symm w') w
  · have := O.len
    rw [k1] at this
    rw [show (2 : Nat) ^ 128 = 340282366920938463463374607431768211456 by decide] at this
    omega

theorem snew_long {v : Bool} {h l b k : Int} {n : Nat} (hp : IsNum h l n) (hc : cutB v n b k = true) (hk : 16 < (k - b).toNat) (w : World) :
    Calls Tryz.prog 28 #[pv v h l b, .int .i64 k] w fun e w' => e = .returned (.tuple #[.pointer none, .int .i64 5]) ∧ Below w.heap.size w w' := by
  have n6 : IsNum 0 65536 65536 := ⟨by omega, by omega, by omega, by omega, rfl⟩
  obtain ⟨_, b0, b1, b2, _⟩ := cutB_parts hc
  have hW2 := width_le v
  obtain ⟨rh, rl, t, hr⟩ := countIs_ex (K := (k - b).toNat) (by omega)
  have HS : Hid (∀ w', Calls Tryz.prog 79 #[pv v h l b, .int .i64 k] w' fun e w1 => e = .returned (.tuple #[nv rh rl, .bool t, .int .i64 0]) ∧ Below w'.heap.size w' w1) := fun w' => blks_ok hp hc hr w'
  rcases hr with ⟨k1, rfl, k3⟩ | ⟨k1, rfl, rfl, rfl⟩
  · have le := Nat.pow_le_pow_right (n := 2) (by decide) hk
    rw [show (2 : Nat) ^ (Nat.succ 16) = 131072 by decide] at le
    refine snew_gt HS (fun w' => num_cmp k3 n6 (cmpI_gt ?_).symm w') w
    omega
  · exact snew_out HS w
end Go.Proofs.YtllidkflgjjkfaaGreatDoor
