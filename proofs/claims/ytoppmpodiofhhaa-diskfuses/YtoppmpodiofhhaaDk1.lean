/-
  The small calls on a disk: reach, find, lose, step, On, Steps, Fuse, Cut, Safe, Read.
-/
import Derived.Test.YtoppmpodiofhhaaDkA
import Derived.Laws.BytesArg
import Derived.Maps.OwnOps
namespace Go.Proofs.Ytoppmpodiofhhaa
open Go.ChangeShapes Go.WideShapes Go.ChangeAt Go.RowKit
set_option linter.unusedVariables false
set_option linter.unusedSimpArgs false

theorem DkAt.cells {B d m : Nat} {l : List Fl} {fu : Int} {st : Nat} {on : Bool} {W : World} (S : DkAt B d m l fu st on W) :
    W.cell? ⟨d, 0, none⟩ = some (.map (some m)) ∧ W.cell? ⟨d, 1, none⟩ = some (.int .i64 fu) ∧ W.cell? ⟨d, 2, none⟩ = some (.int .i64 (st : Int)) ∧ W.cell? ⟨d, 3, none⟩ = some (.bool on) ∧ W.frozen? ⟨d, 1, none⟩ = false ∧ W.frozen? ⟨d, 2, none⟩ = false ∧ W.frozen? ⟨d, 3, none⟩ = false ∧ d < W.heap.size :=
  ⟨S.hd.cell 0, S.hd.cell 1, S.hd.cell 2, S.hd.cell 3, S.hd.frozen 1, S.hd.frozen 2, S.hd.frozen 3, S.hd.lt⟩

theorem keyInt : Go.Maps.Keyed Try.prog 3 := Go.Maps.int_keyed Try.underlying3

theorem keyOfInt (n : Int) (h : -9223372036854775808 ≤ n ∧ n ≤ 9223372036854775807) : keyOf Try.prog 3 (.int .i64 n) = some (.int .i64 n) := Go.Maps.keyOf_int_mk Try.underlying3 (by simpa [Lit.wf, IntKind.min, IntKind.max, IntKind.signed, IntKind.bits] using h)

theorem zeroPtr (w : World) : (zeroValue 53).run Try.prog w = .ok (.pointer none) w := by kernel_rfl

/-- What is at a number. -/
def atV (l : List Fl) (n : Int) : Value := match getL l n with | some f => .pointer (some ⟨f.p, 0, none⟩) | none => .pointer none

theorem look_run {l : List Fl} {W : World} {m : Nat} (S : W.ownsMap Try.prog 3 ptrElem m l.length (mapL l)) (n : Int) (h : -9223372036854775808 ≤ n ∧ n ≤ 9223372036854775807) :
    (Instr.lookup 49 (.map (some m)) (.int .i64 n) false).run Try.prog W = .ok (atV l n) W := by
  obtain ⟨v, ps, hr, hv⟩ := S.lookup keyInt Try.underlying49 (zeroPtr W) (zd := .nil) (zp := []) rfl (keyOfInt n h)
  rw [hr]
  rw [mapL_at] at hv
  unfold atV
  cases hg : getL l n with
  | none => rw [hg] at hv; rw [ptrElem_nil hv]
  | some f => rw [hg] at hv; rw [ptrElem_ptr hv]

theorem reach_c {B d m : Nat} {l : List Fl} (s : DS) (n : Int) {W : World} (S : DkAt B d m l s.fuse s.steps s.on W) :
    Calls Try.prog 32 #[.pointer (some ⟨d, 0, none⟩), .int .i64 n] W fun e W' => e = .returned (.int .i64 (reachV s n)) ∧ W' = W := by
  obtain ⟨-, -, -, c3, -, -, -, -⟩ := S.cells
  unfold reachV
  cases hon : s.on
  · rw [hon] at c3
    clear S hon
    go_enter Try.func32, Try.ntmps32
    go_wp2_with fail
    go_ret
    exact ⟨rfl, rfl⟩
  · rw [hon] at c3
    clear S hon
    by_cases h1 : n < 1
    · have e : (if true = false then (6 : Int) else if n < 1 ∨ 1000000 < n then 1 else 0) = 1 := by rw [if_neg (by decide), if_pos (Or.inl h1)]
      rw [e]
      clear e
      go_enter Try.func32, Try.ntmps32
      go_wp2_with fail
      go_ret
      exact ⟨rfl, rfl⟩
    · by_cases h2 : 1000000 < n
      · have e : (if true = false then (6 : Int) else if n < 1 ∨ 1000000 < n then 1 else 0) = 1 := by rw [if_neg (by decide), if_pos (Or.inr h2)]
        rw [e]
        clear e
        go_enter Try.func32, Try.ntmps32
        go_wp2_with fail
        go_ret
        exact ⟨rfl, rfl⟩
      · have e : (if true = false then (6 : Int) else if n < 1 ∨ 1000000 < n then 1 else 0) = 0 := by rw [if_neg (by decide), if_neg (by omega)]
        rw [e]
        clear e
        go_enter Try.func32, Try.ntmps32
        go_wp2_with fail
        go_ret
        exact ⟨rfl, rfl⟩

theorem reach_zero {s : DS} {n : Int} (h : reachV s n = 0) : 1 ≤ n ∧ n ≤ 1000000 ∧ s.on = true := by
  unfold reachV at h
  split at h
  · cases h
  · rename_i e
    split at h
    · cases h
    · rename_i e2
      exact ⟨by omega, by omega, by simpa using e⟩

/-- What find answers. -/
def findV (s : DS) (l : List Fl) (n : Int) : Value := if reachV s n ≠ 0 then .pointer none else atV l n
def findE (s : DS) (l : List Fl) (n : Int) : Int := if reachV s n ≠ 0 then reachV s n else match getL l n with | some _ => 0 | none => 7

theorem find_c {B d m : Nat} {l : List Fl} (s : DS) (n : Int) {W : World} (S : DkAt B d m l s.fuse s.steps s.on W) :
    Calls Try.prog 25 #[.pointer (some ⟨d, 0, none⟩), .int .i64 n] W fun e W' => e = .returned (.tuple #[findV s l n, .int .i64 (findE s l n)]) ∧ W' = W := by
  have RC := hide (reach_c s n S)
  obtain ⟨c0, -, -, -, -, -, -, -⟩ := S.cells
  have MH := hide S.map
  clear S
  unfold findV findE
  by_cases h : reachV s n = 0
  · rw [if_neg (by omega), if_neg (by omega)]
    obtain ⟨h1, h2, -⟩ := reach_zero h
    have LK := look_run MH.out n (by omega)
    rw [h] at RC
    clear h
    unfold atV at LK ⊢
    cases hg : getL l n with
    | none =>
      rw [hg] at LK
      simp only at LK ⊢
      go_enter Try.func25, Try.ntmps25
      go_wp2_with fail
      refine RC.out.mono ?_
      rintro e w1 ⟨rfl, rfl⟩
      go_wp2_with fail
      go_ret2
      exact ⟨rfl, rfl⟩
    | some f =>
      rw [hg] at LK
      simp only at LK ⊢
      go_enter Try.func25, Try.ntmps25
      go_wp2_with fail
      refine RC.out.mono ?_
      rintro e w1 ⟨rfl, rfl⟩
      go_wp2_with fail
      go_ret2
      exact ⟨rfl, rfl⟩
  · rw [if_pos h, if_pos h]
    generalize reachV s n = r at *
    have hb : (r != 0) = true := by simpa using h
    go_enter Try.func25, Try.ntmps25
    go_wp2_with fail
    refine RC.out.mono ?_
    rintro e w1 ⟨rfl, rfl⟩
    go_wp2_with fail
    go_ret2
    exact ⟨rfl, rfl⟩

theorem lose_c {B d m : Nat} {l : List Fl} {fu : Int} {st : Nat} {on : Bool} {W : World} (S : DkAt B d m l fu st on W) :
    Calls Try.prog 34 #[.pointer (some ⟨d, 0, none⟩)] W fun e W' => e = .returned (.tuple #[]) ∧ DkAt B d m l 0 st false W' ∧ Ch (Mine B W) W W' := by
  obtain ⟨-, c1, c2, c3, f1, f2, f3, hl⟩ := S.cells
  have SH := hide S
  clear S
  go_enter Try.func34, Try.ntmps34
  go_wp2_with fail
  go_end0
  have k : Ch (fun b => b = d) W ((W.setCell ⟨d, 3, none⟩ (.bool false)).setCell ⟨d, 1, none⟩ (.int .i64 0)) := (Ch.cell W d 3 _).trans (Ch.cell _ d 1 _)
  have q : Blk ((W.setCell ⟨d, 3, none⟩ (.bool false)).setCell ⟨d, 1, none⟩ (.int .i64 0)) d #[.map (some m), .int .i64 0, .int .i64 (st : Int), .bool false] 51 := (SH.out.hd.put 3 _).put 1 _
  exact ⟨rfl, SH.out.head k q (by omega) (by omega), SH.out.mineHead k⟩

theorem step_c {B d m : Nat} {l : List Fl} (s : DS) {W : World} (hs : s.steps < 1000000000) (S : DkAt B d m l s.fuse s.steps s.on W) :
    Calls Try.prog 33 #[.pointer (some ⟨d, 0, none⟩)] W fun e W' => e = .returned (.int .i64 (stepV s)) ∧ DkAt B d m l (stepS s).fuse (stepS s).steps (stepS s).on W' ∧ Ch (Mine B W) W W' := by
  obtain ⟨-, c1, c2, c3, f1, f2, f3, hl⟩ := S.cells
  have b0 := S.fu0
  have b1 := S.fu1
  have k1 : Ch (fun b => b = d) W (W.setCell ⟨d, 2, none⟩ (.int .i64 ((s.steps : Int) + 1))) := Ch.cell W d 2 _
  have q1 : Blk (W.setCell ⟨d, 2, none⟩ (.int .i64 ((s.steps : Int) + 1))) d #[.map (some m), .int .i64 s.fuse, .int .i64 ((s.steps + 1 : Nat) : Int), .bool s.on] 51 := by
    rw [show ((s.steps + 1 : Nat) : Int) = (s.steps : Int) + 1 by omega]
    exact S.hd.put 2 _
  have S1 := hide (S.head k1 q1 b0 b1)
  have K1 := hide (S.mineHead k1)
  have hs' : (s.steps : Int) < 1000000000 := by omega
  have n0 : (0 : Int) ≤ (s.steps : Int) := by omega
  obtain ⟨t, ht⟩ : ∃ t, (s.steps : Int) = t := ⟨_, rfl⟩
  rw [ht] at c2 k1 q1 hs' n0 S1 K1
  unfold stepV stepS
  obtain ⟨fu, hfu⟩ : ∃ fu, s.fuse = fu := ⟨_, rfl⟩
  rw [hfu] at c1 b0 b1 S1 S ⊢
  by_cases h : fu = 1
  · rw [if_pos h, if_pos h]
    have LS := hide (lose_c S1.out)
    subst h
    clear S ht k1 q1 hfu
    go_enter Try.func33, Try.ntmps33
    go_wp2_with fail
    refine LS.out.mono ?_
    rintro e w1 ⟨rfl, hS, hk⟩
    have S2 := hide hS
    have K2 := hide (K1.out.next hk)
    clear hS hk
    go_wp2_with fail
    go_ret
    exact ⟨rfl, S2.out, K2.out⟩
  · rw [if_neg h, if_neg h]
    have hb : (fu == 1) = false := by simpa using h
    have fin : Hid (∀ u : Int, u = max (fu - 1) 0 → DkAt B d m l (max (fu - 1) 0) (s.steps + 1) s.on ((W.setCell ⟨d, 2, none⟩ (.int .i64 (t + 1))).setCell ⟨d, 1, none⟩ (.int .i64 u)) ∧ Ch (Mine B W) W ((W.setCell ⟨d, 2, none⟩ (.int .i64 (t + 1))).setCell ⟨d, 1, none⟩ (.int .i64 u))) := by
      rintro u rfl
      have k2 := Ch.cell (W.setCell ⟨d, 2, none⟩ (.int .i64 (t + 1))) d 1 (.int .i64 (max (fu - 1) 0))
      exact ⟨S1.out.head k2 (S1.out.hd.put 1 _) (by omega) (by omega), K1.out.next (S1.out.mineHead k2)⟩
    clear S ht k1 q1 hfu S1 K1
    go_enter Try.func33, Try.ntmps33
    go_wp2_with fail
    all_goals
      go_ret
      exact ⟨rfl, fin.out _ (by omega)⟩

theorem on_c {B d m : Nat} {l : List Fl} {fu : Int} {st : Nat} {on : Bool} {W : World} (S : DkAt B d m l fu st on W) :
    Calls Try.prog 11 #[.pointer (some ⟨d, 0, none⟩)] W fun e W' => e = .returned (.bool on) ∧ W' = W := by
  obtain ⟨-, -, -, c3, -, -, -, hl⟩ := S.cells
  clear S
  go_enter Try.func11, Try.ntmps11
  go_wp2_with fail
  go_ret
  exact ⟨rfl, rfl⟩

theorem steps_c {B d m : Nat} {l : List Fl} {fu : Int} {st : Nat} {on : Bool} {W : World} (S : DkAt B d m l fu st on W) :
    Calls Try.prog 16 #[.pointer (some ⟨d, 0, none⟩)] W fun e W' => e = .returned (.int .i64 (st : Int)) ∧ W' = W := by
  obtain ⟨-, -, c2, -, -, -, -, hl⟩ := S.cells
  clear S
  go_enter Try.func16, Try.ntmps16
  go_wp2_with fail
  go_ret
  exact ⟨rfl, rfl⟩

theorem cut_c {B d m : Nat} {l : List Fl} (s : DS) {W : World} (S : DkAt B d m l s.fuse s.steps s.on W) :
    Calls Try.prog 20 #[.pointer (some ⟨d, 0, none⟩)] W fun e W' => e = .returned (.int .i64 (cutV s)) ∧ DkAt B d m l (cutS s).fuse (cutS s).steps (cutS s).on W' ∧ Ch (Mine B W) W W' := by
  obtain ⟨-, -, -, c3, -, -, -, hl⟩ := S.cells
  have LS := hide (lose_c S)
  have SH := hide S
  unfold cutV cutS
  cases hon : s.on
  · rw [hon] at c3
    rw [if_neg (by decide), if_neg (by decide)]
    clear S hon LS
    go_enter Try.func20, Try.ntmps20
    go_wp2_with fail
    go_ret
    exact ⟨rfl, SH.out, Ch.refl _ _⟩
  · rw [hon] at c3
    rw [if_pos rfl, if_pos rfl]
    clear S hon SH
    go_enter Try.func20, Try.ntmps20
    go_wp2_with fail
    refine LS.out.mono ?_
    rintro e w1 ⟨rfl, hS, hk⟩
    have S2 := hide hS
    have K2 := hide hk
    clear hS hk LS
    go_wp2_with fail
    go_ret
    exact ⟨rfl, S2.out, K2.out⟩

theorem fuse_c {B d m : Nat} {l : List Fl} (s : DS) (n : Int) (hn : -9223372036854775808 ≤ n ∧ n ≤ 9223372036854775807) {W : World} (S : DkAt B d m l s.fuse s.steps s.on W) :
    Calls Try.prog 13 #[.pointer (some ⟨d, 0, none⟩), .int .i64 n] W fun e W' => e = .returned (.int .i64 (fuV s)) ∧ DkAt B d m l (fuS s n).fuse (fuS s n).steps (fuS s n).on W' ∧ Ch (Mine B W) W W' := by
  obtain ⟨-, c1, c2, c3, f1, f2, f3, hl⟩ := S.cells
  have SH := hide S
  unfold fuV fuS
  cases hon : s.on
  · rw [hon] at c3
    rw [if_neg (by decide), if_neg (by decide)]
    clear S hon
    go_enter Try.func13, Try.ntmps13
    go_wp2_with fail
    go_ret
    exact ⟨rfl, SH.out, Ch.refl _ _⟩
  · rw [hon] at c3
    rw [if_pos rfl, if_pos rfl]
    have fin : Hid (∀ u : Int, u = max n 0 → DkAt B d m l (max n 0) s.steps s.on (W.setCell ⟨d, 1, none⟩ (.int .i64 u)) ∧ Ch (Mine B W) W (W.setCell ⟨d, 1, none⟩ (.int .i64 u))) := by
      rintro u rfl
      have k2 := Ch.cell W d 1 (.int .i64 (max n 0))
      exact ⟨S.head k2 (S.hd.put 1 _) (by omega) (by omega), S.mineHead k2⟩
    rw [hon] at fin
    clear S hon SH
    go_enter Try.func13, Try.ntmps13
    go_wp2_with fail
    all_goals
      go_ret
      exact ⟨rfl, fin.out _ (by omega)⟩

/-- How many bytes of a file are safe. -/
def safeV (fs : List Pf) (n : Int) : Nat := match getP fs n with | some f => f.safe | none => 0

theorem safe_c {B d m : Nat} {l : List Fl} {fu : Int} {st : Nat} {on : Bool} (n : Int) (hn : -9223372036854775808 ≤ n ∧ n ≤ 9223372036854775807) {W : World} (S : DkAt B d m l fu st on W) :
    Calls Try.prog 12 #[.pointer (some ⟨d, 0, none⟩), .int .i64 n] W fun e W' => e = .returned (.int .i64 (safeV (l.map Fl.pf) n : Nat)) ∧ W' = W := by
  obtain ⟨c0, -, -, -, -, -, -, hl⟩ := S.cells
  have LK := look_run S.map n hn
  unfold safeV
  rw [getL_view]
  unfold atV at LK
  cases hg : getL l n with
  | none =>
    rw [hg] at LK
    simp only [Option.map_none] at LK ⊢
    clear S
    go_enter Try.func12, Try.ntmps12
    go_wp2_with fail
    go_ret
    exact ⟨rfl, rfl⟩
  | some f =>
    rw [hg] at LK
    have hm := getL_mem hg
    have F := S.fl f hm.1
    have c4 : W.cell? ⟨f.p, 1, none⟩ = some (.int .i64 (f.safe : Int)) := F.hd.cell 1
    have l4 := F.hd.lt
    simp only [Option.map_some] at LK ⊢
    rw [show (Fl.pf f).safe = f.safe from rfl]
    obtain ⟨z, hz⟩ : ∃ z, f.safe = z := ⟨_, rfl⟩
    obtain ⟨q, hq⟩ : ∃ q, f.p = q := ⟨_, rfl⟩
    rw [hz] at c4 ⊢
    rw [hq] at c4 l4 LK
    clear S F hm hg hz hq
    go_enter Try.func12, Try.ntmps12
    go_wp2_with fail
    go_ret
    exact ⟨rfl, rfl⟩

/-- A row of bytes as a text. -/
theorem row_text {W : World} {B : Nat} {v : Value} {bs : List UInt8} (h : W.ownsRow B 5 1 v bs.length (bs.map bcell)) : (convert 56 9 v).run Try.prog W = .ok (.string ⟨bs.toArray⟩) W := by
  rcases h.2 with ⟨rfl, q⟩ | ⟨g, cap, cur, rfl, hb, hg, h1, h2, h3, h4⟩
  · have : bs = [] := List.eq_nil_of_length_eq_zero q
    subst this
    exact run_convert_bytes_nil W 56 5 Try.underlying56 Try.underlying5 0 0 9 Try.underlying9
  · have e : (⟨bs.toArray⟩ : ByteArray) = strOfNums (bs.map fun b => (b.toNat : Int)) := by
      unfold strOfNums
      congr 2
      rw [List.map_map]
      exact (List.map_id'' (fun b => by simp) bs).symm
    rw [e]
    refine run_convert_bytes_arg W 56 5 Try.underlying56 Try.underlying5 g 0 bs.length cap _ (by simp) (fun i hi => ?_) 9 Try.underlying9
    rw [Nat.zero_add, World.ownsRow.cellAt h i (by omega)]
    simp [hi, bcell]

/-- What Read answers. -/
def readV (s : DS) (n : Int) : List UInt8 := if reachV s n ≠ 0 then [] else match getP s.fs n with | some f => f.bs | none => []
def readB (s : DS) (n : Int) : Bool := if reachV s n ≠ 0 then false else (getP s.fs n).isSome

theorem read_c {B d m : Nat} {l : List Fl} (s : DS) (n : Int) {W : World} (S : DkAt B d m l s.fuse s.steps s.on W) (hv : l.map Fl.pf = s.fs) :
    Calls Try.prog 10 #[.pointer (some ⟨d, 0, none⟩), .int .i64 n] W fun e W' => e = .returned (.tuple #[.string ⟨(readV s n).toArray⟩, .bool (readB s n)]) ∧ W' = W := by
  have FC := hide (find_c s n S)
  unfold readV readB
  rw [← hv, getL_view]
  unfold findV findE at FC
  by_cases h : reachV s n = 0
  · rw [if_neg (by omega), if_neg (by omega)] at FC
    rw [if_neg (by omega), if_neg (by omega)]
    cases hg : getL l n with
    | none =>
      unfold atV at FC
      rw [hg] at FC
      simp only [Option.map_none, Option.isSome_none] at FC ⊢
      clear S hv h hg
      go_enter Try.func10, Try.ntmps10
      go_wp2_with fail
      refine FC.out.mono ?_
      rintro e w1 ⟨rfl, rfl⟩
      clear FC
      go_wp2_with fail
      go_ret2
      exact ⟨rfl, rfl⟩
    | some f =>
      unfold atV at FC
      rw [hg] at FC
      simp only [Option.map_some, Option.isSome_some] at FC ⊢
      have F := S.fl f (getL_mem hg).1
      have c4 : W.cell? ⟨f.p, 0, none⟩ = some f.v := F.hd.cell 0
      have l4 := F.hd.lt
      have cv := row_text F.row
      rw [show (Fl.pf f).bs = f.bs from rfl]
      obtain ⟨q, hq⟩ : ∃ q, f.p = q := ⟨_, rfl⟩
      obtain ⟨v, hfv⟩ : ∃ v, f.v = v := ⟨_, rfl⟩
      obtain ⟨bs, hbs⟩ : ∃ bs, f.bs = bs := ⟨_, rfl⟩
      rw [hq] at c4 l4 FC
      rw [hfv] at c4 cv
      rw [hbs] at cv ⊢
      clear S F hv h hg hq hfv hbs
      go_enter Try.func10, Try.ntmps10
      go_wp2_with fail
      refine FC.out.mono ?_
      rintro e w1 ⟨rfl, rfl⟩
      clear FC
      go_wp2_with fail
      go_ret2
      exact ⟨rfl, rfl⟩
  · rw [if_pos h, if_pos h] at FC
    rw [if_pos h, if_pos h]
    generalize reachV s n = r at *
    have hb : (r != 0) = true := by simpa using h
    clear S hv
    go_enter Try.func10, Try.ntmps10
    go_wp2_with fail
    refine FC.out.mono ?_
    rintro e w1 ⟨rfl, rfl⟩
    clear FC
    go_wp2_with fail
    go_ret2
    exact ⟨rfl, rfl⟩

end Go.Proofs.Ytoppmpodiofhhaa
