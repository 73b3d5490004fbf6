/-
  Sync, Trim, Remove.
-/
import Derived.Test.YtoppmpodiofhhaaDk2
namespace Go.Proofs.Ytoppmpodiofhhaa
open Go.ChangeShapes Go.WideShapes Go.ChangeAt Go.RowKit
set_option linter.unusedVariables false
set_option linter.unusedSimpArgs false

theorem file_safe {B d m : Nat} {l : List Fl} {fu : Int} {st : Nat} {on : Bool} {W : World} (A : DkAt B d m l fu st on W) {f : Fl} (hf : f ∈ l) {z : Nat} (hz : z ≤ f.bs.length) :
    DkAt B d m (setL l f.no (fun g => ⟨g.no, g.p, g.v, g.bs, z⟩)) fu st on (W.setCell ⟨f.p, 1, none⟩ (.int .i64 (z : Int))) ∧ Ch (Mine B W) W (W.setCell ⟨f.p, 1, none⟩ (.int .i64 (z : Int))) := by
  have F := A.fl f hf
  have c0 := Ch.cell W f.p 1 (.int .i64 (z : Int))
  have c : Ch (fun b => b = f.p ∨ some b = f.v.ownBlock) W (W.setCell ⟨f.p, 1, none⟩ (.int .i64 (z : Int))) := c0.mono (fun b _ e => Or.inl e)
  refine ⟨A.file hf (fun _ => rfl) (fun _ => rfl) c ⟨F.hd.put 1 _, ?_, F.lo, F.no1, F.no2, hz, F.len⟩ (fun b hb _ => hb), A.mineFile hf c⟩
  exact c0.row F.row (fun b hb e => by subst e; exact blk_row_ne F.hd F.row (by decide) hb)

theorem trim_at {B d m : Nat} {l : List Fl} {fu : Int} {st : Nat} {on : Bool} {W W' : World} (A : DkAt B d m l fu st on W) {f : Fl} (hf : f ∈ l) {z : Nat} (T : TrimPost B f z W W') :
    ∃ v', DkAt B d m (setL l f.no (fun g => ⟨g.no, g.p, v', g.bs.take z, min g.safe z⟩)) fu st on W' ∧ Ch (Mine B W) W W' := by
  obtain ⟨v', F', c0, loc⟩ := T
  have c : Ch (fun b => b = f.p ∨ some b = f.v.ownBlock) W W' := c0.mono (fun b _ e => Or.inl e)
  exact ⟨v', A.file hf (fun _ => rfl) (fun _ => rfl) c F' (fun b hb hl => by have := loc b hb; omega), A.mineFile hf c⟩

theorem setL_is {l : List Fl} (h : l.Pairwise Lies) {f : Fl} (hf : f ∈ l) {u : Fl → Fl} {x : Pf → Pf} (e : (u f).pf = x f.pf) : (setL l f.no u).map Fl.pf = setP (l.map Fl.pf) f.no x :=
  setL_view l f.no u x (fun g hg hn => by rw [lies_one h hg hf hn]; exact e)

/-- What a call on a disk leaves. -/
def Left (B d : Nat) (v : Int) (s : DS) (W : World) (e : Ending) (W' : World) : Prop := e = .returned (.int .i64 v) ∧ DkS B d s W' ∧ Ch (Mine B W) W W'

theorem len_val {W : World} {B n : Nat} {v : Value} {xs : List Value} (h : W.ownsRow B 5 1 v n xs) (ty : TypeId) : (Builtin.len_ #[56] ty #[v]).run Try.prog W = .ok (.int .i64 (n : Int)) W := by
  rcases h.2 with ⟨rfl, rfl⟩ | ⟨g, cap, cur, rfl, _⟩
  · simp [Builtin.len_, run_underlying Try.underlying56, goInt, Result.andThen, Builtin.lenOf]
  · simp [Builtin.len_, run_underlying Try.underlying56, goInt, Result.andThen, Builtin.lenOf]

set_option maxHeartbeats 1000000 in
theorem sync_s {B d : Nat} (s : DS) (n : Int) (hst : s.steps < 1000000000) {W : World} (S : DkS B d s W) :
    Calls Try.prog 22 #[.pointer (some ⟨d, 0, none⟩), .int .i64 n] W fun e W' => Left B d (chV s n okB) (chS s n okB (syF n)) W e W' := by
  obtain ⟨m, l, A, hv⟩ := S
  have FC := hide (find_c s n A)
  have AH := hide A
  have VH := hide hv
  unfold findV findE atV at FC
  unfold Left chV chS
  by_cases h : reachV s n = 0
  · rw [if_neg (by omega), if_neg (by omega)] at FC
    rw [if_neg (by omega), if_neg (by omega), ← hv, getL_view]
    cases hg : getL l n with
    | none =>
      rw [hg] at FC
      simp only [Option.map_none] at FC ⊢
      clear A hv h hg
      go_enter Try.func22, Try.ntmps22
      go_wp2_with fail
      refine FC.out.mono ?_
      rintro e w1 ⟨rfl, rfl⟩
      clear FC
      go_wp2_with fail
      go_ret
      exact ⟨rfl, ⟨m, l, AH.out, VH.out⟩, Ch.refl _ _⟩
    | some f =>
      rw [hg] at FC
      simp only [Option.map_some, okB, Bool.false_eq_true, if_false] at FC ⊢
      obtain ⟨hm, hn⟩ := getL_mem hg
      have SC := hide (step_c s hst A)
      have FSF := hide (fun (W1 : World) (A1 : DkAt B d m l (stepS s).fuse (stepS s).steps (stepS s).on W1) => file_safe A1 hm (Nat.le_refl f.bs.length))
      have FL := hide (fun (W1 : World) (A1 : DkAt B d m l (stepS s).fuse (stepS s).steps (stepS s).on W1) => A1.fl f hm)
      have VV := hide (setL_is A.lies hm (u := fun g => ⟨g.no, g.p, g.v, g.bs, f.bs.length⟩) (x := fun g => ⟨g.no, g.bs, g.bs.length⟩) rfl)
      rw [hn] at VV FSF
      unfold stepV at SC ⊢
      have e1 : (stepS s).fs = s.fs := by unfold stepS; split <;> rfl
      by_cases hf : s.fuse = 1
      · rw [if_pos hf] at SC
        rw [if_pos hf, if_pos hf]
        clear A hv h hg hm hn hf FSF FL VV hst
        go_enter Try.func22, Try.ntmps22
        go_wp2_with fail
        refine FC.out.mono ?_
        rintro e w1 ⟨rfl, rfl⟩
        clear FC
        go_wp2_with fail
        refine SC.out.mono ?_
        rintro e w2 ⟨rfl, hS, hk⟩
        have S2 := hide hS
        have K2 := hide hk
        have E1 := hide e1
        clear hS hk SC e1
        go_wp2_with fail
        go_ret
        exact ⟨rfl, ⟨m, l, S2.out, VH.out.trans E1.out.symm⟩, K2.out⟩
      · rw [if_neg hf] at SC
        rw [if_neg hf, if_neg hf]
        clear A hv h hg hm hn hf hst
        go_enter Try.func22, Try.ntmps22
        go_wp2_with fail
        refine FC.out.mono ?_
        rintro e w1 ⟨rfl, rfl⟩
        clear FC
        go_wp2_with fail
        refine SC.out.mono ?_
        rintro e w2 ⟨rfl, hS, hk⟩
        obtain ⟨hA, hC⟩ := FSF.out w2 hS
        have F2 := FL.out w2 hS
        have c0 : w2.cell? ⟨f.p, 0, none⟩ = some f.v := F2.hd.cell 0
        have c1 : w2.cell? ⟨f.p, 1, none⟩ = some (.int .i64 (f.safe : Int)) := F2.hd.cell 1
        have f1 := F2.hd.frozen 1
        have hl := F2.hd.lt
        have LV := len_val F2.row
        have S2 := hide hA
        have K2 := hide (hk.next hC)
        clear hS hk SC e1 FSF FL hA hC F2
        obtain ⟨p, hp⟩ : ∃ p, f.p = p := ⟨_, rfl⟩
        obtain ⟨v, hfv⟩ : ∃ v, f.v = v := ⟨_, rfl⟩
        obtain ⟨k, hk⟩ : ∃ k : Int, (f.bs.length : Int) = k := ⟨_, rfl⟩
        obtain ⟨z, hz⟩ : ∃ z : Int, (f.safe : Int) = z := ⟨_, rfl⟩
        rw [hp] at c0 c1 f1 hl S2 K2 ⊢
        rw [hfv] at c0 LV
        rw [hk] at LV S2 K2
        rw [hz] at c1
        clear hp hfv hk hz
        go_wp2_with fail
        go_ret
        exact ⟨rfl, ⟨m, _, S2.out, VV.out⟩, K2.out⟩
  · rw [if_pos h, if_pos h] at FC
    rw [if_pos h, if_pos h]
    generalize reachV s n = r at *
    have hb : (r != 0) = true := by simpa using h
    clear A hv
    go_enter Try.func22, Try.ntmps22
    go_wp2_with fail
    refine FC.out.mono ?_
    rintro e w1 ⟨rfl, rfl⟩
    clear FC
    go_wp2_with fail
    go_ret
    exact ⟨rfl, ⟨m, l, AH.out, VH.out⟩, Ch.refl _ _⟩

end Go.Proofs.Ytoppmpodiofhhaa
