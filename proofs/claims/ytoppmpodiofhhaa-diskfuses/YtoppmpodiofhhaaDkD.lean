/-
  Does: a call on a disk, by its kind.
-/
import Derived.Test.YtoppmpodiofhhaaDkC
namespace Go.Proofs.Ytoppmpodiofhhaa
open Go.ChangeShapes Go.WideShapes Go.ChangeAt Go.RowKit
set_option linter.unusedVariables false
set_option linter.unusedSimpArgs false

def actV (s : DS) (K A N : Int) (t : List UInt8) (xs : List Int) : Int :=
  if K = 1 then apV s A t else if K = 2 then chV s A okB else if K = 3 then chV s A (trB N) else if K = 4 then chV s A okB else if K = 5 then fuV s else if K = 6 then cutV s else if K = 7 then stV s else 0
def actS (s : DS) (K A N : Int) (t : List UInt8) (xs : List Int) : DS :=
  if K = 1 then apS s A t else if K = 2 then chS s A okB (syF A) else if K = 3 then chS s A (trB N) (trF A N) else if K = 4 then chS s A okB (rmF A) else if K = 5 then fuS s N else if K = 6 then cutS s else if K = 7 then stS s xs else s

theorem Left.box {B d : Nat} {v : Int} {s : DS} {W Wa : World} (k : Below W.heap.size W Wa) {e : Ending} {W' : World} (h : Left B d v s Wa e W') : Left B d v s W e W' := ⟨h.1, h.2.1, (Ch.below k).next h.2.2⟩

set_option maxHeartbeats 1000000 in
theorem does_s {B d : Nat} (s : DS) (K A N : Int) (t : ByteArray) {x : Option Addr} {xs : List Int} (cap : Nat) (hN : -9223372036854775808 ≤ N ∧ N ≤ 9223372036854775807) (hst : s.steps < 1000000000) {W : World} (hB : B ≤ W.heap.size)
    (PK : ∀ W', Ch (Mine B W) W W' → PkAt W' x xs) (S : DkS B d s W) :
    Calls Try.prog 9 #[.pointer (some ⟨d, 0, none⟩), .agg #[.int .i64 K, .int .i64 A, .int .i64 N, .string t, .slice x xs.length cap]] W fun e W' => Left B d (actV s K A N t.data.toList xs) (actS s K A N t.data.toList xs) W e W' := by
  have bl : Below W.heap.size W (W.alloc (.cells #[.int .i64 K, .int .i64 A, .int .i64 N, .string t, .slice x xs.length cap] 28)) := by repeat (first | with_reducible exact Below.refl _ _ | with_reducible refine Below.drew ?_ | with_reducible refine Below.alloc ?_ (by first | omega | (simp <;> omega)) _ | with_reducible refine Below.setCell ?_ (by first | omega | (simp <;> omega)) _)
  have Sa := S.below bl
  have BL := hide bl
  have hBa : B ≤ (W.alloc (.cells #[.int .i64 K, .int .i64 A, .int .i64 N, .string t, .slice x xs.length cap] 28)).heap.size := Nat.le_trans hB bl.size
  have PKa : ∀ W', Ch (Mine B (W.alloc (.cells #[.int .i64 K, .int .i64 A, .int .i64 N, .string t, .slice x xs.length cap] 28))) (W.alloc (.cells #[.int .i64 K, .int .i64 A, .int .i64 N, .string t, .slice x xs.length cap] 28)) W' → PkAt W' x xs := fun W' k => PK W' ((Ch.below bl).next k)
  unfold actV actS
  by_cases h1 : K = 1
  · subst h1
    have C := hide (append_s s A t hst hBa Sa)
    clear bl Sa hBa PKa PK S hst hN
    go_enter Try.func9, Try.ntmps9
    go_wp2_with fail
    refine C.out.mono ?_
    intro e W' hh
    have L := hide (Left.box BL.out hh)
    obtain ⟨rfl, -⟩ := hh
    clear C
    go_wp2_with fail
    go_ret
    exact L.out
  by_cases h2 : K = 2
  · subst h2
    have C := hide (sync_s s A hst Sa)
    clear bl Sa hBa PKa PK S hst hN h1
    go_enter Try.func9, Try.ntmps9
    go_wp2_with fail
    refine C.out.mono ?_
    intro e W' hh
    have L := hide (Left.box BL.out hh)
    obtain ⟨rfl, -⟩ := hh
    clear C
    go_wp2_with fail
    go_ret
    exact L.out
  by_cases h3 : K = 3
  · subst h3
    have C := hide (trim_s s A N hst hBa Sa)
    clear bl Sa hBa PKa PK S hst hN h1 h2
    go_enter Try.func9, Try.ntmps9
    go_wp2_with fail
    refine C.out.mono ?_
    intro e W' hh
    have L := hide (Left.box BL.out hh)
    obtain ⟨rfl, -⟩ := hh
    clear C
    go_wp2_with fail
    go_ret
    exact L.out
  by_cases h4 : K = 4
  · subst h4
    have C := hide (remove_s s A hst Sa)
    clear bl Sa hBa PKa PK S hst hN h1 h2 h3
    go_enter Try.func9, Try.ntmps9
    go_wp2_with fail
    refine C.out.mono ?_
    intro e W' hh
    have L := hide (Left.box BL.out hh)
    obtain ⟨rfl, -⟩ := hh
    clear C
    go_wp2_with fail
    go_ret
    exact L.out
  by_cases h5 : K = 5
  · subst h5
    have C := hide (fuse_s s N hN Sa)
    clear bl Sa hBa PKa PK S hst hN h1 h2 h3 h4
    go_enter Try.func9, Try.ntmps9
    go_wp2_with fail
    refine C.out.mono ?_
    intro e W' hh
    have L := hide (Left.box BL.out hh)
    obtain ⟨rfl, -⟩ := hh
    clear C
    go_wp2_with fail
    go_ret
    exact L.out
  by_cases h6 : K = 6
  · subst h6
    have C := hide (cut_s s Sa)
    clear bl Sa hBa PKa PK S hst hN h1 h2 h3 h4 h5
    go_enter Try.func9, Try.ntmps9
    go_wp2_with fail
    refine C.out.mono ?_
    intro e W' hh
    have L := hide (Left.box BL.out hh)
    obtain ⟨rfl, -⟩ := hh
    clear C
    go_wp2_with fail
    go_ret
    exact L.out
  by_cases h7 : K = 7
  · subst h7
    have C := hide (start_s s cap hBa PKa Sa)
    clear bl Sa hBa PKa PK S hst hN h1 h2 h3 h4 h5 h6
    go_enter Try.func9, Try.ntmps9
    go_wp2_with fail
    refine C.out.mono ?_
    intro e W' hh
    have L := hide (Left.box BL.out hh)
    obtain ⟨rfl, -⟩ := hh
    clear C
    go_wp2_with fail
    go_ret
    exact L.out
  have e1 : (K == 1) = false := by simpa using h1
  have e2 : (K == 2) = false := by simpa using h2
  have e3 : (K == 3) = false := by simpa using h3
  have e4 : (K == 4) = false := by simpa using h4
  have e5 : (K == 5) = false := by simpa using h5
  have e6 : (K == 6) = false := by simpa using h6
  have e7 : (K == 7) = false := by simpa using h7
  rw [if_neg h1, if_neg h2, if_neg h3, if_neg h4, if_neg h5, if_neg h6, if_neg h7, if_neg h1, if_neg h2, if_neg h3, if_neg h4, if_neg h5, if_neg h6, if_neg h7]
  have C := hide (show Left B d 0 s W (.returned (.int .i64 0)) (W.alloc (.cells #[.int .i64 K, .int .i64 A, .int .i64 N, .string t, .slice x xs.length cap] 28)) from ⟨rfl, Sa, Ch.below bl⟩)
  clear bl Sa hBa PKa PK S hst hN h1 h2 h3 h4 h5 h6 h7 BL
  go_enter Try.func9, Try.ntmps9
  go_wp2_with fail
  go_ret
  exact C.out

/-! ### plain facts -/
theorem stepS_steps (s : DS) : (stepS s).steps ≤ s.steps + 1 := by unfold stepS; split <;> exact Nat.le_refl _

theorem actS_steps (s : DS) (K A N : Int) (t : List UInt8) (xs : List Int) : (actS s K A N t xs).steps ≤ s.steps + 1 := by
  have a : (apS s A t).steps ≤ s.steps + 1 := by
    unfold apS
    split
    · omega
    · split
      · split
        · omega
        · exact stepS_steps _
      · split
        · omega
        · split
          · omega
          · exact stepS_steps _
  have c : ∀ (n : Int) (b : Pf → Bool) (u : List Pf → List Pf), (chS s n b u).steps ≤ s.steps + 1 := by
    intro n b u
    unfold chS
    split
    · omega
    · split
      · omega
      · split
        · omega
        · split
          · exact stepS_steps _
          · exact stepS_steps _
  have f : (fuS s N).steps ≤ s.steps + 1 := by unfold fuS; split <;> simp
  have k : (cutS s).steps ≤ s.steps + 1 := by unfold cutS; split <;> simp
  have g : (stS s xs).steps ≤ s.steps + 1 := by unfold stS; split <;> simp
  unfold actS
  repeat' split
  all_goals first | exact a | exact c _ _ _ | exact f | exact k | exact g | omega

/-- What was safe of a file is there still. -/
def KInv (fs : List Pf) (n : Int) (sf : List UInt8) : Prop := match getP fs n with | none => sf = [] | some f => sf <+: f.bs.take f.safe

theorem KInv.more {fs gs : List Pf} {n : Int} {sf : List UInt8} (h : KInv fs n sf) (k : match getP fs n with | none => ∀ g, getP gs n = some g → g.safe = 0 | some f => ∃ g, getP gs n = some g ∧ f.bs.take f.safe <+: g.bs.take g.safe) : KInv gs n sf := by
  unfold KInv at h ⊢
  cases hf : getP fs n with
  | none =>
    rw [hf] at h k
    simp only at h k
    subst h
    cases getP gs n with
    | none => rfl
    | some g => exact List.nil_prefix
  | some f =>
    rw [hf] at h k
    simp only at h k
    obtain ⟨g, hg, hp⟩ := k
    rw [hg]
    exact h.trans hp

theorem KInv.set {fs : List Pf} {n m : Int} {sf : List UInt8} (h : KInv fs n sf) {u : Pf → Pf} (hu : ∀ f, (u f).no = f.no) (k : m = n → ∀ f, f ∈ fs → f.bs.take f.safe <+: (u f).bs.take (u f).safe) : KInv (setP fs m u) n sf := by
  refine h.more ?_
  cases hf : getP fs n with
  | none =>
    simp only
    intro g hg
    rw [getP_setP _ _ _ _ hu, hf] at hg
    cases hg
  | some f =>
    simp only
    rw [getP_setP _ _ _ _ hu, hf]
    refine ⟨_, rfl, ?_⟩
    show f.bs.take f.safe <+: (if f.no = m then u f else f).bs.take (if f.no = m then u f else f).safe
    by_cases e : f.no = m
    · rw [if_pos e]
      have := getP_mem hf
      exact k (by omega) f this.1
    · rw [if_neg e]; exact List.prefix_refl _

theorem keeps_inv {s : DS} {K A N : Int} {t : List UInt8} {xs : List Int} {n : Int} {sf : List UInt8} (hok : ∀ f, f ∈ s.fs → f.safe ≤ f.bs.length) (hgo : ¬ ((K = 3 ∨ K = 4) ∧ A = n)) (h : KInv s.fs n sf) : KInv (actS s K A N t xs).fs n sf := by
  have ch : ∀ (b : Pf → Bool) (u : List Pf → List Pf), KInv (u s.fs) n sf → KInv (chS s A b u).fs n sf := by
    intro b u hu
    unfold chS
    split
    · exact h
    · split
      · exact h
      · split
        · exact h
        · split
          · rw [stepS_fs]; exact h
          · exact hu
  unfold actS
  by_cases h1 : K = 1
  · rw [if_pos h1]
    have hap : KInv (apF s A t) n sf := by
      unfold apF
      cases hg : getP s.fs A with
      | some f0 =>
        simp only
        refine h.set (fun _ => rfl) (fun _ f hf => ?_)
        have := hok f hf
        show f.bs.take f.safe <+: (f.bs ++ t).take f.safe
        rw [List.take_append_of_le_length this]
        exact List.prefix_refl _
      | none =>
        simp only
        have hno : ∀ f, f ∈ s.fs → f.no ≠ A := by
          intro f hf e
          have := List.find?_eq_none.1 hg f hf
          simp [e] at this
        refine h.more ?_
        have q := getP_insP ⟨A, t, 0⟩ n s.fs hno
        by_cases e : A = n
        · subst e
          rw [hg]
          simp only
          intro g hg2
          rw [q] at hg2
          simp at hg2
          rw [← hg2]
        · rw [if_neg e] at q
          cases hf : getP s.fs n with
          | none =>
            simp only
            intro g hg2
            rw [q, hf] at hg2
            cases hg2
          | some f =>
            simp only
            rw [q, hf]
            exact ⟨f, rfl, List.prefix_refl _⟩
    unfold apS
    split
    · exact h
    · split
      · split
        · exact h
        · rw [stepS_fs]; exact hap
      · split
        · exact h
        · split
          · exact h
          · rw [stepS_fs]; exact hap
  rw [if_neg h1]
  by_cases h2 : K = 2
  · rw [if_pos h2]
    refine ch _ _ (h.set (fun _ => rfl) (fun _ f hf => ?_))
    exact List.take_prefix_take_left (hok f hf)
  rw [if_neg h2]
  by_cases h3 : K = 3
  · rw [if_pos h3]
    refine ch _ _ (h.set (fun _ => rfl) (fun e f hf => ?_))
    exact absurd ⟨Or.inl h3, e⟩ hgo
  rw [if_neg h3]
  by_cases h4 : K = 4
  · rw [if_pos h4]
    refine ch _ _ ?_
    have hne : n ≠ A := fun e => hgo ⟨Or.inr h4, e.symm⟩
    refine h.more ?_
    have q := getP_delP s.fs A n hne
    cases hf : getP s.fs n with
    | none =>
      simp only
      intro g hg
      unfold rmF at hg
      rw [q, hf] at hg
      cases hg
    | some f =>
      simp only
      unfold rmF
      rw [q, hf]
      exact ⟨f, rfl, List.prefix_refl _⟩
  rw [if_neg h4]
  by_cases h5 : K = 5
  · rw [if_pos h5]
    unfold fuS
    split <;> exact h
  rw [if_neg h5]
  by_cases h6 : K = 6
  · rw [if_pos h6]
    unfold cutS
    split <;> exact h
  rw [if_neg h6]
  by_cases h7 : K = 7
  · rw [if_pos h7]
    unfold stS
    split
    · exact h
    · refine h.more ?_
      have q := getP_startP xs n s.fs 0 hok
      cases hf : getP s.fs n with
      | none =>
        rw [hf] at q
        simp only at q ⊢
        intro g hg
        rw [q] at hg
        cases hg
      | some f =>
        rw [hf] at q
        exact q
  rw [if_neg h7]
  exact h

end Go.Proofs.Ytoppmpodiofhhaa
