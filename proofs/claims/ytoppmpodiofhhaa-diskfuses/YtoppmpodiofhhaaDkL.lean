/-
  List: the numbers of all files, rising.
-/
import Derived.Test.YtoppmpodiofhhaaDk1
import Derived.Test.YtoppmpodiofhhaaDkH
namespace Go.Proofs.Ytoppmpodiofhhaa
open Go.RowKit Go.Maps Go.Sort Go.Shelf
set_option linter.unusedVariables false
set_option linter.unusedSimpArgs false

/-- slices.Sort's two contracts at this program. -/
theorem sortsA (m : Nat) : AnyZI.SortsIn Try.prog Try.sortedA_ren Fence.wide m :=
  ⟨fun blk off cap ss W hH hblk hsz => callsIn_wide.2 (AnyM.slices_Sort_int Try.sortA blk off cap ss W hH hblk hsz),
   fun p cap W => callsIn_wide.2 (AnyM.slices_Sort_int_none Try.sortA p cap W)⟩

theorem sorted_nos {l : List Fl} (h : l.Pairwise Lies) {ss : List Int} (hp : ss.Perm (intKeys (mapL l))) : ss.mergeSort (fun x y => decide (x ≤ y)) = l.map Fl.no := by
  rw [mapL_keys] at hp
  have e := mergeSort_of_perm_i hp
  rw [show (fun x y : Int => decide (x ≤ y)) = leI from rfl, e]
  refine List.mergeSort_of_pairwise ?_
  rw [List.pairwise_map]
  exact h.imp (fun {f g} hR => by have := hR.1; simp only [leI, decide_eq_true_eq]; omega)

set_option maxHeartbeats 1000000 in
theorem list_c {B d m : Nat} {l : List Fl} {fu : Int} {st : Nat} {on : Bool} {W : World} (A : DkAt B d m l fu st on W) :
    Calls Try.prog 17 #[.pointer (some ⟨d, 0, none⟩)] W fun e W' => ∃ v, e = .returned v ∧ W'.ownsRow W.heap.size 3 1 v l.length (l.map fun f => .int .i64 f.no) ∧ Below W.heap.size W W' := by
  refine (callsIn_wide (n := 6)).1 ?_
  obtain ⟨c0, -, -, -, -, -, -, hl⟩ := A.cells
  have hown := A.map
  have LH := hide A.lies
  have hbl := hown.lt
  have ll := A.len
  have hmax : Maps.size (mapL l) ≤ maxLen := by rw [mapL_size]; unfold maxLen; omega
  have hbytes : Maps.size (mapL l) * 8 ≤ 140737488355328 := by rw [mapL_size]; omega
  have hseq : SeqGives Fence.wide 2 Try.prog 39 #[.pointer (some ⟨W.heap.size, 0, none⟩)] encZ (fun ss => ss.Perm (intKeys (mapL l))) (Maps.size (mapL l)) (W.alloc (.cells #[.map (some m)] 49)) :=
    AnyZI.keys_gives (ρ := Try.keysA_ren) { Try.keysA with } Fence.wide _ trivial rfl (by omega) W.heap.size m l.length (mapL l) _ (by simp) (by simp) (by
      obtain ⟨es, clock, hb, Ft, hs, hD⟩ := hown
      exact ⟨es, clock, (Below.heap_alloc _ _ m hbl).trans hb, Ft, hs, hD⟩)
  have cK : ∀ mb W, CallsIn Fence.wide 5 Try.prog 30 #[.map mb] W fun e w' => e = .returned (.func (.func 39) #[] #[.pointer (some ⟨W.heap.size, 0, none⟩)]) ∧ w' = W.alloc (.cells #[.map mb] 49) := fun mb W => AnyZI.keys_in Try.keysA Fence.wide 5 trivial rfl mb W
  have cS := AnyZI.sorted_in Try.sortedA Fence.wide 5 trivial trivial trivial trivial rfl (by omega) (sortsA _) (enters_of Try.func38 (by kernel_rfl) rfl) 39 #[.pointer (some ⟨W.heap.size, 0, none⟩)] trivial (enters_of Try.func39 (by kernel_rfl) rfl) _ _ hmax hbytes _ hseq
  change CallsIn _ _ Try.prog 29 _ _ _ at cS
  have hfK : Fence.wide.fn 30 := trivial
  have hfS : Fence.wide.fn 29 := trivial
  clear A hown hseq hmax hbytes
  refine callsIn_of_wp Try.func17 rfl trivial ?_ rfl
  simp only [Try.ntmps17, List.size_toArray, List.length_cons, List.length_nil, Nat.reduceAdd, Nat.reduceSub, Array.replicate_succ, Array.replicate_zero, List.push_toArray, List.append_toArray, List.nil_append, List.cons_append]
  gi_wp2_with (first
    | (gi_at_call 30; refine (cK _ _).mono ?_; rintro e w' ⟨rfl, rfl⟩)
    | (gi_at_call 29; refine cS.mono ?_; rintro e w' ⟨v, ss, rfl, hS, hrow, hnil, hb⟩))
  go_ret
  have e := sorted_nos LH.out hS
  rw [e] at hrow
  have e2 : ss.length = l.length := by
    have := hS.length_eq
    rw [mapL_keys, List.length_map] at this
    exact this
  rw [e2, List.map_map] at hrow
  exact ⟨v, rfl, ownsRow_base_a hrow (by simp), ((Below.refl _ W).alloc (Nat.le_refl _) _).trans (hb.mono (by simp))⟩

end Go.Proofs.Ytoppmpodiofhhaa
