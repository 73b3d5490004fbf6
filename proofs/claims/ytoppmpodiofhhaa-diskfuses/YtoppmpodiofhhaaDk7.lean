/-
  The calls over plain states; the law's example.
-/
import Derived.Test.YtoppmpodiofhhaaDk6
import Derived.Test.YtoppmpodiofhhaaDk4
import Derived.Test.YtoppmpodiofhhaaDk3b
namespace Go.Proofs.Ytoppmpodiofhhaa
open Go.ChangeShapes Go.WideShapes Go.ChangeAt Go.RowKit
set_option linter.unusedVariables false
set_option linter.unusedSimpArgs false

theorem cut_s {B d : Nat} (s : DS) {W : World} (S : DkS B d s W) :
    Calls Try.prog 20 #[.pointer (some ⟨d, 0, none⟩)] W fun e W' => Left B d (cutV s) (cutS s) W e W' := by
  obtain ⟨m, l, A, hv⟩ := S
  refine (cut_c s A).mono ?_
  rintro e W' ⟨rfl, h1, h2⟩
  refine ⟨rfl, ⟨m, l, h1, ?_⟩, h2⟩
  unfold cutS
  split <;> exact hv

theorem fuse_s {B d : Nat} (s : DS) (n : Int) (hn : -9223372036854775808 ≤ n ∧ n ≤ 9223372036854775807) {W : World} (S : DkS B d s W) :
    Calls Try.prog 13 #[.pointer (some ⟨d, 0, none⟩), .int .i64 n] W fun e W' => Left B d (fuV s) (fuS s n) W e W' := by
  obtain ⟨m, l, A, hv⟩ := S
  refine (fuse_c s n hn A).mono ?_
  rintro e W' ⟨rfl, h1, h2⟩
  refine ⟨rfl, ⟨m, l, h1, ?_⟩, h2⟩
  unfold fuS
  split <;> exact hv

theorem on_s {B d : Nat} {s : DS} {W : World} (S : DkS B d s W) : Calls Try.prog 11 #[.pointer (some ⟨d, 0, none⟩)] W fun e W' => e = .returned (.bool s.on) ∧ W' = W := by
  obtain ⟨m, l, A, hv⟩ := S
  exact on_c A

theorem steps_s {B d : Nat} {s : DS} {W : World} (S : DkS B d s W) : Calls Try.prog 16 #[.pointer (some ⟨d, 0, none⟩)] W fun e W' => e = .returned (.int .i64 (s.steps : Int)) ∧ W' = W := by
  obtain ⟨m, l, A, hv⟩ := S
  exact steps_c A

theorem safe_s {B d : Nat} {s : DS} (n : Int) (hn : -9223372036854775808 ≤ n ∧ n ≤ 9223372036854775807) {W : World} (S : DkS B d s W) :
    Calls Try.prog 12 #[.pointer (some ⟨d, 0, none⟩), .int .i64 n] W fun e W' => e = .returned (.int .i64 (safeV s.fs n : Nat)) ∧ W' = W := by
  obtain ⟨m, l, A, hv⟩ := S
  rw [← hv]
  exact safe_c n hn A

theorem read_s {B d : Nat} (s : DS) (n : Int) {W : World} (S : DkS B d s W) :
    Calls Try.prog 10 #[.pointer (some ⟨d, 0, none⟩), .int .i64 n] W fun e W' => e = .returned (.tuple #[.string ⟨(readV s n).toArray⟩, .bool (readB s n)]) ∧ W' = W := by
  obtain ⟨m, l, A, hv⟩ := S
  exact read_c s n A hv

/-- Numbers that lie in a block of the law's own. -/
theorem pk_new {B : Nat} {W W' : World} {b : Nat} {x : Int} (h : Blk W b #[.int .i64 x] 3) (hx : -9223372036854775808 ≤ x ∧ x ≤ 9223372036854775807) (k : Ch (Mine B W) W W') : PkAt W' (some ⟨b, 0, none⟩) [x] := by
  have h2 := k.far h ⟨by decide, by decide, by decide⟩
  refine ⟨Or.inr ⟨b, 0, rfl, fun i hi => ?_⟩, fun i hi => ?_, by simp⟩
  · obtain rfl : i = 0 := by simp at hi; exact hi
    exact h2.cell 0
  · obtain rfl : i = 0 := by simp at hi; exact hi
    exact hx

set_option maxHeartbeats 1000000 in
theorem dawake_c (w : World) : Calls Try.prog 6 #[] w fun e w' => e = .returned (.bool true) ∧ Below w.heap.size w w' := by
  have NW := hide (new_s (Nat.le_refl w.heap.size))
  have AP := hide (fun (d : Nat) (W : World) (hW : Below w.heap.size w W) (S : DkS w.heap.size d ⟨[], 0, 0, true⟩ W) => show Calls Try.prog 19 #[.pointer (some ⟨d, 0, none⟩), .int .i64 1, .string { data := #[97, 98, 99] }] W fun e W' => Left w.heap.size d 0 ⟨[⟨1, [97, 98, 99], 0⟩], 0, 1, true⟩ W e W' from append_s ⟨[], 0, 0, true⟩ 1 { data := #[97, 98, 99] } (by decide) hW.size S)
  have CU := hide (fun (d : Nat) (W : World) (S : DkS w.heap.size d ⟨[⟨1, [97, 98, 99], 0⟩], 0, 1, true⟩ W) => show Calls Try.prog 20 #[.pointer (some ⟨d, 0, none⟩)] W fun e W' => Left w.heap.size d 0 ⟨[⟨1, [97, 98, 99], 0⟩], 0, 1, false⟩ W e W' from cut_s ⟨[⟨1, [97, 98, 99], 0⟩], 0, 1, true⟩ S)
  have ST := hide (fun (d b : Nat) (W : World) (hW : Below w.heap.size w W) (hb : Blk W b #[.int .i64 2] 3) (S : DkS w.heap.size d ⟨[⟨1, [97, 98, 99], 0⟩], 0, 1, false⟩ W) => show Calls Try.prog 21 #[.pointer (some ⟨d, 0, none⟩), .slice (some ⟨b, 0, none⟩) 1 1] W fun e W' => Left w.heap.size d 0 ⟨[⟨1, [97, 98], 2⟩], 0, 1, true⟩ W e W' from start_s ⟨[⟨1, [97, 98, 99], 0⟩], 0, 1, false⟩ (xs := [2]) 1 hW.size (fun W' k => pk_new hb (by decide) k) S)
  have RD := hide (fun (d : Nat) (W : World) (S : DkS w.heap.size d ⟨[⟨1, [97, 98], 2⟩], 0, 1, true⟩ W) => show Calls Try.prog 10 #[.pointer (some ⟨d, 0, none⟩), .int .i64 1] W fun e W' => e = .returned (.tuple #[.string { data := #[97, 98] }, .bool true]) ∧ W' = W from read_s ⟨[⟨1, [97, 98], 2⟩], 0, 1, true⟩ 1 S)
  go_enter Try.func6, Try.ntmps6
  go_wp2_with fail
  refine NW.out.mono ?_
  rintro e w1 ⟨d, rfl, hS, hb⟩
  have S1 := hide hS
  have B1 := hide hb
  clear hS hb NW
  go_wp2_with fail
  refine (AP.out d _ B1.out S1.out).mono ?_
  rintro e w2 ⟨rfl, hS, hk⟩
  have S2 := hide hS
  have B2 := hide (Ch.bel B1.out hk (Nat.le_refl _))
  clear hS hk AP S1 B1
  go_wp2_with fail
  refine (CU.out d _ S2.out).mono ?_
  rintro e w3 ⟨rfl, hS, hk⟩
  have S3 := hide (hS.below ((Below.refl _ _).alloc (Nat.le_refl _) (.cells #[.int .i64 2] 3)))
  have B3 := hide ((Ch.bel B2.out hk (Nat.le_refl _)).alloc (Nat.le_trans (Ch.bel B2.out hk (Nat.le_refl _)).size (Nat.le_refl _)) (.cells #[.int .i64 2] 3))
  have N3 := hide (Blk.new w3 #[.int .i64 2] 3)
  clear hS hk CU S2 B2
  go_wp2_with fail
  refine (ST.out d _ _ B3.out N3.out S3.out).mono ?_
  rintro e w4 ⟨rfl, hS, hk⟩
  have S4 := hide hS
  have B4 := hide (Ch.bel B3.out hk (Nat.le_refl _))
  clear hS hk ST S3 B3 N3
  go_wp2_with fail
  refine (RD.out d _ S4.out).mono ?_
  rintro e w5 ⟨rfl, rfl⟩
  clear RD S4
  go_wp2_with fail
  go_ret
  exact ⟨rfl, B4.out⟩

end Go.Proofs.Ytoppmpodiofhhaa
