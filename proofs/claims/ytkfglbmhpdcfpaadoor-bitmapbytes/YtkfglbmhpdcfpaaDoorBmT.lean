/-
  A map and the reference's map side by side: what a call on both answers, and what becomes of them.
-/
import Derived.Test.YtkfglbmhpdcfpaaDoorBmC
import Derived.Deep.RegionHeld
namespace Go.Proofs.YtkfglbmhpdcfpaaDoor
open Go.ChangeShapes Go.WideShapes Go.ChangeAt Go.RowKit
set_option linter.unusedVariables false
set_option linter.unusedSimpArgs false

/-- A map with bits f and the reference's with r, both of the law's own. -/
structure St2 (w : World) (a g b h n : Nat) (f r : Nat → Bool) (W : World) : Prop where
  m : MapB W a g n f
  r : RefAt W b h n r
  bel : Below w.heap.size w W
  g0 : w.heap.size ≤ g
  h0 : w.heap.size ≤ h

theorem St2.quiet {w W W' : World} {a g b h n : Nat} {f r : Nat → Bool} (S : St2 w a g b h n f r W) (k : Below W.heap.size W W') : St2 w a g b h n f r W' :=
  ⟨S.m.below k, S.r.below k, next_bel S.bel k, S.g0, S.h0⟩

theorem St2.turnM {w W W' : World} {a g b h n : Nat} {f r f' : Nat → Bool} (S : St2 w a g b h n f r W) (m' : MapB W' a g n f') (k : But [g] W.heap.size W W') : St2 w a g b h n f' r W' := by
  have n1 := (S.m.neOf S.r.head (by decide) (by decide)).2
  have n2 := (S.m.neOf S.r.row (by decide) (by decide)).2
  exact ⟨m', S.r.blks (k.block b S.r.head.lt (by simpa using n1.symm)) (k.block h S.r.row.lt (by simpa using n2.symm)), k.to S.bel S.g0 S.bel.size, S.g0, S.h0⟩

theorem St2.turnR {w W W' : World} {a g b h n : Nat} {f r r' : Nat → Bool} (S : St2 w a g b h n f r W) (m' : RefAt W' b h n r') (k : But [h] W.heap.size W W') : St2 w a g b h n f r' W' := by
  have n2 := S.m.neOf S.r.row (by decide) (by decide)
  have l := S.m.lt
  exact ⟨S.m.but k l.1 l.2.1 (by simpa using n2.1) (by simpa using n2.2), m', k.to S.bel S.h0 S.bel.size, S.g0, S.h0⟩

theorem But.put (h i : Nat) (v : Value) (W : World) : But [h] W.heap.size W (W.setCell ⟨h, i, none⟩ v) :=
  ⟨rfl, rfl, rfl, by simp, fun k _ hn => Deep.blk_setCell_other _ ⟨h, i, none⟩ _ k (by simpa using hn)⟩

theorem But.box {L : List Nat} {W W' : World} {bx : Nat} {cs : Array Value} {t : TypeId} (k : But L W.heap.size W W') (h : Blk W bx cs t) (hn : bx ∉ L) : Blk W' bx cs t := k.blk h h.lt hn

/-- What Put answers, and leaves; Drop. -/
def putV (n : Nat) (f : Nat → Bool) (i : Int) : Int := if 0 ≤ i ∧ i < n then (if f i.toNat then 14 else 0) else 1
def putF (n : Nat) (f : Nat → Bool) (i : Int) : Nat → Bool := if 0 ≤ i ∧ i < n then upd f i.toNat true else f
def dropV (n : Nat) (f : Nat → Bool) (i : Int) : Int := if 0 ≤ i ∧ i < n then (if f i.toNat then 0 else 7) else 1
def dropF (n : Nat) (f : Nat → Bool) (i : Int) : Nat → Bool := if 0 ≤ i ∧ i < n then upd f i.toNat false else f

theorem put_any (a g n : Nat) (f : Nat → Bool) (i : Int) (W : World) (H : MapB W a g n f) : Calls Tryd.prog 33 #[.pointer (some ⟨a, 0, none⟩), .int .i64 i] W fun e W' => e = .returned (.int .i64 (putV n f i)) ∧ MapB W' a g n (putF n f i) ∧ But [g] W.heap.size W W' := by
  unfold putV putF
  by_cases hi : 0 ≤ i ∧ i < n
  · rw [if_pos hi, if_pos hi]
    obtain ⟨j, rfl⟩ := Int.eq_ofNat_of_zero_le hi.1
    rw [Int.toNat_natCast]
    cases hf : f j
    · first
        | exact put_new a g n j f (by omega) hf W H
        | exact put_same a g n j f (by omega) hf W H
    · first
        | exact put_new a g n j f (by omega) hf W H
        | exact put_same a g n j f (by omega) hf W H
  · rw [if_neg hi, if_neg hi]
    obtain ⟨ws, hm, _⟩ := H.is
    refine (put_bad a g n i hi W _ hm.head).mono ?_
    rintro e W' ⟨rfl, hb⟩
    exact ⟨rfl, H.below hb, But.of hb (Nat.le_refl _)⟩

theorem drop_any (a g n : Nat) (f : Nat → Bool) (i : Int) (W : World) (H : MapB W a g n f) : Calls Tryd.prog 34 #[.pointer (some ⟨a, 0, none⟩), .int .i64 i] W fun e W' => e = .returned (.int .i64 (dropV n f i)) ∧ MapB W' a g n (dropF n f i) ∧ But [g] W.heap.size W W' := by
  unfold dropV dropF
  by_cases hi : 0 ≤ i ∧ i < n
  · rw [if_pos hi, if_pos hi]
    obtain ⟨j, rfl⟩ := Int.eq_ofNat_of_zero_le hi.1
    rw [Int.toNat_natCast]
    cases hf : f j
    · first
        | exact drop_new a g n j f (by omega) hf W H
        | exact drop_same a g n j f (by omega) hf W H
    · first
        | exact drop_new a g n j f (by omega) hf W H
        | exact drop_same a g n j f (by omega) hf W H
  · rw [if_neg hi, if_neg hi]
    obtain ⟨ws, hm, _⟩ := H.is
    refine (drop_bad a g n i hi W _ hm.head).mono ?_
    rintro e W' ⟨rfl, hb⟩
    exact ⟨rfl, H.below hb, But.of hb (Nat.le_refl _)⟩

theorem rput_any (b h n : Nat) (r : Nat → Bool) (i : Int) (W : World) (H : RefAt W b h n r) : Calls Tryd.prog 49 #[.pointer (some ⟨b, 0, none⟩), .int .i64 i] W fun e W' => e = .returned (.int .i64 (putV n r i)) ∧ RefAt W' b h n (putF n r i) ∧ But [h] W.heap.size W W' := by
  unfold putV putF
  by_cases hi : 0 ≤ i ∧ i < n
  · rw [if_pos hi, if_pos hi]
    obtain ⟨j, rfl⟩ := Int.eq_ofNat_of_zero_le hi.1
    rw [Int.toNat_natCast]
    cases hf : r j
    · first
        | (refine (rPut_new b h n r j (by omega) hf W H).mono ?_
           rintro e W' ⟨rfl, rfl⟩
           exact ⟨rfl, H.put j _, But.put _ _ _ _⟩)
        | (refine (rPut_same b h n r j (by omega) hf W H).mono ?_
           rintro e W' ⟨rfl, rfl⟩
           exact ⟨rfl, (upd_same hf).symm ▸ H, But.refl _ _ _⟩)
    · first
        | (refine (rPut_new b h n r j (by omega) hf W H).mono ?_
           rintro e W' ⟨rfl, rfl⟩
           exact ⟨rfl, H.put j _, But.put _ _ _ _⟩)
        | (refine (rPut_same b h n r j (by omega) hf W H).mono ?_
           rintro e W' ⟨rfl, rfl⟩
           exact ⟨rfl, (upd_same hf).symm ▸ H, But.refl _ _ _⟩)
  · rw [if_neg hi, if_neg hi]
    refine (rPut_bad b h n r i hi W H).mono ?_
    rintro e W' ⟨rfl, rfl⟩
    exact ⟨rfl, H, But.refl _ _ _⟩

theorem rdrop_any (b h n : Nat) (r : Nat → Bool) (i : Int) (W : World) (H : RefAt W b h n r) : Calls Tryd.prog 50 #[.pointer (some ⟨b, 0, none⟩), .int .i64 i] W fun e W' => e = .returned (.int .i64 (dropV n r i)) ∧ RefAt W' b h n (dropF n r i) ∧ But [h] W.heap.size W W' := by
  unfold dropV dropF
  by_cases hi : 0 ≤ i ∧ i < n
  · rw [if_pos hi, if_pos hi]
    obtain ⟨j, rfl⟩ := Int.eq_ofNat_of_zero_le hi.1
    rw [Int.toNat_natCast]
    cases hf : r j
    · first
        | (refine (rDrop_new b h n r j (by omega) hf W H).mono ?_
           rintro e W' ⟨rfl, rfl⟩
           exact ⟨rfl, H.put j _, But.put _ _ _ _⟩)
        | (refine (rDrop_same b h n r j (by omega) hf W H).mono ?_
           rintro e W' ⟨rfl, rfl⟩
           exact ⟨rfl, (upd_same hf).symm ▸ H, But.refl _ _ _⟩)
    · first
        | (refine (rDrop_new b h n r j (by omega) hf W H).mono ?_
           rintro e W' ⟨rfl, rfl⟩
           exact ⟨rfl, H.put j _, But.put _ _ _ _⟩)
        | (refine (rDrop_same b h n r j (by omega) hf W H).mono ?_
           rintro e W' ⟨rfl, rfl⟩
           exact ⟨rfl, (upd_same hf).symm ▸ H, But.refl _ _ _⟩)
  · rw [if_neg hi, if_neg hi]
    refine (rDrop_bad b h n r i hi W H).mono ?_
    rintro e W' ⟨rfl, rfl⟩
    exact ⟨rfl, H, But.refl _ _ _⟩

/-- What Fill (true) and Clear (false) answer, and leave. -/
def setC (n : Nat) (f : Nat → Bool) (A B : Int) (v : Bool) : Int := if 0 ≤ A ∧ A ≤ B ∧ B < n then (cnt (fun p => f p != rowB A.toNat B.toNat v f p) 65536 : Nat) else 0
def setE (n : Nat) (A B : Int) : Int := if 0 ≤ A ∧ A ≤ B ∧ B < n then 0 else 1
def setR (n : Nat) (f : Nat → Bool) (A B : Int) (v : Bool) : Nat → Bool := if 0 ≤ A ∧ A ≤ B ∧ B < n then rowB A.toNat B.toNat v f else f

theorem fill_any (a g n : Nat) (f : Nat → Bool) (A B : Int) (W : World) (H : MapB W a g n f) : Calls Tryd.prog 29 #[.pointer (some ⟨a, 0, none⟩), .int .i64 A, .int .i64 B] W fun e W' => e = .returned (.tuple #[.int .i64 (setC n f A B true), .int .i64 (setE n A B)]) ∧ MapB W' a g n (setR n f A B true) ∧ But [g] W.heap.size W W' := by
  unfold setC setE setR
  by_cases hi : 0 ≤ A ∧ A ≤ B ∧ B < n
  · rw [if_pos hi, if_pos hi, if_pos hi]
    obtain ⟨x, rfl⟩ := Int.eq_ofNat_of_zero_le hi.1
    obtain ⟨y, rfl⟩ := Int.eq_ofNat_of_zero_le (show 0 ≤ B by omega)
    rw [Int.toNat_natCast, Int.toNat_natCast]
    exact fill_ok a g n x y f (by omega) (by omega) W H
  · rw [if_neg hi, if_neg hi, if_neg hi]
    obtain ⟨ws, hm, _⟩ := H.is
    refine (fill_bad a g n A B hi W _ hm.head).mono ?_
    rintro e W' ⟨rfl, hb⟩
    exact ⟨rfl, H.below hb, But.of hb (Nat.le_refl _)⟩

theorem clear_any (a g n : Nat) (f : Nat → Bool) (A B : Int) (W : World) (H : MapB W a g n f) : Calls Tryd.prog 30 #[.pointer (some ⟨a, 0, none⟩), .int .i64 A, .int .i64 B] W fun e W' => e = .returned (.tuple #[.int .i64 (setC n f A B false), .int .i64 (setE n A B)]) ∧ MapB W' a g n (setR n f A B false) ∧ But [g] W.heap.size W W' := by
  unfold setC setE setR
  by_cases hi : 0 ≤ A ∧ A ≤ B ∧ B < n
  · rw [if_pos hi, if_pos hi, if_pos hi]
    obtain ⟨x, rfl⟩ := Int.eq_ofNat_of_zero_le hi.1
    obtain ⟨y, rfl⟩ := Int.eq_ofNat_of_zero_le (show 0 ≤ B by omega)
    rw [Int.toNat_natCast, Int.toNat_natCast]
    exact clear_ok a g n x y f (by omega) (by omega) W H
  · rw [if_neg hi, if_neg hi, if_neg hi]
    obtain ⟨ws, hm, _⟩ := H.is
    refine (clear_bad a g n A B hi W _ hm.head).mono ?_
    rintro e W' ⟨rfl, hb⟩
    exact ⟨rfl, H.below hb, But.of hb (Nat.le_refl _)⟩

theorem rset_any (b h n : Nat) (r : Nat → Bool) (A B : Int) (v : Bool) (W : World) (H : RefAt W b h n r) : Calls Tryd.prog 51 #[.pointer (some ⟨b, 0, none⟩), .int .i64 A, .int .i64 B, .bool v] W fun e W' => e = .returned (.tuple #[.int .i64 (setC n r A B v), .int .i64 (setE n A B)]) ∧ RefAt W' b h n (setR n r A B v) ∧ But [h] W.heap.size W W' := by
  unfold setC setE setR
  by_cases hi : 0 ≤ A ∧ A ≤ B ∧ B < n
  · rw [if_pos hi, if_pos hi, if_pos hi]
    obtain ⟨x, rfl⟩ := Int.eq_ofNat_of_zero_le hi.1
    obtain ⟨y, rfl⟩ := Int.eq_ofNat_of_zero_le (show 0 ≤ B by omega)
    rw [Int.toNat_natCast, Int.toNat_natCast]
    exact rset_ok b h n r x y v (by omega) (by omega) W H rfl
  · rw [if_neg hi, if_neg hi, if_neg hi]
    refine (rset_bad b h n r A B v hi W H).mono ?_
    rintro e W' ⟨rfl, rfl⟩
    exact ⟨rfl, H, But.refl _ _ _⟩

/-- What the box of a call holds. -/
def BX (bx : Nat) (A : Int) (W : World) : Prop := W.cell? ⟨bx, 1, none⟩ = some (.int .i64 A)

theorem act_cells {W : World} {bx : Nat} {K A B : Int} (h : Blk W bx #[.int .i64 K, .int .i64 A, .int .i64 B] 44) : W.cell? ⟨bx, 0, none⟩ = some (.int .i64 K) ∧ W.cell? ⟨bx, 1, none⟩ = some (.int .i64 A) ∧ W.cell? ⟨bx, 2, none⟩ = some (.int .i64 B) := ⟨h.cell 0, h.cell 1, h.cell 2⟩

theorem St2.box {w W : World} {a g b h n : Nat} {f r : Nat → Bool} (S : St2 w a g b h n f r W) {bx : Nat} {cs : Array Value} (k : Blk W bx cs 44) : bx ∉ [g] ∧ bx ∉ [h] := by
  have n1 := (S.m.neOf k (by decide) (by decide)).2
  have n2 := S.r.row.ne k (by decide)
  exact ⟨by simpa using n1.symm, by simpa using n2.symm⟩

/-- What a call of the play leaves. -/
def DoesPost (w : World) (b h n : Nat) (e : Ending) (W' : World) : Prop := ∃ a' g' f', e = .returned (.tuple #[.pointer (some ⟨a', 0, none⟩), .bool true]) ∧ St2 w a' g' b h n f' f' W'

/-- What is done to the elder map leaves its copy. -/
theorem copy_keep {w W W' : World} {a g a' g' b h n : Nat} {f r f' : Nat → Bool} (S : St2 w a' g' b h n f r W) (k : But [g] W.heap.size W W') (E : St2 w a g b h n f' r W) (hg : g < g') : St2 w a' g' b h n f r W' := by
  have n1 := (E.m.neOf S.r.head (by decide) (by decide)).2
  have n2 := (E.m.neOf S.r.row (by decide) (by decide)).2
  obtain ⟨ws, hm, _⟩ := E.m.is
  obtain ⟨us, hu, _⟩ := S.m.is
  have n3 : a' ≠ g := hu.head.ne hm.row (by decide)
  have l := S.m.lt
  exact ⟨S.m.but k l.1 l.2.1 (by simpa using n3) (by simp; omega), S.r.blks (k.block b S.r.head.lt (by simpa using n1.symm)) (k.block h S.r.row.lt (by simpa using n2.symm)), k.to S.bel E.g0 S.bel.size, S.g0, S.h0⟩

set_option maxHeartbeats 2000000 in
theorem does_put (w : World) (a g b h n : Nat) (f : Nat → Bool) (A B : Int) (W : World) (S : St2 w a g b h n f f W) : Calls Tryd.prog 19 #[.pointer (some ⟨a, 0, none⟩), .pointer (some ⟨b, 0, none⟩), .agg #[.int .i64 1, .int .i64 A, .int .i64 B]] W fun e W' => DoesPost w b h n e W' := by
  have BB := Blk.new W #[.int .i64 1, .int .i64 A, .int .i64 B] 44
  have bl : Below W.heap.size W (W.alloc (.cells #[.int .i64 1, .int .i64 A, .int .i64 B] 44)) := by repeat (first | with_reducible exact Below.refl _ _ | with_reducible refine Below.drew ?_ | with_reducible refine Below.alloc ?_ (by first | omega | (simp <;> omega)) _ | with_reducible refine Below.setCell ?_ (by first | omega | (simp <;> omega)) _)
  have S1 := (S.quiet bl).quiet (Below.refl _ _).drew
  obtain ⟨k0, k1, k2⟩ := act_cells BB
  have ns := S1.box BB.drew
  have SH := hide S1
  have BH := hide BB.drew
  have NH := hide ns
  clear S S1 BB ns bl
  go_enter Tryd.func19, Tryd.ntmps19
  go_upto_region 3 with fail
  refine wp_region_held_drew (S := (BX W.heap.size A)) (by kernel_rfl) ?hS100 (fun hHeld => ?rest100)
  case hS100 => (first | exact k1 | exact (act_cells BH3).2.1 | exact (act_cells BH4).2.1)
  refine wpAnyH_take (i := 0) (oi := _) (v := ?v101) (List.getElem?_toArray.trans rfl) (by kernel_rfl) (by kernel_rfl) (by kernel_rfl) (fun _ _ _ h => h) (Or.inl ⟨by rfl, ?hy101⟩) (by assumption) ?rest101
  case hy101 => (intro wq hSw; (try simp only [BX] at hSw); go_simp; try with_reducible rfl)
  try simp only [Act.put, List.setIfInBounds_toArray, List.set_cons_zero, List.set_cons_succ]
  refine wpAnyH_take (i := 1) (oi := _) (v := ?v102) (List.getElem?_toArray.trans rfl) (by kernel_rfl) (by kernel_rfl) (by kernel_rfl) (fun _ _ _ h => h) (Or.inl ⟨by rfl, ?hy102⟩) (by assumption) ?rest102
  case hy102 => (intro wq hSw; (try simp only [BX] at hSw); go_simp; try with_reducible rfl)
  try simp only [Act.put, List.setIfInBounds_toArray, List.set_cons_zero, List.set_cons_succ]
  refine wpAnyH_take (i := 2) (oi := _) (v := ?v103) (List.getElem?_toArray.trans rfl) (by kernel_rfl) (by kernel_rfl) (by kernel_rfl) (fun _ _ _ h => h) (Or.inl ⟨by rfl, ?hy103⟩) (by assumption) ?rest103
  case hy103 => (intro wq hSw; (try simp only [BX] at hSw); go_simp; try with_reducible rfl)
  try simp only [Act.put, List.setIfInBounds_toArray, List.set_cons_zero, List.set_cons_succ]
  refine wpAnyH_take (i := 3) (oi := _) (v := ?v104) (List.getElem?_toArray.trans rfl) (by kernel_rfl) (by kernel_rfl) (by kernel_rfl) (fun _ _ _ h => h) (Or.inl ⟨by rfl, ?hy104⟩) (by assumption) ?rest104
  case hy104 => (intro wq hSw; (try simp only [BX] at hSw); go_simp; try with_reducible rfl)
  try simp only [Act.put, List.setIfInBounds_toArray, List.set_cons_zero, List.set_cons_succ]
  refine wpAnyH_take (i := 5) (oi := _) (v := ?v105) (List.getElem?_toArray.trans rfl) (by kernel_rfl) (by kernel_rfl) (by kernel_rfl) (fun _ _ _ h => h) (Or.inl ⟨by rfl, ?hy105⟩) (by assumption) ?rest105
  case hy105 => (intro wq hSw; (try simp only [BX] at hSw); go_simp; try with_reducible rfl)
  try simp only [Act.put, List.setIfInBounds_toArray, List.set_cons_zero, List.set_cons_succ]
  refine wpAnyH_take (i := 6) (oi := _) (v := ?v106) (List.getElem?_toArray.trans rfl) (by kernel_rfl) (by kernel_rfl) (by kernel_rfl) (fun _ _ _ h => h) (Or.inl ⟨by rfl, ?hy106⟩) (by assumption) ?rest106
  case hy106 => (intro wq hSw; (try simp only [BX] at hSw); go_simp; try with_reducible rfl)
  try simp only [Act.put, List.setIfInBounds_toArray, List.set_cons_zero, List.set_cons_succ]
  refine wpAnyH_take (i := 7) (oi := _) (v := ?v107) (List.getElem?_toArray.trans rfl) (by kernel_rfl) (by kernel_rfl) (by kernel_rfl) (fun _ _ _ h => h) (Or.inl ⟨by rfl, ?hy107⟩) (by assumption) ?rest107
  case hy107 => (intro wq hSw; (try simp only [BX] at hSw); go_simp; try with_reducible rfl)
  try simp only [Act.put, List.setIfInBounds_toArray, List.set_cons_zero, List.set_cons_succ]
  refine wpAnyH_ready (rs := [4]) (by kernel_rfl) (by simp) ?rdy108
  refine AllReadyH.cons (List.getElem?_toArray.trans rfl) (fun K hK => ?stp108) AllReadyH.nil
  go_simp
  go_wp2_with fail
  (refine (put_any a g n f A _ SH.out.m).mono ?_; rintro e w3 ⟨rfl, hM, hK3⟩; have S3 := SH.out.turnM hM hK3; have BH3 := hK3.box BH.out NH.out.1)
  go_wp2_with fail
  refine hK.out _ _ ?hSn108 (fun hHeld2 => ?rest108)
  case hSn108 => (first | exact k1 | exact (act_cells BH3).2.1 | exact (act_cells BH4).2.1)
  clear hK K hHeld
  have hHeld := hHeld2
  clear hHeld2
  try simp only [Act.put, List.setIfInBounds_toArray, List.set_cons_zero, List.set_cons_succ]
  refine wpAnyH_ready (rs := [8]) (by kernel_rfl) (by simp) ?rdy109
  refine AllReadyH.cons (List.getElem?_toArray.trans rfl) (fun K hK => ?stp109) AllReadyH.nil
  go_simp
  go_wp2_with fail
  (refine (rput_any b h n f A _ S3.r).mono ?_; rintro e w4 ⟨rfl, hR, hK4⟩; have S4 := S3.turnR hR hK4; have BH4 := hK4.box BH3 NH.out.2)
  go_wp2_with fail
  refine hK.out _ _ ?hSn109 (fun hHeld2 => ?rest109)
  case hSn109 => (first | exact k1 | exact (act_cells BH3).2.1 | exact (act_cells BH4).2.1)
  clear hK K hHeld
  have hHeld := hHeld2
  clear hHeld2
  try simp only [Act.put, List.setIfInBounds_toArray, List.set_cons_zero, List.set_cons_succ]
  refine wpAnyH_take (i := 9) (oi := _) (v := ?v110) (List.getElem?_toArray.trans rfl) (by kernel_rfl) (by kernel_rfl) (by kernel_rfl) (fun _ _ _ h => h) (Or.inl ⟨by rfl, ?hy110⟩) (by assumption) ?rest110
  case hy110 => (intro wq hSw; (try simp only [BX] at hSw); go_simp; try with_reducible rfl)
  try simp only [Act.put, List.setIfInBounds_toArray, List.set_cons_zero, List.set_cons_succ]
  refine wpAnyH_take (i := 10) (oi := _) (v := ?v111) (List.getElem?_toArray.trans rfl) (by kernel_rfl) (by kernel_rfl) (by kernel_rfl) (fun _ _ _ h => h) (Or.inl ⟨by rfl, ?hy111⟩) (by assumption) ?rest111
  case hy111 => (intro wq hSw; (try simp only [BX] at hSw); go_simp; try with_reducible rfl)
  try simp only [Act.put, List.setIfInBounds_toArray, List.set_cons_zero, List.set_cons_succ]
  refine wpAnyH_take (i := 11) (oi := _) (v := ?v112) (List.getElem?_toArray.trans rfl) (by kernel_rfl) (by kernel_rfl) (by kernel_rfl) (fun _ _ _ h => h) (Or.inl ⟨by rfl, ?hy112⟩) (by assumption) ?rest112
  case hy112 => (intro wq hSw; (try simp only [BX] at hSw); go_simp; try with_reducible rfl)
  try simp only [Act.put, List.setIfInBounds_toArray, List.set_cons_zero, List.set_cons_succ]
  refine wpAnyH_done (by kernel_rfl) ?fin100 _
  generalize putV n f A = vv at *
  have S4H := hide S4
  clear S3 S4 hM hK3 hR hK4 BH3 BH4 SH BH NH
  go_wp2_with fail
  go_ret2
  exact ⟨_, _, _, rfl, S4H.out⟩

set_option maxHeartbeats 2000000 in
theorem does_drop (w : World) (a g b h n : Nat) (f : Nat → Bool) (A B : Int) (W : World) (S : St2 w a g b h n f f W) : Calls Tryd.prog 19 #[.pointer (some ⟨a, 0, none⟩), .pointer (some ⟨b, 0, none⟩), .agg #[.int .i64 2, .int .i64 A, .int .i64 B]] W fun e W' => DoesPost w b h n e W' := by
  have BB := Blk.new W #[.int .i64 2, .int .i64 A, .int .i64 B] 44
  have bl : Below W.heap.size W (W.alloc (.cells #[.int .i64 2, .int .i64 A, .int .i64 B] 44)) := by repeat (first | with_reducible exact Below.refl _ _ | with_reducible refine Below.drew ?_ | with_reducible refine Below.alloc ?_ (by first | omega | (simp <;> omega)) _ | with_reducible refine Below.setCell ?_ (by first | omega | (simp <;> omega)) _)
  have S1 := (S.quiet bl).quiet (Below.refl _ _).drew
  obtain ⟨k0, k1, k2⟩ := act_cells BB
  have ns := S1.box BB.drew
  have SH := hide S1
  have BH := hide BB.drew
  have NH := hide ns
  clear S S1 BB ns bl
  go_enter Tryd.func19, Tryd.ntmps19
  go_upto_region 5 with fail
  refine wp_region_held_drew (S := (BX W.heap.size A)) (by kernel_rfl) ?hS200 (fun hHeld => ?rest200)
  case hS200 => (first | exact k1 | exact (act_cells BH3).2.1 | exact (act_cells BH4).2.1)
  refine wpAnyH_take (i := 0) (oi := _) (v := ?v201) (List.getElem?_toArray.trans rfl) (by kernel_rfl) (by kernel_rfl) (by kernel_rfl) (fun _ _ _ h => h) (Or.inl ⟨by rfl, ?hy201⟩) (by assumption) ?rest201
  case hy201 => (intro wq hSw; (try simp only [BX] at hSw); go_simp; try with_reducible rfl)
  try simp only [Act.put, List.setIfInBounds_toArray, List.set_cons_zero, List.set_cons_succ]
  refine wpAnyH_take (i := 1) (oi := _) (v := ?v202) (List.getElem?_toArray.trans rfl) (by kernel_rfl) (by kernel_rfl) (by kernel_rfl) (fun _ _ _ h => h) (Or.inl ⟨by rfl, ?hy202⟩) (by assumption) ?rest202
  case hy202 => (intro wq hSw; (try simp only [BX] at hSw); go_simp; try with_reducible rfl)
  try simp only [Act.put, List.setIfInBounds_toArray, List.set_cons_zero, List.set_cons_succ]
  refine wpAnyH_take (i := 2) (oi := _) (v := ?v203) (List.getElem?_toArray.trans rfl) (by kernel_rfl) (by kernel_rfl) (by kernel_rfl) (fun _ _ _ h => h) (Or.inl ⟨by rfl, ?hy203⟩) (by assumption) ?rest203
  case hy203 => (intro wq hSw; (try simp only [BX] at hSw); go_simp; try with_reducible rfl)
  try simp only [Act.put, List.setIfInBounds_toArray, List.set_cons_zero, List.set_cons_succ]
  refine wpAnyH_take (i := 3) (oi := _) (v := ?v204) (List.getElem?_toArray.trans rfl) (by kernel_rfl) (by kernel_rfl) (by kernel_rfl) (fun _ _ _ h => h) (Or.inl ⟨by rfl, ?hy204⟩) (by assumption) ?rest204
  case hy204 => (intro wq hSw; (try simp only [BX] at hSw); go_simp; try with_reducible rfl)
  try simp only [Act.put, List.setIfInBounds_toArray, List.set_cons_zero, List.set_cons_succ]
  refine wpAnyH_take (i := 5) (oi := _) (v := ?v205) (List.getElem?_toArray.trans rfl) (by kernel_rfl) (by kernel_rfl) (by kernel_rfl) (fun _ _ _ h => h) (Or.inl ⟨by rfl, ?hy205⟩) (by assumption) ?rest205
  case hy205 => (intro wq hSw; (try simp only [BX] at hSw); go_simp; try with_reducible rfl)
  try simp only [Act.put, List.setIfInBounds_toArray, List.set_cons_zero, List.set_cons_succ]
  refine wpAnyH_take (i := 6) (oi := _) (v := ?v206) (List.getElem?_toArray.trans rfl) (by kernel_rfl) (by kernel_rfl) (by kernel_rfl) (fun _ _ _ h => h) (Or.inl ⟨by rfl, ?hy206⟩) (by assumption) ?rest206
  case hy206 => (intro wq hSw; (try simp only [BX] at hSw); go_simp; try with_reducible rfl)
  try simp only [Act.put, List.setIfInBounds_toArray, List.set_cons_zero, List.set_cons_succ]
  refine wpAnyH_take (i := 7) (oi := _) (v := ?v207) (List.getElem?_toArray.trans rfl) (by kernel_rfl) (by kernel_rfl) (by kernel_rfl) (fun _ _ _ h => h) (Or.inl ⟨by rfl, ?hy207⟩) (by assumption) ?rest207
  case hy207 => (intro wq hSw; (try simp only [BX] at hSw); go_simp; try with_reducible rfl)
  try simp only [Act.put, List.setIfInBounds_toArray, List.set_cons_zero, List.set_cons_succ]
  refine wpAnyH_ready (rs := [4]) (by kernel_rfl) (by simp) ?rdy208
  refine AllReadyH.cons (List.getElem?_toArray.trans rfl) (fun K hK => ?stp208) AllReadyH.nil
  go_simp
  go_wp2_with fail
  (refine (drop_any a g n f A _ SH.out.m).mono ?_; rintro e w3 ⟨rfl, hM, hK3⟩; have S3 := SH.out.turnM hM hK3; have BH3 := hK3.box BH.out NH.out.1)
  go_wp2_with fail
  refine hK.out _ _ ?hSn208 (fun hHeld2 => ?rest208)
  case hSn208 => (first | exact k1 | exact (act_cells BH3).2.1 | exact (act_cells BH4).2.1)
  clear hK K hHeld
  have hHeld := hHeld2
  clear hHeld2
  try simp only [Act.put, List.setIfInBounds_toArray, List.set_cons_zero, List.set_cons_succ]
  refine wpAnyH_ready (rs := [8]) (by kernel_rfl) (by simp) ?rdy209
  refine AllReadyH.cons (List.getElem?_toArray.trans rfl) (fun K hK => ?stp209) AllReadyH.nil
  go_simp
  go_wp2_with fail
  (refine (rdrop_any b h n f A _ S3.r).mono ?_; rintro e w4 ⟨rfl, hR, hK4⟩; have S4 := S3.turnR hR hK4; have BH4 := hK4.box BH3 NH.out.2)
  go_wp2_with fail
  refine hK.out _ _ ?hSn209 (fun hHeld2 => ?rest209)
  case hSn209 => (first | exact k1 | exact (act_cells BH3).2.1 | exact (act_cells BH4).2.1)
  clear hK K hHeld
  have hHeld := hHeld2
  clear hHeld2
  try simp only [Act.put, List.setIfInBounds_toArray, List.set_cons_zero, List.set_cons_succ]
  refine wpAnyH_take (i := 9) (oi := _) (v := ?v210) (List.getElem?_toArray.trans rfl) (by kernel_rfl) (by kernel_rfl) (by kernel_rfl) (fun _ _ _ h => h) (Or.inl ⟨by rfl, ?hy210⟩) (by assumption) ?rest210
  case hy210 => (intro wq hSw; (try simp only [BX] at hSw); go_simp; try with_reducible rfl)
  try simp only [Act.put, List.setIfInBounds_toArray, List.set_cons_zero, List.set_cons_succ]
  refine wpAnyH_take (i := 10) (oi := _) (v := ?v211) (List.getElem?_toArray.trans rfl) (by kernel_rfl) (by kernel_rfl) (by kernel_rfl) (fun _ _ _ h => h) (Or.inl ⟨by rfl, ?hy211⟩) (by assumption) ?rest211
  case hy211 => (intro wq hSw; (try simp only [BX] at hSw); go_simp; try with_reducible rfl)
  try simp only [Act.put, List.setIfInBounds_toArray, List.set_cons_zero, List.set_cons_succ]
  refine wpAnyH_take (i := 11) (oi := _) (v := ?v212) (List.getElem?_toArray.trans rfl) (by kernel_rfl) (by kernel_rfl) (by kernel_rfl) (fun _ _ _ h => h) (Or.inl ⟨by rfl, ?hy212⟩) (by assumption) ?rest212
  case hy212 => (intro wq hSw; (try simp only [BX] at hSw); go_simp; try with_reducible rfl)
  try simp only [Act.put, List.setIfInBounds_toArray, List.set_cons_zero, List.set_cons_succ]
  refine wpAnyH_done (by kernel_rfl) ?fin200 _
  generalize dropV n f A = vv at *
  have S4H := hide S4
  clear S3 S4 hM hK3 hR hK4 BH3 BH4 SH BH NH
  go_wp2_with fail
  go_ret2
  exact ⟨_, _, _, rfl, S4H.out⟩

set_option maxHeartbeats 2000000 in
theorem does_fill (w : World) (a g b h n : Nat) (f : Nat → Bool) (A B : Int) (W : World) (S : St2 w a g b h n f f W) : Calls Tryd.prog 19 #[.pointer (some ⟨a, 0, none⟩), .pointer (some ⟨b, 0, none⟩), .agg #[.int .i64 3, .int .i64 A, .int .i64 B]] W fun e W' => DoesPost w b h n e W' := by
  have BB := Blk.new W #[.int .i64 3, .int .i64 A, .int .i64 B] 44
  have bl : Below W.heap.size W (W.alloc (.cells #[.int .i64 3, .int .i64 A, .int .i64 B] 44)) := by repeat (first | with_reducible exact Below.refl _ _ | with_reducible refine Below.drew ?_ | with_reducible refine Below.alloc ?_ (by first | omega | (simp <;> omega)) _ | with_reducible refine Below.setCell ?_ (by first | omega | (simp <;> omega)) _)
  have S1 := S.quiet bl
  have ns := S1.box BB
  have SH := hide S1
  have BH := hide BB
  have NH := hide ns
  clear S S1 BB ns bl
  go_enter Tryd.func19, Tryd.ntmps19
  go_wp2_with fail
  refine (fill_any a g n f A B _ SH.out.m).mono ?_
  rintro e w3 ⟨rfl, hM, hK⟩
  have S3 := hide (SH.out.turnM hM hK)
  have BH3 := hide (hK.box BH.out NH.out.1)
  obtain ⟨k0, k1, k2⟩ := act_cells BH3.out
  clear hM hK SH BH
  obtain ⟨cc, hcc⟩ : ∃ cc, setC n f A B true = cc := ⟨_, rfl⟩
  obtain ⟨ee, hee⟩ : ∃ ee, setE n A B = ee := ⟨_, rfl⟩
  have RH := hide (rset_any b h n f A B true w3 S3.out.r)
  rw [hcc, hee] at RH
  rw [hcc, hee]
  clear hcc hee
  go_wp2_with fail
  refine RH.out.mono ?_
  rintro e w4 ⟨rfl, hR, hK4⟩
  have S4 := hide (S3.out.turnR hR hK4)
  clear RH S3 BH3 NH hR hK4
  go_wp2_with fail
  go_ret2
  exact ⟨_, _, _, by simp, S4.out⟩

set_option maxHeartbeats 2000000 in
theorem does_clear (w : World) (a g b h n : Nat) (f : Nat → Bool) (A B : Int) (W : World) (S : St2 w a g b h n f f W) : Calls Tryd.prog 19 #[.pointer (some ⟨a, 0, none⟩), .pointer (some ⟨b, 0, none⟩), .agg #[.int .i64 4, .int .i64 A, .int .i64 B]] W fun e W' => DoesPost w b h n e W' := by
  have BB := Blk.new W #[.int .i64 4, .int .i64 A, .int .i64 B] 44
  have bl : Below W.heap.size W (W.alloc (.cells #[.int .i64 4, .int .i64 A, .int .i64 B] 44)) := by repeat (first | with_reducible exact Below.refl _ _ | with_reducible refine Below.drew ?_ | with_reducible refine Below.alloc ?_ (by first | omega | (simp <;> omega)) _ | with_reducible refine Below.setCell ?_ (by first | omega | (simp <;> omega)) _)
  have S1 := S.quiet bl
  have ns := S1.box BB
  have SH := hide S1
  have BH := hide BB
  have NH := hide ns
  clear S S1 BB ns bl
  go_enter Tryd.func19, Tryd.ntmps19
  go_wp2_with fail
  refine (clear_any a g n f A B _ SH.out.m).mono ?_
  rintro e w3 ⟨rfl, hM, hK⟩
  have S3 := hide (SH.out.turnM hM hK)
  have BH3 := hide (hK.box BH.out NH.out.1)
  obtain ⟨k0, k1, k2⟩ := act_cells BH3.out
  clear hM hK SH BH
  obtain ⟨cc, hcc⟩ : ∃ cc, setC n f A B false = cc := ⟨_, rfl⟩
  obtain ⟨ee, hee⟩ : ∃ ee, setE n A B = ee := ⟨_, rfl⟩
  have RH := hide (rset_any b h n f A B false w3 S3.out.r)
  rw [hcc, hee] at RH
  rw [hcc, hee]
  clear hcc hee
  go_wp2_with fail
  refine RH.out.mono ?_
  rintro e w4 ⟨rfl, hR, hK4⟩
  have S4 := hide (S3.out.turnR hR hK4)
  clear RH S3 BH3 NH hR hK4
  go_wp2_with fail
  go_ret2
  exact ⟨_, _, _, by simp, S4.out⟩

set_option maxHeartbeats 2000000 in
theorem does_copy (w : World) (a g b h n : Nat) (f : Nat → Bool) (A B : Int) (W : World) (S : St2 w a g b h n f f W) : Calls Tryd.prog 19 #[.pointer (some ⟨a, 0, none⟩), .pointer (some ⟨b, 0, none⟩), .agg #[.int .i64 5, .int .i64 A, .int .i64 B]] W fun e W' => DoesPost w b h n e W' := by
  have bl : Below W.heap.size W (W.alloc (.cells #[.int .i64 5, .int .i64 A, .int .i64 B] 44)) := by repeat (first | with_reducible exact Below.refl _ _ | with_reducible refine Below.drew ?_ | with_reducible refine Below.alloc ?_ (by first | omega | (simp <;> omega)) _ | with_reducible refine Below.setCell ?_ (by first | omega | (simp <;> omega)) _)
  have SH := hide (S.quiet bl)
  clear S bl
  go_enter Tryd.func19, Tryd.ntmps19
  go_wp2_with fail
  refine (copy_ok a g n f _ SH.out.m).mono ?_
  rintro e w3 ⟨rfl, hM, hb, hs⟩
  have S3 := hide (SH.out.quiet hb)
  have N3 := hide (show St2 w _ _ b h n f f w3 from ⟨hM, S3.out.r, S3.out.bel, SH.out.bel.size, S3.out.h0⟩)
  have gl := hide (show g < _ from SH.out.m.lt.2.1)
  clear hM hb hs SH
  go_wp2_with fail
  refine (put_any a g n f 0 _ S3.out.m).mono ?_
  rintro e w4 ⟨rfl, hM, hK⟩
  have S4 := hide (S3.out.turnM hM hK)
  have N4 := hide (copy_keep N3.out hK S3.out gl.out)
  generalize putV n f 0 = v4 at *
  clear hM hK S3 N3
  go_wp2_with fail
  refine (drop_any a g n _ 1 _ S4.out.m).mono ?_
  rintro e w5 ⟨rfl, hM, hK⟩
  have N5 := hide (copy_keep N4.out hK S4.out gl.out)
  generalize dropV n (putF n f 0) 1 = v5 at *
  clear hM hK S4 N4
  go_wp2_with fail
  go_ret2
  have h5 := N5.out
  rw [show (W.alloc (.cells #[.int .i64 5, .int .i64 A, .int .i64 B] 44)).heap.size = W.heap.size + 1 by simp] at h5
  exact ⟨_, _, _, rfl, h5⟩

set_option maxHeartbeats 2000000 in
theorem does_none (w : World) (a g b h n : Nat) (f : Nat → Bool) (K A B : Int) (hK : K ≠ 1 ∧ K ≠ 2 ∧ K ≠ 3 ∧ K ≠ 4 ∧ K ≠ 5) (W : World) (S : St2 w a g b h n f f W) : Calls Tryd.prog 19 #[.pointer (some ⟨a, 0, none⟩), .pointer (some ⟨b, 0, none⟩), .agg #[.int .i64 K, .int .i64 A, .int .i64 B]] W fun e W' => DoesPost w b h n e W' := by
  have bl : Below W.heap.size W (W.alloc (.cells #[.int .i64 K, .int .i64 A, .int .i64 B] 44)) := by repeat (first | with_reducible exact Below.refl _ _ | with_reducible refine Below.drew ?_ | with_reducible refine Below.alloc ?_ (by first | omega | (simp <;> omega)) _ | with_reducible refine Below.setCell ?_ (by first | omega | (simp <;> omega)) _)
  have SH := hide (S.quiet bl)
  have e1 : (K == 1) = false := by simpa using hK.1
  have e2 : (K == 2) = false := by simpa using hK.2.1
  have e3 : (K == 3) = false := by simpa using hK.2.2.1
  have e4 : (K == 4) = false := by simpa using hK.2.2.2.1
  have e5 : (K == 5) = false := by simpa using hK.2.2.2.2
  clear S bl hK
  go_enter Tryd.func19, Tryd.ntmps19
  go_wp2_with fail
  go_ret2
  exact ⟨_, _, _, rfl, SH.out⟩

theorem does_c (w : World) (a g b h n : Nat) (f : Nat → Bool) (K A B : Int) (W : World) (S : St2 w a g b h n f f W) : Calls Tryd.prog 19 #[.pointer (some ⟨a, 0, none⟩), .pointer (some ⟨b, 0, none⟩), .agg #[.int .i64 K, .int .i64 A, .int .i64 B]] W fun e W' => DoesPost w b h n e W' := by
  by_cases h1 : K = 1
  · subst h1; exact does_put w a g b h n f A B W S
  by_cases h2 : K = 2
  · subst h2; exact does_drop w a g b h n f A B W S
  by_cases h3 : K = 3
  · subst h3; exact does_fill w a g b h n f A B W S
  by_cases h4 : K = 4
  · subst h4; exact does_clear w a g b h n f A B W S
  by_cases h5 : K = 5
  · subst h5; exact does_copy w a g b h n f A B W S
  exact does_none w a g b h n f K A B ⟨h1, h2, h3, h4, h5⟩ W S

end Go.Proofs.YtkfglbmhpdcfpaaDoor
