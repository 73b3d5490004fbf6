/-
  Texts RPr of the proof.
-/
import Derived.Laws.BytesArg
import Derived.Test.YtipjmmhlfmahbaaGreatDoorP22
import Derived.Test.YtipjmmhlfmahbaaGreatDoorP21

namespace Go.Proofs.YtipjmmhlfmahbaaGreatDoor
open Go.ChangeShapes Go.WideShapes Go.ChangeAt Go.RowKit
set_option linter.unusedVariables false
set_option linter.unusedSimpArgs false

theorem one_new (W : World) (x : Value) (t : TypeId) : ∀ (j : Nat) (u : Value), [x][j]? = some u → (W.alloc (.cells #[x] t)).cell? ((⟨W.heap.size, 0, none⟩ : Addr).add j) = some u := by
  intro j u hj
  match j, hj with
  | 0, hj => simp at hj; subst hj; simp [Addr.add]

theorem one_ok (k : IntKind) (x : Int) : ∀ u ∈ [Value.int k x], u.oneCell' = true := by
  intro u hu; simp at hu; subst hu; rfl

/-- A row of bytes as a text. -/
theorem own_text {W : World} {base k : Nat} {sv : Value} {ns : List Nat} (h : W.ownsRow base 5 1 sv k (ns.map fun n : Nat => .int .u8 (n : Int))) (h0 : 0 < k) : (convert 63 9 sv).run Tryz.prog W = .ok (.string (strP ns)) W := by
  have hl : ns.length = k := by have := h.1; simpa using this
  obtain ⟨g, cap, rfl⟩ : ∃ g cap, sv = .slice (some ⟨g, 0, none⟩) k cap := by
    rcases h.2 with ⟨_, q⟩ | ⟨g, cap, cur, q, _⟩
    · omega
    · exact ⟨g, cap, q⟩
  refine run_convert_bytes_arg (P := Tryz.prog) W 63 5 Tryz.underlying63 Tryz.underlying5 g 0 k cap (ns.map fun n : Nat => (n : Int)) (by rw [List.length_map, hl]) (fun i hi => ?_) 9 Tryz.underlying9
  rw [Nat.zero_add, World.ownsRow.cellAt h i (by omega)]
  have hl2 : i < ns.length := by omega
  simp [hl2]

theorem dec_is : ∀ n : Fin 256, (⟨(Lib.decDigits n.val).toArray⟩ : ByteArray) = strP (if 100 ≤ n.val then [48 + n.val / 100, 48 + n.val / 10 % 10, 48 + n.val % 10] else if 10 ≤ n.val then [48 + n.val / 10 % 10, 48 + n.val % 10] else [48 + n.val % 10]) := by decide +kernel

set_option maxRecDepth 100000 in
set_option maxHeartbeats 1600000 in
theorem rdec_three (n : Nat) (hn : n < 256) (h : 100 ≤ n) (w : World) :
    Calls Tryz.prog 22 #[.int .i64 n] w fun e w' => e = .returned (.string (strP [48 + n / 100, 48 + n / 10 % 10, 48 + n % 10])) ∧ Below w.heap.size w w' := by
  obtain ⟨i0, hi, hz0, hz1, hz2⟩ := info_parts infoU8
  have O0 : (w.alloc (.cells #[] 5)).ownsRow w.heap.size 5 1 (.slice (some ⟨w.heap.size, 0, none⟩) 0 0) 0 [] := World.ownsRow_made _ _ _ (Nat.le_refl _) (Nat.zero_le _) rfl
  have B0 : Below w.heap.size w (w.alloc (.cells #[] 5)) := by repeat (first | with_reducible exact Below.refl _ _ | with_reducible refine Below.drew ?_ | with_reducible refine Below.alloc ?_ (by first | omega | (simp <;> omega)) _ | with_reducible refine Below.setCell ?_ (by first | omega | (simp <;> omega)) _)
  have a1 : IntKind.u8.wrap (48 + (n : Int) / 100) = 48 + (n : Int) / 100 := by simp [IntKind.wrap, IntKind.bits, IntKind.signed]; omega
  have a2 : IntKind.u8.wrap (48 + (n : Int) / 10 % 10) = 48 + (n : Int) / 10 % 10 := by simp [IntKind.wrap, IntKind.bits, IntKind.signed]; omega
  have a3 : IntKind.u8.wrap (48 + (n : Int) % 10) = 48 + (n : Int) % 10 := by simp [IntKind.wrap, IntKind.bits, IntKind.signed]; omega
  go_enter Tryz.func22, Tryz.ntmps22
  have N1 : ∀ (j : Nat) (u : Value), [Value.int .u8 (48 + (n : Int) / 100)][j]? = some u → ((w.alloc (.cells #[] 5)).alloc (.cells #[.int .u8 (48 + (n : Int) / 100)] 5)).cell? ((⟨w.heap.size + 1, 0, none⟩ : Addr).add j) = some u := by have e := one_new (w.alloc (.cells #[] 5)) (.int .u8 (48 + (n : Int) / 100)) 5; rwa [show (w.alloc (.cells #[] 5)).heap.size = w.heap.size + 1 by simp] at e
  go_wp2_with (first | (at_builtin; refine wpList_append_own _ rfl _ _ 63 rfl w.heap.size 5 i0 (.int .u8 0) 1 1 Tryz.underlying63 hi hz0 hz1 hz2 rfl (by decide) _ _ _ rfl (O0.alloc _) ⟨w.heap.size + 1, 0, none⟩ 1 1 [.int .u8 (48 + (n : Int) / 100)] rfl rfl N1 (one_ok _ _) ?c3 ?c4 ?c5 ?_))
  case c3 => unfold maxLen; omega
  case c4 => omega
  case c5 => (first | omega | (simp; omega))
  intro vw1 w1 O1 hgroww1 _
  have Bw1 : Below w.heap.size w w1 := below_grown B0 (B0.size) O0 hgroww1
  have hsw1 := Bw1.size
  clear hgroww1
  go_wp2_with (first | (at_builtin; refine wpList_append_own _ rfl _ _ 63 rfl w.heap.size 5 i0 (.int .u8 0) 1 1 Tryz.underlying63 hi hz0 hz1 hz2 rfl (by decide) _ _ _ rfl (O1.alloc _) ⟨w1.heap.size, 0, none⟩ 1 1 [.int .u8 (48 + (n : Int) / 10 % 10)] rfl rfl (one_new w1 _ _) (one_ok _ _) ?c3 ?c4 ?c5 ?_))
  case c3 => unfold maxLen; omega
  case c4 => omega
  case c5 => (first | omega | (simp; omega))
  intro vw2 w2 O2 hgroww2 _
  have Bw2 : Below w.heap.size w w2 := below_grown Bw1 (Bw1.size) O1 hgroww2
  have hsw2 := Bw2.size
  clear hgroww2
  go_wp2_with (first | (at_builtin; refine wpList_append_own _ rfl _ _ 63 rfl w.heap.size 5 i0 (.int .u8 0) 1 1 Tryz.underlying63 hi hz0 hz1 hz2 rfl (by decide) _ _ _ rfl (O2.alloc _) ⟨w2.heap.size, 0, none⟩ 1 1 [.int .u8 (48 + (n : Int) % 10)] rfl rfl (one_new w2 _ _) (one_ok _ _) ?c3 ?c4 ?c5 ?_))
  case c3 => unfold maxLen; omega
  case c4 => omega
  case c5 => (first | omega | (simp; omega))
  intro vw3 w3 O3 hgroww3 _
  have Bw3 : Below w.heap.size w w3 := below_grown Bw2 (Bw2.size) O2 hgroww3
  have hsw3 := Bw3.size
  clear hgroww3
  have cv := own_text (ns := [48 + n / 100, 48 + n / 10 % 10, 48 + n % 10]) (by simpa using O3) (by omega)
  go_wp2
  go_ret
  exact ⟨rfl, Bw3⟩

set_option maxRecDepth 100000 in
set_option maxHeartbeats 1600000 in
theorem rdec_two (n : Nat) (hn : n < 256) (h : ¬ 100 ≤ n) (h2 : 10 ≤ n) (w : World) :
    Calls Tryz.prog 22 #[.int .i64 n] w fun e w' => e = .returned (.string (strP [48 + n / 10 % 10, 48 + n % 10])) ∧ Below w.heap.size w w' := by
  obtain ⟨i0, hi, hz0, hz1, hz2⟩ := info_parts infoU8
  have O0 : (w.alloc (.cells #[] 5)).ownsRow w.heap.size 5 1 (.slice (some ⟨w.heap.size, 0, none⟩) 0 0) 0 [] := World.ownsRow_made _ _ _ (Nat.le_refl _) (Nat.zero_le _) rfl
  have B0 : Below w.heap.size w (w.alloc (.cells #[] 5)) := by repeat (first | with_reducible exact Below.refl _ _ | with_reducible refine Below.drew ?_ | with_reducible refine Below.alloc ?_ (by first | omega | (simp <;> omega)) _ | with_reducible refine Below.setCell ?_ (by first | omega | (simp <;> omega)) _)
  have a1 : IntKind.u8.wrap (48 + (n : Int) / 100) = 48 + (n : Int) / 100 := by simp [IntKind.wrap, IntKind.bits, IntKind.signed]; omega
  have a2 : IntKind.u8.wrap (48 + (n : Int) / 10 % 10) = 48 + (n : Int) / 10 % 10 := by simp [IntKind.wrap, IntKind.bits, IntKind.signed]; omega
  have a3 : IntKind.u8.wrap (48 + (n : Int) % 10) = 48 + (n : Int) % 10 := by simp [IntKind.wrap, IntKind.bits, IntKind.signed]; omega
  go_enter Tryz.func22, Tryz.ntmps22
  have N1 : ∀ (j : Nat) (u : Value), [Value.int .u8 (48 + (n : Int) / 10 % 10)][j]? = some u → ((w.alloc (.cells #[] 5)).alloc (.cells #[.int .u8 (48 + (n : Int) / 10 % 10)] 5)).cell? ((⟨w.heap.size + 1, 0, none⟩ : Addr).add j) = some u := by have e := one_new (w.alloc (.cells #[] 5)) (.int .u8 (48 + (n : Int) / 10 % 10)) 5; rwa [show (w.alloc (.cells #[] 5)).heap.size = w.heap.size + 1 by simp] at e
  go_wp2_with (first | (at_builtin; refine wpList_append_own _ rfl _ _ 63 rfl w.heap.size 5 i0 (.int .u8 0) 1 1 Tryz.underlying63 hi hz0 hz1 hz2 rfl (by decide) _ _ _ rfl (O0.alloc _) ⟨w.heap.size + 1, 0, none⟩ 1 1 [.int .u8 (48 + (n : Int) / 10 % 10)] rfl rfl N1 (one_ok _ _) ?c3 ?c4 ?c5 ?_))
  case c3 => unfold maxLen; omega
  case c4 => omega
  case c5 => (first | omega | (simp; omega))
  intro vw1 w1 O1 hgroww1 _
  have Bw1 : Below w.heap.size w w1 := below_grown B0 (B0.size) O0 hgroww1
  have hsw1 := Bw1.size
  clear hgroww1
  go_wp2_with (first | (at_builtin; refine wpList_append_own _ rfl _ _ 63 rfl w.heap.size 5 i0 (.int .u8 0) 1 1 Tryz.underlying63 hi hz0 hz1 hz2 rfl (by decide) _ _ _ rfl (O1.alloc _) ⟨w1.heap.size, 0, none⟩ 1 1 [.int .u8 (48 + (n : Int) % 10)] rfl rfl (one_new w1 _ _) (one_ok _ _) ?c3 ?c4 ?c5 ?_))
  case c3 => unfold maxLen; omega
  case c4 => omega
  case c5 => (first | omega | (simp; omega))
  intro vw2 w2 O2 hgroww2 _
  have Bw2 : Below w.heap.size w w2 := below_grown Bw1 (Bw1.size) O1 hgroww2
  have hsw2 := Bw2.size
  clear hgroww2
  have cv := own_text (ns := [48 + n / 10 % 10, 48 + n % 10]) (by simpa using O2) (by omega)
  go_wp2
  go_ret
  exact ⟨rfl, Bw2⟩

set_option maxRecDepth 100000 in
set_option maxHeartbeats 1600000 in
theorem rdec_one (n : Nat) (hn : n < 256) (h : ¬ 100 ≤ n) (h2 : ¬ 10 ≤ n) (w : World) :
    Calls Tryz.prog 22 #[.int .i64 n] w fun e w' => e = .returned (.string (strP [48 + n % 10])) ∧ Below w.heap.size w w' := by
  obtain ⟨i0, hi, hz0, hz1, hz2⟩ := info_parts infoU8
  have O0 : (w.alloc (.cells #[] 5)).ownsRow w.heap.size 5 1 (.slice (some ⟨w.heap.size, 0, none⟩) 0 0) 0 [] := World.ownsRow_made _ _ _ (Nat.le_refl _) (Nat.zero_le _) rfl
  have B0 : Below w.heap.size w (w.alloc (.cells #[] 5)) := by repeat (first | with_reducible exact Below.refl _ _ | with_reducible refine Below.drew ?_ | with_reducible refine Below.alloc ?_ (by first | omega | (simp <;> omega)) _ | with_reducible refine Below.setCell ?_ (by first | omega | (simp <;> omega)) _)
  have a1 : IntKind.u8.wrap (48 + (n : Int) / 100) = 48 + (n : Int) / 100 := by simp [IntKind.wrap, IntKind.bits, IntKind.signed]; omega
  have a2 : IntKind.u8.wrap (48 + (n : Int) / 10 % 10) = 48 + (n : Int) / 10 % 10 := by simp [IntKind.wrap, IntKind.bits, IntKind.signed]; omega
  have a3 : IntKind.u8.wrap (48 + (n : Int) % 10) = 48 + (n : Int) % 10 := by simp [IntKind.wrap, IntKind.bits, IntKind.signed]; omega
  go_enter Tryz.func22, Tryz.ntmps22
  have N1 : ∀ (j : Nat) (u : Value), [Value.int .u8 (48 + (n : Int) % 10)][j]? = some u → ((w.alloc (.cells #[] 5)).alloc (.cells #[.int .u8 (48 + (n : Int) % 10)] 5)).cell? ((⟨w.heap.size + 1, 0, none⟩ : Addr).add j) = some u := by have e := one_new (w.alloc (.cells #[] 5)) (.int .u8 (48 + (n : Int) % 10)) 5; rwa [show (w.alloc (.cells #[] 5)).heap.size = w.heap.size + 1 by simp] at e
  go_wp2_with (first | (at_builtin; refine wpList_append_own _ rfl _ _ 63 rfl w.heap.size 5 i0 (.int .u8 0) 1 1 Tryz.underlying63 hi hz0 hz1 hz2 rfl (by decide) _ _ _ rfl (O0.alloc _) ⟨w.heap.size + 1, 0, none⟩ 1 1 [.int .u8 (48 + (n : Int) % 10)] rfl rfl N1 (one_ok _ _) ?c3 ?c4 ?c5 ?_))
  case c3 => unfold maxLen; omega
  case c4 => omega
  case c5 => (first | omega | (simp; omega))
  intro vw1 w1 O1 hgroww1 _
  have Bw1 : Below w.heap.size w w1 := below_grown B0 (B0.size) O0 hgroww1
  have hsw1 := Bw1.size
  clear hgroww1
  have cv := own_text (ns := [48 + n % 10]) (by simpa using O1) (by omega)
  go_wp2
  go_ret
  exact ⟨rfl, Bw1⟩

theorem rdec_c {n : Nat} (hn : n < 256) (w : World) :
    Calls Tryz.prog 22 #[.int .i64 n] w fun e w' => e = .returned (.string ⟨(Lib.decDigits n).toArray⟩) ∧ Below w.heap.size w w' := by
  have e := dec_is ⟨n, hn⟩
  simp only at e
  rw [e]
  by_cases h : 100 ≤ n
  · rw [if_pos h]
    exact rdec_three n hn h w
  · rw [if_neg h]
    by_cases h2 : 10 ≤ n
    · rw [if_pos h2]
      exact rdec_two n hn h h2 w
    · rw [if_neg h2]
      exact rdec_one n hn h h2 w
end Go.Proofs.YtipjmmhlfmahbaaGreatDoor
