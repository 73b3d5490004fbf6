/-
  The walk of FrameTorn; the argument that is a slice of texts: what its cells are.
-/
import Derived.Test.YtahdgdoicpgcmaaDoorFmL
import Derived.Test.YtahdgdoicpgcmaaDoorFmE
import Derived.OpenShut
import Derived.Lib.SmallJoins
import Derived.Deep.Slices
import Derived.Deep.Strs
namespace Go.Proofs.YtahdgdoicpgcmaaDoor
open Go.ChangeShapes Go.WideShapes Go.ChangeAt Go.RowKit Go.Joins
set_option linter.unusedVariables false
set_option linter.unusedSimpArgs false

theorem cellsStrF : Tryd.prog.cellsOf 9 = 1 := by kernel_rfl

theorem strs_of {n : Nat} {P : Nat → ByteArray → Prop} (h : ∀ i, i < n → ∃ k, P i k) : ∃ xs : List ByteArray, xs.length = n ∧ ∀ i, i < n → P i (xs.getD i ⟨#[]⟩) := by
  induction n with
  | zero => exact ⟨[], rfl, fun i hi => by omega⟩
  | succ n ih =>
    obtain ⟨xs, hl, hx⟩ := ih (fun i hi => h i (by omega))
    obtain ⟨k, hk⟩ := h n (by omega)
    refine ⟨xs ++ [k], by simp [hl], fun i hi => ?_⟩
    by_cases e : i < n
    · have := hx i e
      rwa [List.getD_eq_getElem?_getD, List.getElem?_append_left (by omega), ← List.getD_eq_getElem?_getD]
    · obtain rfl : i = n := by omega
      rw [List.getD_eq_getElem?_getD, List.getElem?_append_right (by omega), hl, Nat.sub_self]
      exact hk

theorem addr_atF {W : World} {a : Addr} {v : Value} (h : W.cell? (a.add 0) = some v) : a = ⟨a.block, a.off, none⟩ := by
  have e : a.add 0 = a := by simp [Addr.add]
  rw [e] at h
  obtain ⟨b, o, s⟩ := a
  cases s with
  | none => rfl
  | some z =>
    simp only [World.cell?] at h
    split at h <;> simp at h

theorem add_noneF (b o i j : Nat) : ((⟨b, o, none⟩ : Addr).add i).add j = ⟨b, o + i + j, none⟩ := by
  unfold Addr.add
  by_cases hi : i = 0 <;> by_cases hj : j = 0 <;> simp [hi, hj]

set_option maxRecDepth 100000 in
theorem open_strs {H : Type} {enc : TypeId × Value → H} {w : World} {base : Nat} {spare : Nat → Bool} {held : Bool} {r : Reach} {b0 : Nat} {v : Value} {d : DataW H} {p : List MemPlace}
    (hv : Value.okWide Tryd.prog w r b0 29 v) (h : DataW.Trod enc Tryd.prog w base spare held 29 v d p) : ∃ L : List ByteArray, StrsAt w v L := by
  obtain ⟨a0, len, cap, rfl⟩ := okWide_slice Tryd.underlying29 hv
  obtain ⟨fuel, hf⟩ := h
  rcases Deep.open_slice Tryd.underlying29 hf with ⟨hcs, _⟩ | ⟨a, len', cap', m, n, D, Pl, hcs, hb, hl, hm, hmm, hx, hi⟩
  · have e : Value.slice a0 len cap = .slice none 0 0 := by simpa [Value.cells] using hcs
    injection e with e1 e2 e3
    subst e1 e2 e3
    exact ⟨[], none, 0, 0, 0, rfl, Or.inr rfl, by unfold maxLen; simp, fun i hi => by simp at hi⟩
  · have e : Value.slice a0 len cap = .slice (some a) len' cap' := by simpa [Value.cells] using hcs
    injection e with e1 e2 e3
    subst e1 e2 e3
    have hlm : len ≤ m := by rw [hmm]; split <;> omega
    have each : ∀ i, i < len → ∃ K : ByteArray, w.cell? ((a.add (i * 1)).add 0) = some (.string K) := by
      intro i hil
      obtain ⟨cs', h1, h2⟩ := hi i (by omega)
      rw [cellsStrF] at h1
      obtain ⟨_, hlen, hcell⟩ := World.cells?_some h1
      match cs', hlen with
      | [v0], _ =>
        obtain ⟨K, e0, _, wa⟩ := DataW.trod_string Tryd.underlying9 h2
        simp at e0
        subst e0
        exact ⟨K, by simpa using hcell 0 (by omega)⟩
    obtain ⟨L, hL, hc⟩ := strs_of each
    have hml : len ≤ maxLen := by omega
    by_cases h0 : len = 0
    · exact ⟨L, some a, cap, 0, 0, by rw [hL], Or.inr (by omega), by omega, fun i hi => by omega⟩
    · have c0 := hc 0 (by omega)
      rw [Nat.zero_mul] at c0
      have ea : a = ⟨a.block, a.off, none⟩ := addr_atF (by
        have : (a.add 0).add 0 = a.add 0 := by simp [Addr.add]
        rw [this] at c0
        exact c0)
      refine ⟨L, some a, cap, a.block, a.off, by rw [hL], Or.inl (by rw [← ea]), by omega, fun i hi => ?_⟩
      have c1 := hc i (by omega)
      rw [ea, add_noneF, Nat.mul_one, Nat.add_zero] at c1
      exact c1

theorem pk_le {L : List ByteArray} (h : ∀ s, s ∈ L → s.size ≤ 300) : (pkF gs (datL L)).length ≤ 308 * L.length := by
  induction L with
  | nil => exact Nat.le_refl _
  | cons a L ih =>
    have i := ih (fun s hs => h s (List.mem_cons_of_mem _ hs))
    have e : pkF gs (datL (a :: L)) = frF gs a.data.toList ++ pkF gs (datL L) := rfl
    have q := h a (List.mem_cons_self ..)
    rw [e, List.length_append, frF_length, len_of, List.length_cons]
    omega

theorem smallF {A : Nat} (h : A < 1000) : wrap64 (A : Int) = (A : Int) ∧ IntKind.i64.wrap (A : Int) = (A : Int) ∧ IntKind.u64.wrap (A : Int) = (A : Int) := by
  refine ⟨?_, wr64 (by omega), ?_⟩
  · unfold wrap64
    omega
  · rw [IntKind.wrap_u64]
    omega

/-- Where the next frame is torn. -/
theorem cutF (z : Int) {m : Nat} (hm : 0 < m) : ∃ A : Nat, (IntKind.u64.wrap z).tmod (m : Int) = (A : Int) ∧ A < m := by
  have p : 0 ≤ IntKind.u64.wrap z := by rw [IntKind.wrap_u64]; omega
  have q1 := Int.emod_nonneg (IntKind.u64.wrap z) (show (m : Int) ≠ 0 by omega)
  have q2 := Int.emod_lt_of_pos (IntKind.u64.wrap z) (show 0 < (m : Int) by omega)
  rw [Int.tmod_eq_emod_of_nonneg p]
  exact ⟨(IntKind.u64.wrap z % (m : Int)).toNat, by omega, by omega⟩

set_option maxRecDepth 100000 in
set_option maxHeartbeats 6400000 in
theorem frametorn_walk {v : Value} {L : List ByteArray} (s : ByteArray) (hs : s.size ≤ maxLen) {z : Int} (hz : -9223372036854775808 ≤ z ∧ z ≤ 9223372036854775807) (w : World) (hA : StrsAt w v L) (hT : RM w) :
    Calls Tryd.prog 5 #[v, .string s, .int .i64 z] w fun e w' => e = .returned (.bool true) ∧ Below w.heap.size w w' := by
  unfold maxLen at hs
  have AW := hide (awake_c w hT)
  have HT := hide hT
  have HA := hide hA
  obtain ⟨x, cap, b, o, rfl, e1, hm, hc⟩ := hA
  have H1 := hide e1
  have HC := hide hc
  clear hT e1 hc
  by_cases hout : 30 < L.length ∨ 300 < s.size
  · obtain ⟨n, hn⟩ : ∃ n, L.length = n := ⟨_, rfl⟩
    rw [hn] at hout ⊢
    clear HT HA H1 HC hm hn
    by_cases h30 : 30 < n
    · have c : (n : Int) > 30 := by omega
      go_enter Tryd.func5, Tryd.ntmps5
      go_wp2_with fail
      refine AW.out.mono ?_
      rintro e w1 ⟨rfl, hb1⟩
      have B := hide hb1
      clear hb1 AW hout
      go_wp2
      go_ret
      exact ⟨by first | rfl | simp, B.out⟩
    · have c : ¬ (n : Int) > 30 := by omega
      have c2 : (s.size : Int) > 300 := by omega
      go_enter Tryd.func5, Tryd.ntmps5
      go_wp2_with fail
      refine AW.out.mono ?_
      rintro e w1 ⟨rfl, hb1⟩
      have B := hide hb1
      clear hb1 AW hout
      go_wp2
      go_ret
      exact ⟨by first | rfl | simp, B.out⟩
  obtain ⟨n, hn⟩ : ∃ n, L.length = n := ⟨_, rfl⟩
  rw [hn] at hout hm H1 HC HA
  rw [hn]
  have c1 : ¬ (n : Int) > 30 := by omega
  have c2 : ¬ (s.size : Int) > 300 := by omega
  have sl : s.size ≤ 300 := by omega
  have nl : n ≤ 30 := by omega
  have HN := hide hn
  clear hm hout hn
  go_enter Tryd.func5, Tryd.ntmps5
  go_wp2_with fail
  refine AW.out.mono ?_
  rintro e w1 ⟨rfl, hb1⟩
  have B1 := hide hb1
  clear hb1 AW
  go_wp2_with fail
  go_loopw [7] (fun i wr => ∃ k : Nat, k ≤ n ∧ i = .int .i64 k ∧ Hid (∀ j, j < k → (L.getD j ⟨#[]⟩).size ≤ 300) ∧ Hid (Below w.heap.size w wr)) (fun i _ => n - (intOf i).toNat)
  case atStart => exact ⟨0, Nat.zero_le _, rfl, fun j hj => by omega, B1⟩
  case round =>
    obtain ⟨k, hk, rfl, hJ, hB⟩ := hrel
    clear B1
    by_cases hlt : k < n
    · have hki : (k : Int) < (n : Int) := by omega
      have c3 := HC.out k hlt
      have d1 := (hB.out.cell (p := ⟨b, o + k, none⟩) (cell_ltF c3)).trans c3
      obtain ⟨t, ht⟩ : ∃ t, L.getD k ⟨#[]⟩ = t := ⟨_, rfl⟩
      rw [ht] at d1
      obtain rfl : x = some ⟨b, o, none⟩ := by rcases H1.out with h | h; exact h; omega
      by_cases hbig : 300 < t.size
      · have c4 : (t.size : Int) > 300 := by omega
        clear c3 ht HC H1 HA HT HN hJ
        go_wp2
        go_ret
        exact ⟨by first | rfl | simp, hB.out⟩
      · have c4 : ¬ (t.size : Int) > 300 := by omega
        have HJ : Hid (∀ j, j < k + 1 → (L.getD j ⟨#[]⟩).size ≤ 300) := fun j hj => by
          by_cases e : j < k
          · exact hJ.out j e
          · obtain rfl : j = k := by omega
            rw [ht]; omega
        clear c3 ht HC H1 HA HT HN hJ
        go_wp2
        go_roundw
        case measure => simp [intOf]; omega
        case rel => exact ⟨k + 1, by omega, by go_num, HJ, hB⟩
    · obtain rfl : k = n := by omega
      have hki : ¬ (k : Int) < (k : Int) := by omega
      have hln := HN.out
      have each : ∀ t, t ∈ L → t.size ≤ 300 := by
        intro t ht
        obtain ⟨j, hj, rfl⟩ := List.getElem_of_mem ht
        have q := hJ.out j (by omega)
        rwa [List.getD_eq_getElem?_getD, List.getElem?_eq_getElem hj] at q
      have hz1 := pk_le each
      obtain ⟨T, hTT⟩ : ∃ T : ByteArray, T.data.toList = pkF gs (datL L) := ⟨⟨(pkF gs (datL L)).toArray⟩, by simp⟩
      obtain ⟨U, hU⟩ : ∃ U, frB s = U := ⟨_, rfl⟩
      have zT : T.size ≤ 10000 := by rw [← len_of, hTT]; omega
      have zU : U.size = 8 + s.size := by rw [← hU, frB_size]
      have big : ∀ t, t ∈ datL L → t.length ≤ 65536 := by
        intro t ht
        obtain ⟨r, hr, rfl⟩ := List.mem_map.1 ht
        have := each r hr
        rw [len_of]; omega
      obtain ⟨m, hm⟩ : ∃ m, U.size = m := ⟨_, rfl⟩
      rw [hm] at zU
      have m0 : 0 < m := by omega
      have m9 : m < 1000 := by omega
      have hU0 : ¬ (m : Int) = 0 := by omega
      obtain ⟨A, hA1, hA2⟩ := cutF z m0
      have HA1 := hide hA1
      clear hA1
      have scT : scF gs T.data.toList = (datL L, T.size) := by
        rw [hTT, scF_packed gs big, ← hTT, len_of]
      have scU : scF gs (T ++ U.extract 0 A).data.toList = (datL L, T.size) := by
        rw [app_list, ext_seg, hTT, List.drop_zero, Nat.sub_zero, ← hU, frB_list, scF_torn gs big (by rw [len_of]; omega) (by rw [len_of]; omega), ← hTT, len_of]
      obtain ⟨V, hV⟩ : ∃ V, U.extract 0 A = V := ⟨_, rfl⟩
      have zV : V.size ≤ 308 := by rw [← hV, ByteArray.size_extract]; omega
      rw [hV] at scU
      have zTV : (T ++ V).size = T.size + V.size := ByteArray.size_append ..
      have CP := hide (fun w h h' => pack_c (L := L) (v := .slice x k cap) (fun t ht => by have := each t ht; omega) (by omega) w h h' hTT)
      have CO := hide (fun w h => of_ok s (by omega) hU w h)
      have CS := hide (fun w h => scan_c (T ++ V) (by omega) scU w h)
      have CU := hide (fun w h => unpack_ok T (by omega) scT w h)
      have SM := hide (fun w v v' h h' => same_c (L := L) (v := v) (v' := v') w h h')
      have hA3 : (A : Int) ≤ (m : Int) := by omega
      have hA5 := (smallF (Nat.lt_trans hA2 m9)).1
      have mI : (m : Int) ≤ 999 := by omega
      have hAB := hide (HA.out.below hB.out)
      have sTV : T.size + V.size ≤ 20000 := by omega
      clear hln each hz1 hTT hU big scT scU zTV hJ HC H1 HA HN c2 sl nl c1 zU m0 hA2
      have hA1 := HA1.out
      go_wp2_with fail
      refine (CP.out _ hAB.out (HT.out.below hB.out)).mono ?_
      rintro e w2 ⟨rfl, hb2⟩
      have B2 := hide (hB.out.trans (hb2.mono hB.out.size))
      have A2 := hide (hAB.out.below hb2)
      clear hb2 hB hAB CP
      go_wp2_with fail
      refine (CO.out _ (HT.out.below B2.out)).mono ?_
      rintro e w3 ⟨rfl, hb3⟩
      have B3 := hide (B2.out.trans (hb3.mono B2.out.size))
      have A3 := hide (A2.out.below hb3)
      clear hb3 B2 A2 CO
      go_wp2_with fail
      refine (CS.out _ (HT.out.below B3.out)).mono ?_
      rintro e w4 ⟨v4, rfl, hS4, hb4⟩
      have B4 := hide (B3.out.trans (hb4.mono B3.out.size))
      have A4 := hide (A3.out.below hb4)
      have S4 := hide hS4
      clear hb4 hS4 B3 A3 CS
      go_wp2_with fail
      refine (CU.out _ (HT.out.below B4.out)).mono ?_
      rintro e w5 ⟨v5, rfl, hS5, hb5⟩
      have B5 := hide (B4.out.trans (hb5.mono B4.out.size))
      have A5 := hide (A4.out.below hb5)
      have S45 := hide (S4.out.below hb5)
      have S5 := hide hS5
      clear hb5 hS5 B4 A4 S4 CU HT
      go_wp2_with fail
      refine (SM.out _ _ _ S45.out A5.out).mono ?_
      rintro e w6 ⟨rfl, hb6⟩
      have B6 := hide (B5.out.trans (hb6.mono B5.out.size))
      have A6 := hide (A5.out.below hb6)
      have S6 := hide (S5.out.below hb6)
      clear hb6 B5 A5 S5 S45
      go_wp2_with fail
      refine (SM.out _ _ _ S6.out A6.out).mono ?_
      rintro e w7 ⟨rfl, hb7⟩
      have B7 := hide (B6.out.trans (hb7.mono B6.out.size))
      clear hb7 B6 A6 S6
      go_wp2
      go_ret
      exact ⟨by first | rfl | simp, B7.out⟩
end Go.Proofs.YtahdgdoicpgcmaaDoor
