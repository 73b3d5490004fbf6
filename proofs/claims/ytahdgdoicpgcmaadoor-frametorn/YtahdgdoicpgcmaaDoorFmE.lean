/-
  strings.Builder's WriteString; package frame: Pack.
-/
import Derived.Test.YtahdgdoicpgcmaaDoorFmC
import Derived.Lib.Builder
import Derived.Lib.AppendStr
namespace Go.Proofs.YtahdgdoicpgcmaaDoor
open Go.ChangeShapes Go.WideShapes Go.ChangeAt Go.RowKit
set_option linter.unusedVariables false
set_option linter.unusedSimpArgs false

theorem sizeBld : (Tryd.prog.info? 47).map (·.size) = some 2 := by kernel_rfl
theorem liesBld : liesAt Tryd.prog Tryd.prog.depth 47 (2 / Tryd.prog.cellsOf 47) 0 47 1 = true := by kernel_rfl

set_option maxHeartbeats 1000000 in
set_option maxRecDepth 100000 in
/-- A builder that has been used: nothing turns. -/
theorem check_used (b : Nat) (w : World) (h0 : w.cell? ⟨b, 0, none⟩ = some (.pointer (some ⟨b, 0, none⟩))) :
    Calls Tryd.prog 27 #[.pointer (some ⟨b, 0, none⟩)] w fun e w' => e = .returned (.tuple #[]) ∧ w' = w := by
  obtain ⟨j, hj, _⟩ := Option.map_eq_some_iff.1 sizeBld
  go_enter Tryd.func27, Tryd.ntmps27
  go_wp2
  rw [Lib.run_neq_ptr_same w _ Tryd.underlying44 hj]
  go_wp2
  go_end0
  exact ⟨rfl, rfl⟩

set_option maxHeartbeats 1000000 in
set_option maxRecDepth 100000 in
/-- A fresh builder stores its own address. -/
theorem check_fresh (b : Nat) (w : World) (h0 : w.cell? ⟨b, 0, none⟩ = some (.pointer none)) (hsh : w.shape? b = some (47, 2)) (hfz : w.frozen? ⟨b, 0, none⟩ = false) :
    Calls Tryd.prog 27 #[.pointer (some ⟨b, 0, none⟩)] w fun e w' => e = .returned (.tuple #[]) ∧ w' = w.setCell ⟨b, 0, none⟩ (.pointer (some ⟨b, 0, none⟩)) := by
  obtain ⟨j, hj, hjs⟩ := Option.map_eq_some_iff.1 sizeBld
  go_enter Tryd.func27, Tryd.ntmps27
  go_wp2
  rw [Lib.run_to_unsafe w ⟨b, 0, none⟩ Tryd.underlying44 Tryd.underlying58 hj (by rw [hjs]; decide) hsh (Nat.zero_lt_succ 1)]
  simp only [Result.andThen]
  rw [Oper.upon_value]
  go_wp2
  rw [run_callFunc_extern Tryd.func30 (by kernel_rfl) (by kernel_rfl) (by kernel_rfl) (e := Extern.AbiNoEscape.same) (by kernel_rfl)]
  rw [Lib.run_noEscape]
  simp only [Result.andThen]
  rw [Oper.upon_value]
  go_wp2
  rw [Lib.run_from_unsafe w ⟨b, 0, none⟩ Tryd.underlying58 Tryd.underlying44 hj hsh liesBld]
  simp only [Result.andThen]
  rw [Oper.upon_value]
  go_wp2
  go_end0
  exact ⟨rfl, rfl⟩

/-- Behind it the builder is used; its bytes are as they were. -/
theorem check_c (B b : Nat) (bs : List Value) (w : World) (h : Lib.IsBuilder 47 5 B b bs w) :
    Calls Tryd.prog 27 #[.pointer (some ⟨b, 0, none⟩)] w fun e w' => e = .returned (.tuple #[]) ∧ (Lib.BuilderAt 47 5 B b (.pointer (some ⟨b, 0, none⟩)) bs w' ∧ Below B w w') := by
  rcases h with h | h
  · refine (check_fresh b w h.cell0 h.shape h.frozen0).mono ?_
    rintro e w' ⟨rfl, rfl⟩
    exact ⟨rfl, h.used _, (Below.refl B w).setCell (p := ⟨b, 0, none⟩) h.1 _⟩
  · refine (check_used b w h.cell0).mono ?_
    rintro e w' ⟨rfl, rfl⟩
    exact ⟨rfl, h, Below.refl B _⟩

set_option maxHeartbeats 2000000 in
set_option maxRecDepth 100000 in
theorem wstr_c (B b : Nat) (bs : List Value) (s : ByteArray) (w : World) (h : Lib.IsBuilder 47 5 B b bs w) (hlen : bs.length + s.size ≤ 140737488355328) (hBw : B ≤ w.heap.size) :
    Calls Tryd.prog 21 #[.pointer (some ⟨b, 0, none⟩), .string s] w fun e w' => e = .returned (.tuple #[.int .i64 s.size, .nilIface]) ∧ (Lib.BuilderAt 47 5 B b (.pointer (some ⟨b, 0, none⟩)) (bs ++ Lib.strCells s) w' ∧ Below B w w') := by
  obtain ⟨i0, hi, hz0, hz1, hz2⟩ := info_parts infoQ
  have C1 := hide (check_c B b bs w h)
  clear h
  go_enter Tryd.func21, Tryd.ntmps21
  go_wp2_with fail
  refine C1.out.mono ?_
  rintro e w1 ⟨rfl, h1, hb1⟩
  obtain ⟨hB, v, hbk, hown, hne⟩ := h1
  have c0 : w1.cell? ⟨b, 0, none⟩ = some (.pointer (some ⟨b, 0, none⟩)) := by rw [Lib.cell_of_heap hbk]; rfl
  have c1 : w1.cell? ⟨b, 1, none⟩ = some v := by rw [Lib.cell_of_heap hbk]; rfl
  go_wp2_with (at_builtin; refine Lib.wpList_append_own_string _ rfl _ _ 45 9 rfl B 5 i0 Tryd.underlying45 Tryd.underlying9 hi hz0 hz1 hz2 _ _ _ rfl hown s rfl ?c3 ?c4 ?c5 ?_)
  case c3 => unfold maxLen; omega
  case c4 => omega
  case c5 => have := hb1.size; omega
  intro v' w2 hown' hgrow hnil
  have hlt : b < w1.heap.size := by
    rcases Nat.lt_or_ge b w1.heap.size with h' | h'
    · exact h'
    · simp [Array.getElem?_eq_none h'] at hbk
  have hb2 : w2.heap[b]? = some (.cells #[.pointer (some ⟨b, 0, none⟩), v] 47 (0, 0)) := by
    rw [hgrow.block b hlt (fun e => hne e.symm)]
    exact hbk
  have d0 : w2.cell? ⟨b, 0, none⟩ = some (.pointer (some ⟨b, 0, none⟩)) := by rw [Lib.cell_of_heap hb2]; rfl
  have d1 : w2.cell? ⟨b, 1, none⟩ = some v := by rw [Lib.cell_of_heap hb2]; rfl
  have f1 : w2.frozen? ⟨b, 1, none⟩ = false := Lib.frozen_of_heap hb2 1
  have X1 := hide hown
  have X2 := hide hown'
  have X3 := hide hgrow
  have X4 := hide hb2
  have X5 := hide hb1
  clear hnil hown hown' hgrow hb2 hbk hb1 c0 c1 hne C1 hlt
  obtain ⟨ao, n', cap, rfl⟩ : ∃ ao n' cap, v' = .slice ao n' cap := by
    rcases X2.out.2 with ⟨hv, _⟩ | ⟨g, cap, cur, hv, _⟩
    · exact ⟨_, _, _, hv⟩
    · exact ⟨_, _, _, hv⟩
  go_wp2
  go_ret2
  refine ⟨rfl, ?_, ?_⟩
  · have hw := X2.out
    exact Lib.BuilderAt.put (T := 47) (e := 5) hB X4.out (bs' := bs ++ Lib.strCells s) (by simpa [Lib.strCells_length] using hw) (by decide)
  · exact (X5.out.grown X3.out (by have := X5.out.size; omega) (fun k hk => (X1.out.lt k hk).1)).setCell (p := ⟨b, 1, none⟩) hB _

theorem bld_below {B b : Nat} {bs : List Value} {w w' : World} (h : Lib.IsBuilder 47 5 B b bs w) (k : Below w.heap.size w w') : Lib.IsBuilder 47 5 B b bs w' := by
  rcases h with ⟨h1, v, h2, h3, h4⟩ | ⟨h1, v, h2, h3, h4⟩
  · exact Or.inl ⟨h1, v, (k.block b (Array.getElem?_eq_some_iff.1 h2).1).trans h2, own_belowF h3 k, h4⟩
  · exact Or.inr ⟨h1, v, (k.block b (Array.getElem?_eq_some_iff.1 h2).1).trans h2, own_belowF h3 k, h4⟩

theorem pk_take {L : List ByteArray} {k : Nat} (hk : k < L.length) : pkF gs (datL (L.take (k + 1))) = pkF gs (datL (L.take k)) ++ (frB (L.getD k ⟨#[]⟩)).data.toList := by
  have e : L.take (k + 1) = L.take k ++ [L.getD k ⟨#[]⟩] := by
    rw [List.take_add_one, List.getD_eq_getElem?_getD, List.getElem?_eq_getElem hk]
    rfl
  rw [e, frB_list]
  unfold datL
  rw [List.map_append]
  exact pkF_snoc _ _ _

theorem pk_take_le {L : List ByteArray} (k : Nat) : (pkF gs (datL (L.take k))).length ≤ (pkF gs (datL L)).length := by
  have e : pkF gs (datL L) = pkF gs (datL (L.take k)) ++ pkF gs (datL (L.drop k)) := by
    unfold pkF datL
    rw [← List.flatten_append, ← List.map_append, ← List.map_append, List.take_append_drop]
  rw [e, List.length_append]
  omega

set_option maxRecDepth 100000 in
set_option maxHeartbeats 3200000 in
theorem pack_c {L : List ByteArray} {v : Value} (hL : ∀ s, s ∈ L → s.size ≤ 65536) (hz : (pkF gs (datL L)).length ≤ 1000000) (w : World) (hA : StrsAt w v L) (hT : RM w) {T : ByteArray} (hTT : T.data.toList = pkF gs (datL L)) :
    Calls Tryd.prog 15 #[v] w fun e w' => e = .returned (.tuple #[.string T, .int .i64 0]) ∧ Below w.heap.size w w' := by
  obtain ⟨x, cap, b, o, rfl, e1, hm, hc⟩ := hA
  have H1 := hide e1
  have HC := hide hc
  have HT := hide hT
  obtain ⟨n, hn⟩ : ∃ n, L.length = n := ⟨_, rfl⟩
  rw [hn] at H1 HC hm
  rw [hn]
  unfold maxLen at hm
  clear e1 hc hT
  go_enter Tryd.func15, Tryd.ntmps15
  have F0 := hide (Lib.fresh_isBuilder 47 5 w)
  have G0 := hide ((Below.refl w.heap.size w).alloc (Nat.le_refl _) (.cells #[.pointer none, .slice none 0 0] 47))
  have HM : Hid (∀ k, k < n → (L.getD k ⟨#[]⟩).size ≤ 65536) := fun k hk => hL _ (by
    rw [List.getD_eq_getElem?_getD, List.getElem?_eq_getElem (by omega)]
    exact List.getElem_mem _)
  have HP := hide (fun k (hk : k < n) => pk_take (L := L) (k := k) (by omega))
  have HZ : Hid (∀ k, (pkF gs (datL (L.take k))).length ≤ 1000000) := fun k => Nat.le_trans (pk_take_le k) hz
  have HE : Hid ((⟨(pkF gs (datL (L.take n))).toArray⟩ : ByteArray) = T) := by
    apply bytes_eqF
    rw [hTT, ← hn, List.take_length]
  clear hL hz hTT hn
  go_wp2_with fail
  go_loopw [11] (fun i wr => ∃ k : Nat, k ≤ n ∧ i = .int .i64 k ∧ Hid (Lib.IsBuilder 47 5 w.heap.size w.heap.size (Lib.byteCells (pkF gs (datL (L.take k)))) wr) ∧ Hid (Below w.heap.size w wr)) (fun i _ => n - (intOf i).toNat)
  case atStart => exact ⟨0, Nat.zero_le _, rfl, F0.out, G0⟩
  case round =>
    obtain ⟨k, hk, rfl, hI, hB⟩ := hrel
    by_cases hlt : k < n
    · have hki : (k : Int) < (n : Int) := by omega
      have c1 := HC.out k hlt
      have d1 := (hB.out.cell (p := ⟨b, o + k, none⟩) (cell_ltF c1)).trans c1
      have hp := HP.out k hlt
      have hz := HZ.out (k + 1)
      obtain ⟨t, ht⟩ : ∃ t, L.getD k ⟨#[]⟩ = t := ⟨_, rfl⟩
      have hm2 := HM.out k hlt
      rw [ht] at d1 hp hm2
      obtain ⟨F, hF⟩ : ∃ F, frB t = F := ⟨_, rfl⟩
      rw [hF] at hp
      have C1 := hide (of_ok t hm2 hF wr (HT.out.below hB.out))
      obtain ⟨bs, hbs⟩ : ∃ bs, pkF gs (datL (L.take k)) = bs := ⟨_, rfl⟩
      rw [hbs] at hI hp
      rw [hp, List.length_append, len_of] at hz
      obtain rfl : x = some ⟨b, o, none⟩ := by rcases H1.out with h | h; exact h; omega
      have HP2 := hide hp
      clear c1 ht HC H1 HP HZ HM HE F0 G0 hp hbs hF hm2
      go_wp2_with fail
      refine C1.out.mono ?_
      rintro e w1 ⟨rfl, hb1⟩
      have I1 := bld_below hI.out hb1
      have B1 := hB.out.trans (hb1.mono hB.out.size)
      have C2 := hide (wstr_c w.heap.size w.heap.size (Lib.byteCells bs) F w1 I1 (by rw [Lib.byteCells_length]; omega) B1.size)
      have B1' := hide B1
      clear I1 B1 hb1 C1 hI hB hz d1
      go_wp2_with fail
      refine C2.out.mono ?_
      rintro e w2 ⟨rfl, hI2, hb2⟩
      have B2 := hide (B1'.out.trans hb2)
      have I2 : Hid (Lib.IsBuilder 47 5 w.heap.size w.heap.size (Lib.byteCells (pkF gs (datL (L.take (k + 1))))) w2) := by
        rw [HP2.out, Lib.byteCells_append]
        exact Or.inr hI2
      clear hI2 hb2 C2 B1' HP2
      go_wp2
      go_roundw
      case measure => simp [intOf]; omega
      case rel => exact ⟨k + 1, by omega, by go_num, I2, B2⟩
    · obtain rfl : k = n := by omega
      have hki : ¬ (k : Int) < (k : Int) := by omega
      have C3 := hide (Tryd.Builder_String_any w.heap.size w.heap.size (pkF gs (datL (L.take k))) wr hI.out hB.out.size)
      rw [HE.out] at C3
      clear HC H1 HP HZ HM HE F0 G0 hI
      go_wp2_with fail
      refine C3.out.mono ?_
      rintro e w1 ⟨rfl, hb1⟩
      have B1 := hide (hB.out.trans hb1)
      clear hb1 C3 hB
      go_wp2
      go_ret2
      exact ⟨by first | rfl | simp, B1.out⟩
end Go.Proofs.YtahdgdoicpgcmaaDoor
