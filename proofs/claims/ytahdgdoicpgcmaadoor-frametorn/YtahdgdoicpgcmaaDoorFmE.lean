/-
  strings.Builder's WriteString; package frame: Pack.
-/
import Derived.Test.YtahdgdoicpgcmaaDoorFmC
import Derived.Shelf.Strings.Builder1
namespace Go.Proofs.YtahdgdoicpgcmaaDoor
open Go.ChangeShapes Go.WideShapes Go.ChangeAt Go.RowKit
set_option linter.unusedVariables false
set_option linter.unusedSimpArgs false

/-- Which numbers the library's names have here. -/
def renB : Go.Shelf.Ren := ⟨fun | 166 => 21 | 240 => 27 | 276 => 30 | n => n, fun | 0 => 0 | 3 => 3 | 4 => 4 | 9 => 9 | 20 => 20 | 37 => 45 | 70 => 44 | 72 => 47 | 75 => 49 | 164 => 58 | 5 => 5 | 80 => 52 | n => n, fun | n => n⟩

theorem layB : Go.Proofs.Lays.n166 Tryd.prog renB := {
  mixed := by kernel_rfl
  f166 := Tryd.func21.trans (congrArg some (by kernel_rfl))
  f240 := Tryd.func27.trans (congrArg some (by kernel_rfl))
  f276 := Tryd.func30.trans (congrArg some (by kernel_rfl))
  t0 := Tryd.underlying0
  a0 := Tryd.isAgg0
  z0 := Tryd.sizeOf0
  v0 := Tryd.zeroValue0
  t3 := Tryd.underlying3
  a3 := Tryd.isAgg3
  z3 := Tryd.sizeOf3
  v3 := Tryd.zeroValue3
  t4 := Tryd.underlying4
  a4 := Tryd.isAgg4
  z4 := Tryd.sizeOf4
  v4 := Tryd.zeroValue4
  t9 := Tryd.underlying9
  a9 := Tryd.isAgg9
  z9 := Tryd.sizeOf9
  v9 := Tryd.zeroValue9
  t20 := Tryd.underlying20
  a20 := Tryd.isAgg20
  z20 := Tryd.sizeOf20
  v20 := Tryd.zeroValue20
  t37 := Tryd.underlying45
  a37 := Tryd.isAgg45
  z37 := Tryd.sizeOf45
  v37 := Tryd.zeroValue45
  t70 := Tryd.underlying44
  a70 := Tryd.isAgg44
  z70 := Tryd.sizeOf44
  v70 := Tryd.zeroValue44
  t72 := Tryd.underlying47
  a72 := Tryd.isAgg47
  z72 := Tryd.sizeOf47
  v72 := Tryd.zeroValue47
  t75 := Tryd.underlying49
  a75 := Tryd.isAgg49
  z75 := Tryd.sizeOf49
  v75 := Tryd.zeroValue49
  t164 := Tryd.underlying58
  a164 := Tryd.isAgg58
  z164 := Tryd.sizeOf58
  v164 := Tryd.zeroValue58 }

theorem extraB : Builder.Extra Tryd.prog renB := {
  sizeBuilder := by kernel_rfl
  liesBuilder := by kernel_rfl
  t5 := Tryd.underlying5
  a5 := Tryd.isAgg5
  z5 := Tryd.sizeOf5
  v5 := Tryd.zeroValue5
  infoByte := by kernel_rfl
  cellsByte := by kernel_rfl
  sizeByte := by kernel_rfl
  neB5 := by decide }

theorem wstr_c (B b : Nat) (bs : List Value) (s : ByteArray) (w : World) (h : Lib.IsBuilder 47 5 B b bs w) (hlen : bs.length + s.size ≤ 140737488355328) (hBw : B ≤ w.heap.size) :
    Calls Tryd.prog 21 #[.pointer (some ⟨b, 0, none⟩), .string s] w fun e w' => e = .returned (.tuple #[.int .i64 s.size, .nilIface]) ∧ (Lib.BuilderAt 47 5 B b (.pointer (some ⟨b, 0, none⟩)) (bs ++ Lib.strCells s) w' ∧ Below B w w') :=
  Any.Builder_WriteString layB extraB B b bs s w h hlen hBw

theorem bld_below {B b : Nat} {bs : List Value} {w w' : World} (h : Lib.IsBuilder 47 5 B b bs w) (k : Below w.heap.size w w') : Lib.IsBuilder 47 5 B b bs w' := by
  rcases h with ⟨h1, v, h2, h3, h4⟩ | ⟨h1, v, h2, h3, h4⟩
  · exact Or.inl ⟨h1, v, (k.block b (Array.getElem?_eq_some_iff.1 h2).1).trans h2, own_belowF h3 k, h4⟩
  · exact Or.inr ⟨h1, v, (k.block b (Array.getElem?_eq_some_iff.1 h2).1).trans h2, own_belowF h3 k, h4⟩

theorem pk_take {L : List ByteArray} {k : Nat} (hk : k < L.length) : pkF gs (datL (L.take (k + 1))) = pkF gs (datL (L.take k)) ++ (frB (L.getD k ⟨#[]⟩)).data.toList := by
  have e : L.take (k + 1) = L.take k ++ [L.getD k ⟨#[]⟩] := by
    rw [List.take_add_one, List.getD_eq_getElem?_getD, List.getElem?_eq_getElem hk]
    rfl
  rw [e, frB_list]
  unfold datL
  rw [List.map_append]
  exact pkF_snoc _ _ _

theorem pk_take_le {L : List ByteArray} (k : Nat) : (pkF gs (datL (L.take k))).length ≤ (pkF gs (datL L)).length := by
  have e : pkF gs (datL L) = pkF gs (datL (L.take k)) ++ pkF gs (datL (L.drop k)) := by
    unfold pkF datL
    rw [← List.flatten_append, ← List.map_append, ← List.map_append, List.take_append_drop]
  rw [e, List.length_append]
  omega

set_option maxRecDepth 100000 in
set_option maxHeartbeats 3200000 in
theorem pack_c {L : List ByteArray} {v : Value} (hL : ∀ s, s ∈ L → s.size ≤ 65536) (hz : (pkF gs (datL L)).length ≤ 1000000) (w : World) (hA : StrsAt w v L) (hT : RM w) {T : ByteArray} (hTT : T.data.toList = pkF gs (datL L)) :
    Calls Tryd.prog 15 #[v] w fun e w' => e = .returned (.tuple #[.string T, .int .i64 0]) ∧ Below w.heap.size w w' := by
  obtain ⟨x, cap, b, o, rfl, e1, hm, hc⟩ := hA
  have H1 := hide e1
  have HC := hide hc
  have HT := hide hT
  obtain ⟨n, hn⟩ : ∃ n, L.length = n := ⟨_, rfl⟩
  rw [hn] at H1 HC hm
  rw [hn]
  unfold maxLen at hm
  clear e1 hc hT
  go_enter Tryd.func15, Tryd.ntmps15
  have F0 := hide (Lib.fresh_isBuilder 47 5 w)
  have G0 := hide ((Below.refl w.heap.size w).alloc (Nat.le_refl _) (.cells #[.pointer none, .slice none 0 0] 47))
  have HM : Hid (∀ k, k < n → (L.getD k ⟨#[]⟩).size ≤ 65536) := fun k hk => hL _ (by
    rw [List.getD_eq_getElem?_getD, List.getElem?_eq_getElem (by omega)]
    exact List.getElem_mem _)
  have HP := hide (fun k (hk : k < n) => pk_take (L := L) (k := k) (by omega))
  have HZ : Hid (∀ k, (pkF gs (datL (L.take k))).length ≤ 1000000) := fun k => Nat.le_trans (pk_take_le k) hz
  have HE : Hid ((⟨(pkF gs (datL (L.take n))).toArray⟩ : ByteArray) = T) := by
    apply bytes_eqF
    rw [hTT, ← hn, List.take_length]
  clear hL hz hTT hn
  go_wp2_with fail
  go_loopw [11] (fun i wr => ∃ k : Nat, k ≤ n ∧ i = .int .i64 k ∧ Hid (Lib.IsBuilder 47 5 w.heap.size w.heap.size (Lib.byteCells (pkF gs (datL (L.take k)))) wr) ∧ Hid (Below w.heap.size w wr)) (fun i _ => n - (intOf i).toNat)
  case atStart => exact ⟨0, Nat.zero_le _, rfl, F0.out, G0⟩
  case round =>
    obtain ⟨k, hk, rfl, hI, hB⟩ := hrel
    by_cases hlt : k < n
    · have hki : (k : Int) < (n : Int) := by omega
      have c1 := HC.out k hlt
      have d1 := (hB.out.cell (p := ⟨b, o + k, none⟩) (cell_ltF c1)).trans c1
      have hp := HP.out k hlt
      have hz := HZ.out (k + 1)
      obtain ⟨t, ht⟩ : ∃ t, L.getD k ⟨#[]⟩ = t := ⟨_, rfl⟩
      have hm2 := HM.out k hlt
      rw [ht] at d1 hp hm2
      obtain ⟨F, hF⟩ : ∃ F, frB t = F := ⟨_, rfl⟩
      rw [hF] at hp
      have C1 := hide (of_ok t hm2 hF wr (HT.out.below hB.out))
      obtain ⟨bs, hbs⟩ : ∃ bs, pkF gs (datL (L.take k)) = bs := ⟨_, rfl⟩
      rw [hbs] at hI hp
      rw [hp, List.length_append, len_of] at hz
      obtain rfl : x = some ⟨b, o, none⟩ := by rcases H1.out with h | h; exact h; omega
      have HP2 := hide hp
      clear c1 ht HC H1 HP HZ HM HE F0 G0 hp hbs hF hm2
      go_wp2_with fail
      refine C1.out.mono ?_
      rintro e w1 ⟨rfl, hb1⟩
      have I1 := bld_below hI.out hb1
      have B1 := hB.out.trans (hb1.mono hB.out.size)
      have C2 := hide (wstr_c w.heap.size w.heap.size (Lib.byteCells bs) F w1 I1 (by rw [Lib.byteCells_length]; omega) B1.size)
      have B1' := hide B1
      clear I1 B1 hb1 C1 hI hB hz d1
      go_wp2_with fail
      refine C2.out.mono ?_
      rintro e w2 ⟨rfl, hI2, hb2⟩
      have B2 := hide (B1'.out.trans hb2)
      have I2 : Hid (Lib.IsBuilder 47 5 w.heap.size w.heap.size (Lib.byteCells (pkF gs (datL (L.take (k + 1))))) w2) := by
        rw [HP2.out, Lib.byteCells_append]
        exact Or.inr hI2
      clear hI2 hb2 C2 B1' HP2
      go_wp2
      go_roundw
      case measure => simp [intOf]; omega
      case rel => exact ⟨k + 1, by omega, by go_num, I2, B2⟩
    · obtain rfl : k = n := by omega
      have hki : ¬ (k : Int) < (k : Int) := by omega
      have C3 := hide (Tryd.Builder_String_any w.heap.size w.heap.size (pkF gs (datL (L.take k))) wr hI.out hB.out.size)
      rw [HE.out] at C3
      clear HC H1 HP HZ HM HE F0 G0 hI
      go_wp2_with fail
      refine C3.out.mono ?_
      rintro e w1 ⟨rfl, hb1⟩
      have B1 := hide (hB.out.trans hb1)
      clear hb1 C3 hB
      go_wp2
      go_ret2
      exact ⟨by first | rfl | simp, B1.out⟩
end Go.Proofs.YtahdgdoicpgcmaaDoor
