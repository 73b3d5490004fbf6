/-
  Package frame: Whole, Scan, Unpack; lists of texts in memory.
-/
import Derived.Test.YtahdgdoicpgcmaaDoorFmB
import Derived.Laws.AppendOwn
namespace Go.Proofs.YtahdgdoicpgcmaaDoor
open Go.ChangeShapes Go.WideShapes Go.ChangeAt Go.RowKit
set_option linter.unusedVariables false
set_option linter.unusedSimpArgs false

theorem cell_ltF {W : World} {b o : Nat} {v : Value} (h : W.cell? ⟨b, o, none⟩ = some v) : b < W.heap.size := by
  apply Classical.byContradiction
  intro c
  simp only [World.cell?] at h
  rw [Array.getElem?_eq_none (by omega)] at h
  cases h

theorem own_belowF {w w' : World} {B e size n : Nat} {v : Value} {xs : List Value} (h : w.ownsRow B e size v n xs) (hb : Below w.heap.size w w') : w'.ownsRow B e size v n xs := by
  refine ⟨h.1, ?_⟩
  rcases h.2 with ⟨rfl, h0⟩ | ⟨g, cap, cur, rfl, hg, hh, r⟩
  · exact Or.inl ⟨rfl, h0⟩
  · exact Or.inr ⟨g, cap, cur, rfl, hg, (hb.block g (Array.getElem?_eq_some_iff.1 hh).1).trans hh, r⟩

/-- Behind an append to a row of one's own, what lay below is as it was. -/
theorem below_grownF {B : Nat} {w wr w' : World} {v : Value} {k e size : Nat} {xs : List Value} {o : Obj} (hb : Below B w wr) (hB : B ≤ wr.heap.size)
    (hown : wr.ownsRow B e size v k xs) (hg : (wr.alloc o).grownBy w' v.ownBlock) : Below B w w' := by
  refine Below.grown (hb.alloc hB o) hg (by simp; omega) (fun j hj => ?_)
  exact (hown.lt j hj).1

/-- A slice holds these texts. -/
def StrsAt (W : World) (v : Value) (L : List ByteArray) : Prop := ∃ (x : Option Addr) (cap b o : Nat), v = .slice x L.length cap ∧ (x = some ⟨b, o, none⟩ ∨ L.length = 0) ∧ L.length ≤ maxLen ∧ ∀ i, i < L.length → W.cell? ⟨b, o + i, none⟩ = some (.string (L.getD i ⟨#[]⟩))

theorem StrsAt.below {w W : World} {v : Value} {L : List ByteArray} (h : StrsAt w v L) (k : Below w.heap.size w W) : StrsAt W v L := by
  obtain ⟨x, cap, b, o, h1, h2, h3, h4⟩ := h
  refine ⟨x, cap, b, o, h1, h2, h3, fun i hi => ?_⟩
  have := h4 i hi
  exact (k.cell (p := ⟨b, _, none⟩) (cell_ltF this)).trans this

theorem StrsAt.own {W : World} {B : Nat} {v : Value} {L : List ByteArray} (h : W.ownsRow B 9 1 v L.length (L.map fun s => .string s)) : StrsAt W v L := by
  rcases h.2 with ⟨rfl, h0⟩ | ⟨g, cap, cur, rfl, _, _, r1, r2, _⟩
  · exact ⟨none, 0, 0, 0, by rw [h0], Or.inr h0, by unfold maxLen; omega, fun i hi => by omega⟩
  · refine ⟨some ⟨g, 0, none⟩, cap, g, 0, rfl, Or.inl rfl, by omega, fun i hi => ?_⟩
    rw [Nat.zero_add, World.ownsRow.cellAt h i (by omega)]
    simp [List.getD_eq_getElem?_getD, hi]

theorem infoStr : (Tryd.prog.info? 9).map (fun i => (i.zero, i.size, i.bytes)) = some (some (.string ⟨#[]⟩), 1, 16) := by kernel_rfl

set_option maxHeartbeats 800000 in
theorem whole_ok (s : ByteArray) (hs : s.size ≤ 1000000) {R : ByteArray} (h : hdF gs s.data.toList = some R.data.toList) (he : 8 + R.size = s.size) (w : World) (hT : RM w) :
    Calls Tryd.prog 9 #[.string s] w fun e w' => e = .returned (.tuple #[.string R, .int .i64 0]) ∧ Below w.heap.size w w' := by
  have C1 := hide (first_some s hs h w hT)
  have C2 := hide (fun w => size_c R (by omega) w)
  rw [he] at C2
  clear h hT
  go_enter Tryd.func9, Tryd.ntmps9
  go_wp2_with fail
  refine C1.out.mono ?_
  rintro e w1 ⟨rfl, hb1⟩
  have B := hide hb1
  clear hb1 C1
  go_wp2_with fail
  refine (C2.out _).mono ?_
  rintro e w2 ⟨rfl, rfl⟩
  clear C2
  go_wp2
  go_ret2
  exact ⟨by first | rfl | simp, B.out⟩

set_option maxHeartbeats 800000 in
theorem whole_no (s : ByteArray) (hs : s.size ≤ 1000000) (h : ∀ R : ByteArray, hdF gs s.data.toList = some R.data.toList → 8 + R.size ≠ s.size) (w : World) (hT : RM w) :
    Calls Tryd.prog 9 #[.string s] w fun e w' => e = .returned (.tuple #[.string ⟨#[]⟩, .int .i64 4]) ∧ Below w.heap.size w w' := by
  cases hd : hdF gs s.data.toList with
  | none =>
    have C1 := hide (first_no s hs hd w hT)
    clear h hT hd
    go_enter Tryd.func9, Tryd.ntmps9
    go_wp2_with fail
    refine C1.out.mono ?_
    rintro e w1 ⟨rfl, hb1⟩
    have B := hide hb1
    clear hb1 C1
    go_wp2
    go_ret2
    exact ⟨by first | rfl | simp, B.out⟩
  | some r =>
    obtain ⟨R, rfl⟩ : ∃ R : ByteArray, r = R.data.toList := ⟨⟨r.toArray⟩, by simp⟩
    have C1 := hide (first_some s hs hd w hT)
    have ne := h R hd
    have q2 := (hd_some hd).2.1
    rw [len_of, len_of] at q2
    have C2 := hide (fun w => size_c R (by omega) w)
    have c : (((8 + R.size : Nat) : Int) != (s.size : Int)) = true := by simp; omega
    obtain ⟨z, hz⟩ : ∃ z : Nat, 8 + R.size = z := ⟨_, rfl⟩
    rw [hz] at C2 c
    clear h hT hd ne hz
    go_enter Tryd.func9, Tryd.ntmps9
    go_wp2_with fail
    refine C1.out.mono ?_
    rintro e w1 ⟨rfl, hb1⟩
    have B := hide hb1
    clear hb1 C1
    go_wp2_with fail
    refine (C2.out _).mono ?_
    rintro e w2 ⟨rfl, rfl⟩
    clear C2
    go_wp2
    go_ret2
    exact ⟨by first | rfl | simp, B.out⟩

/-- What is left of the records: a list of texts as lists of bytes. -/
def datL (L : List ByteArray) : List (List UInt8) := L.map fun s => s.data.toList

theorem sc_end {l : List UInt8} {Z : List ByteArray} {m : Nat} (h : scF gs l = (datL Z, m)) (hd : hdF gs l = none) : Z = [] ∧ m = 0 := by
  rw [scF_none hd] at h
  injection h with h1 h2
  cases Z with
  | nil => exact ⟨rfl, h2.symm⟩
  | cons a b => cases h1

theorem sc_more {l : List UInt8} {Z : List ByteArray} {m : Nat} {r : List UInt8} (h : scF gs l = (datL Z, m)) (hd : hdF gs l = some r) :
    ∃ (R : ByteArray) (Y : List ByteArray), Z = R :: Y ∧ r = R.data.toList ∧ R.size ≤ 65536 ∧ 8 + R.size ≤ l.length ∧ 8 + R.size ≤ m ∧ scF gs (l.drop (8 + R.size)) = (datL Y, m - (8 + R.size)) := by
  have q := hd_some hd
  rw [scF_some hd] at h
  injection h with h1 h2
  cases Z with
  | nil => cases h1
  | cons R Y =>
    have e : r = R.data.toList := (List.cons.inj h1).1
    have e2 : (scF gs (l.drop (8 + r.length))).1 = datL Y := (List.cons.inj h1).2
    have el : r.length = R.size := by rw [e, len_of]
    rw [el] at h2 e2 q
    refine ⟨R, Y, rfl, e, q.1, q.2.1, by omega, ?_⟩
    rw [← e2, ← h2, Nat.add_sub_cancel_left]

set_option maxRecDepth 100000 in
set_option maxHeartbeats 3200000 in
theorem scan_c (s : ByteArray) (hs : s.size ≤ 1000000) {L : List ByteArray} {N : Nat} (h : scF gs s.data.toList = (datL L, N)) (w : World) (hT : RM w) :
    Calls Tryd.prog 11 #[.string s] w fun e w' => ∃ v, e = .returned (.tuple #[v, .int .i64 N]) ∧ StrsAt w' v L ∧ Below w.heap.size w w' := by
  obtain ⟨i0, hi, hz0, hz1, hz2⟩ := info_parts infoStr
  have H0 := hide h
  have HT := hide hT
  clear h hT
  go_enter Tryd.func11, Tryd.ntmps11
  go_wp2_with fail
  go_loopw [4, 5] (fun u i wr => ∃ (k : Nat) (A Z : List ByteArray), i = .int .i64 k ∧ k ≤ s.size ∧ A.length * 8 ≤ k ∧ Hid (L = A ++ Z ∧ k ≤ N ∧ scF gs (s.data.toList.drop k) = (datL Z, N - k)) ∧ Hid (wr.ownsRow w.heap.size 9 1 u A.length (A.map fun s => .string s)) ∧ Hid (Below w.heap.size w wr)) (fun _ i _ => s.size - (intOf i).toNat)
  case atStart => exact ⟨0, [], L, rfl, Nat.zero_le _, Nat.zero_le _, ⟨rfl, Nat.zero_le _, H0.out⟩, World.ownsRow_nil _ _ _ _, Below.refl _ _⟩
  case round =>
    obtain ⟨k, A, Z, rfl, hk, hA, hP, hO, hB⟩ := hrel
    obtain ⟨p1, p2, p3⟩ := hP.out
    have SX : (s.extract k s.size).data.toList = s.data.toList.drop k := ext_rest s k
    have SZ : (s.extract k s.size).size = s.size - k := by rw [ByteArray.size_extract]; omega
    obtain ⟨sx, hsx⟩ : ∃ sx, s.extract k s.size = sx := ⟨_, rfl⟩
    rw [hsx] at SX SZ
    have hki : (k : Int) ≤ (s.size : Int) := by omega
    cases hd : hdF gs sx.data.toList with
    | none =>
      have C1 := hide (first_no sx (by omega) hd wr (HT.out.below hB.out))
      rw [SX] at hd
      obtain ⟨rfl, z2⟩ := sc_end p3 hd
      obtain rfl : k = N := by omega
      rw [List.append_nil] at p1
      subst p1
      have SA := hide (StrsAt.own hO.out)
      clear SX hd p3 p2 hP hO z2 H0 HT hi hz0 hz1 hz2
      go_wp2_with fail
      refine C1.out.mono ?_
      rintro e w1 ⟨rfl, hb1⟩
      have SB := hide (SA.out.below hb1)
      have B := hide (hB.out.trans (hb1.mono hB.out.size))
      clear hb1 C1 SA hB
      go_wp2
      go_ret2
      exact ⟨_, by first | rfl | simp, SB.out, B.out⟩
    | some r =>
      rw [SX] at hd
      obtain ⟨R, Y, rfl, rfl, r1, r2, r3, r4⟩ := sc_more p3 hd
      rw [← SX] at hd
      rw [List.length_drop, len_of] at r2
      rw [List.drop_drop] at r4
      have C1 := hide (first_some sx (by omega) hd wr (HT.out.below hB.out))
      have C2 := hide (fun w => size_c R (by omega) w)
      have NX : Hid (L = (A ++ [R]) ++ Y ∧ k + (8 + R.size) ≤ N ∧ scF gs (s.data.toList.drop (k + (8 + R.size))) = (datL Y, N - (k + (8 + R.size)))) := ⟨by rw [p1, List.append_assoc]; rfl, by omega, by rw [r4, Nat.sub_sub]⟩
      have kn : k + (8 + R.size) ≤ s.size := by omega
      have ka : (A.length + 1) * 8 ≤ k + (8 + R.size) := by omega
      obtain ⟨z, hz⟩ : ∃ z, 8 + R.size = z := ⟨_, rfl⟩
      have z8 : 8 ≤ z := by omega
      have ml : A.length + 1 ≤ maxLen := by unfold maxLen; omega
      have mb : (A.length + 1) * 16 ≤ 140737488355328 := by omega
      rw [hz] at C2 NX kn ka
      clear SX hd p1 p2 p3 hP r1 r2 r3 r4 hz
      go_wp2_with fail
      refine C1.out.mono ?_
      rintro e w1 ⟨rfl, hb1⟩
      have O1 := own_belowF hO.out hb1
      have B1 := hB.out.trans (hb1.mono hB.out.size)
      have bz : w.heap.size ≤ w1.heap.size := B1.size
      have bz2 : w.heap.size ≤ (w1.alloc (.cells #[.string R] 9)).heap.size := by simp; omega
      clear hb1 C1 hO hB hsx SZ
      go_wp2_with (first | (at_builtin; refine wpList_append_own _ rfl _ _ 29 rfl w.heap.size 9 i0 (.string ⟨#[]⟩) 1 16 Tryd.underlying29 hi hz0 hz1 hz2 rfl (by decide) _ _ _ rfl (O1.alloc _) ⟨w1.heap.size, 0, none⟩ 1 1 [.string R] rfl rfl ?c1 ?c2 ml mb bz2 ?_))
      case c1 =>
        intro j u hj
        match j, hj with
        | 0, hj => simp at hj; subst hj; simp [Addr.add]
      case c2 => intro u hu; simp at hu; subst hu; rfl
      intro v' w2 hown2 hgrow hnil
      have B2 := hide (below_grownF B1 bz O1 hgrow)
      have O2 := hide hown2
      clear hown2 hgrow hnil O1 B1 bz bz2 ml mb
      go_wp2_with fail
      refine (C2.out _).mono ?_
      rintro e w3 ⟨rfl, rfl⟩
      clear C2
      go_wp2
      go_roundw
      case measure => simp [intOf]; omega
      case rel =>
        refine ⟨k + z, A ++ [R], Y, by go_num, kn, by simpa using ka, NX, ?_, B2⟩
        have q := O2.out
        show World.ownsRow _ _ _ _ _ _ _
        simpa using q

set_option maxHeartbeats 800000 in
theorem unpack_ok (s : ByteArray) (hs : s.size ≤ 1000000) {L : List ByteArray} (h : scF gs s.data.toList = (datL L, s.size)) (w : World) (hT : RM w) :
    Calls Tryd.prog 13 #[.string s] w fun e w' => ∃ v, e = .returned (.tuple #[v, .int .i64 0]) ∧ StrsAt w' v L ∧ Below w.heap.size w w' := by
  have C1 := hide (scan_c s hs h w hT)
  clear h hT
  go_enter Tryd.func13, Tryd.ntmps13
  go_wp2_with fail
  refine C1.out.mono ?_
  rintro e w1 ⟨v, rfl, h1, h2⟩
  have SA := hide h1
  have B := hide h2
  clear h1 h2 C1
  go_wp2
  go_ret2
  exact ⟨_, by first | rfl | simp, SA.out, B.out⟩

set_option maxHeartbeats 800000 in
theorem unpack_no (s : ByteArray) (hs : s.size ≤ 1000000) {L : List ByteArray} {N : Nat} (h : scF gs s.data.toList = (datL L, N)) (hN : N ≠ s.size) (w : World) (hT : RM w) :
    Calls Tryd.prog 13 #[.string s] w fun e w' => e = .returned (.tuple #[.slice none 0 0, .int .i64 4]) ∧ Below w.heap.size w w' := by
  have C1 := hide (scan_c s hs h w hT)
  have c : ((N : Int) != (s.size : Int)) = true := by simp; omega
  clear h hT
  go_enter Tryd.func13, Tryd.ntmps13
  go_wp2_with fail
  refine C1.out.mono ?_
  rintro e w1 ⟨v, rfl, h1, h2⟩
  have B := hide h2
  clear h1 h2 C1 hN
  go_wp2
  go_ret2
  exact ⟨by first | rfl | simp, B.out⟩
end Go.Proofs.YtahdgdoicpgcmaaDoor
