/-
  same.
-/
import Derived.Test.YtoppmpodiofhhaaDkR8
namespace Go.Proofs.Ytoppmpodiofhhaa
open Go.ChangeShapes Go.WideShapes Go.ChangeAt Go.RowKit
set_option linter.unusedVariables false
set_option linter.unusedSimpArgs false

theorem DkAt.heap {B d m : Nat} {l : List Fl} {fu : Int} {st : Nat} {on : Bool} {W W' : World} (S : DkAt B d m l fu st on W) (h : W'.heap = W.heap) : DkAt B d m l fu st on W' := by
  have row : ∀ {e : TypeId} {sz n : Nat} {v : Value} {xs : List Value}, W.ownsRow B e sz v n xs → W'.ownsRow B e sz v n xs := by
    intro e sz n v xs k
    refine ⟨k.1, ?_⟩
    rcases k.2 with hh | ⟨g, cap, cur, rfl, hb, hg, rest⟩
    · exact .inl hh
    · exact .inr ⟨g, cap, cur, rfl, hb, by rw [h]; exact hg, rest⟩
  have blk : ∀ {b : Nat} {cs : Array Value} {t : TypeId}, Blk W b cs t → Blk W' b cs t := by
    intro b cs t k
    unfold Blk at *
    rw [h]; exact k
  refine ⟨blk S.hd, ?_, fun f hf => ?_, S.lies, S.dlo, S.mlo, S.len, S.fu0, S.fu1⟩
  · obtain ⟨es, clock, hb, q⟩ := S.map
    exact ⟨es, clock, by rw [h]; exact hb, q⟩
  · have F := S.fl f hf
    exact ⟨blk F.hd, row F.row, F.lo, F.no1, F.no2, F.safe, F.len⟩

theorem DkS.heap {B d : Nat} {s : DS} {W W' : World} (S : DkS B d s W) (h : W'.heap = W.heap) : DkS B d s W' := by
  obtain ⟨m, l, A, hv⟩ := S
  exact ⟨m, l, A.heap h, hv⟩

theorem DkS.sorted {B d : Nat} {s : DS} {W : World} (S : DkS B d s W) : s.fs.Pairwise (fun a b => a.no < b.no) := by
  obtain ⟨m, l, A, hv⟩ := S
  rw [← hv, List.pairwise_map]
  exact A.lies.imp (fun {f g} hR => hR.1)

theorem getP_at {fs : List Pf} (h : fs.Pairwise (fun a b => a.no < b.no)) {j : Nat} {f : Pf} (hf : fs[j]? = some f) : getP fs f.no = some f := by
  obtain ⟨hj, e⟩ := List.getElem?_eq_some_iff.1 hf
  have sp : fs = fs.take j ++ f :: fs.drop (j + 1) := by
    rw [← e, ← List.drop_eq_getElem_cons hj, List.take_append_drop]
  have q := h
  rw [sp, List.pairwise_append] at q
  rw [sp]
  unfold getP
  rw [List.find?_append, List.find?_eq_none.2 (fun g hg => by have := q.2.2 g hg f (by simp); simp; omega)]
  simp

theorem int_all {W : World} {B n : Nat} {v : Value} {xs : List Value} (h : W.ownsRow B 3 1 v n xs) (ty : TypeId) (W' : World) : (Builtin.len_ #[26] ty #[v]).run Try.prog W' = .ok (.int .i64 (n : Int)) W' := by
  rcases h.2 with ⟨rfl, rfl⟩ | ⟨g, cap, cur, rfl, _⟩
  · simp [Builtin.len_, run_underlying Try.underlying26, goInt, Result.andThen, Builtin.lenOf]
  · simp [Builtin.len_, run_underlying Try.underlying26, goInt, Result.andThen, Builtin.lenOf]

set_option maxRecDepth 100000 in
set_option maxHeartbeats 2000000 in
theorem same_c {B d r : Nat} (s : DS) {v : Value} {W : World} (hon : s.on = true) (S : DkS B d s W) (R : RdAt B r v s.fs s.steps W) :
    Calls Try.prog 15 #[.pointer (some ⟨d, 0, none⟩), .pointer (some ⟨r, 0, none⟩)] W fun e W' => e = .returned (.bool true) ∧ Below W.heap.size W W' := by
  have SH := hide S
  have RH := hide R
  have SO := hide S.sorted
  obtain ⟨m0, l, A, hv⟩ := S
  have LC := hide (list_c A)
  have VH := hide hv
  have HON := hide hon
  clear A hv R hon
  go_enter Try.func15, Try.ntmps15
  go_wp2_with fail
  refine LC.out.mono ?_
  rintro e W1 ⟨vl, rfl, O, hb⟩
  have S1 := hide (SH.out.below hb)
  have R1 := RH.out.below hb
  have BW := hide hb
  have c0 : W1.cell? ⟨r, 0, none⟩ = some v := R1.hd.cell 0
  have c1 : W1.cell? ⟨r, 1, none⟩ = some (.bool false) := R1.hd.cell 1
  have c3 : W1.cell? ⟨r, 3, none⟩ = some (.int .i64 (s.steps : Int)) := R1.hd.cell 3
  have hlr := R1.hd.lt
  have LVl := int_all O
  have LVr := lenR R1.row
  have ll : s.fs.length = l.length := by rw [← VH.out, List.length_map]
  rw [ll] at LVr
  obtain ⟨n, hn⟩ : ∃ n, l.length = n := ⟨_, rfl⟩
  have l110 : n ≤ 110 := by rw [← hn, ← ll]; exact R1.len
  have HN := hide hn
  have HLL := hide ll
  rw [hn] at LVl LVr
  have OH := hide O
  have RR := hide R1
  have ON : ∀ W', W'.heap = W1.heap → Calls Try.prog 11 #[.pointer (some ⟨d, 0, none⟩)] W' fun e W'' => e = .returned (.bool true) ∧ W'' = W' := fun W' h => by
    have q := on_s (S1.out.heap h)
    rw [HON.out] at q
    exact q
  have SP : ∀ W', W'.heap = W1.heap → Calls Try.prog 16 #[.pointer (some ⟨d, 0, none⟩)] W' fun e W'' => e = .returned (.int .i64 (s.steps : Int)) ∧ W'' = W' := fun W' h => steps_s (S1.out.heap h)
  have ONH := hide ON
  have SPH := hide SP
  have nn : ((n : Int) != (n : Int)) = false := by simp
  have tt : ((s.steps : Int) != (s.steps : Int)) = false := by simp
  clear ON SP LC O hb R1 ll hn SH RH
  go_upto_region 2 with fail
  go_quiet ((first | (go_at_call 11; exact Calls.quiet_of_same (ONH.out _ rfl)) | (go_at_call 16; exact Calls.quiet_of_same (SPH.out _ rfl))))
  have BD := below_drewN9 (Below.refl W1.heap.size W1) nq
  have S2 := hide (S1.out.below BD)
  have R2 := hide (RR.out.below BD)
  have B2 := hide (BW.out.trans (BD.mono BW.out.size))
  have O2 := hide ((Ch.below (X := fun _ => False) BD).row OH.out (fun _ _ h => h))
  obtain ⟨w2, hw2⟩ : ∃ w2, W1.drewN nq = w2 := ⟨_, rfl⟩
  rw [hw2] at S2 R2 B2 O2 ⊢
  have d0 : w2.cell? ⟨r, 0, none⟩ = some v := R2.out.hd.cell 0
  have d1 : w2.cell? ⟨r, 1, none⟩ = some (.bool false) := R2.out.hd.cell 1
  have hl2 := R2.out.hd.lt
  clear S1 RR BW OH ONH SPH nn tt BD hw2 c0 c1 c3 hlr
  go_wp2_with fail
  go_loopw [6] (fun iv wr => ∃ j : Nat, j ≤ n ∧ iv = .int .i64 j ∧ Hid (Below w2.heap.size w2 wr)) (fun iv _ => n - (intOf iv).toNat)
  case atStart => exact ⟨0, by omega, rfl, Below.refl _ _⟩
  case round =>
    obtain ⟨j, hj, rfl, BB⟩ := hrel
    have S3 := hide (S2.out.below BB.out)
    have R3 := hide (R2.out.below BB.out)
    have O3 := hide ((Ch.below (X := fun _ => False) BB.out).row O2.out (fun _ _ h => h))
    have B3 := hide (B2.out.trans (BB.out.mono B2.out.size))
    have e0 : wr.cell? ⟨r, 0, none⟩ = some v := R3.out.hd.cell 0
    have e1 : wr.cell? ⟨r, 1, none⟩ = some (.bool false) := R3.out.hd.cell 1
    have hl3 := R3.out.hd.lt
    clear d0 d1 hl2
    by_cases hlt : j < n
    · have hjn : (j : Int) < (n : Int) := by omega
      have hjl : j < s.fs.length := by rw [HLL.out, HN.out]; exact hlt
      obtain ⟨f, hf⟩ : ∃ f, s.fs[j]? = some f := ⟨_, List.getElem?_eq_getElem hjl⟩
      have gp := getP_at SO.out hf
      have ok := R3.out.ok f (List.mem_of_getElem? hf)
      have r0 : reachV s f.no = 0 := by
        unfold reachV
        rw [HON.out, if_neg (by simp), if_neg (by omega)]
      have rv : readV s f.no = f.bs := by
        unfold readV
        rw [r0, if_neg (by simp), gp]
      have rb : readB s f.no = true := by
        unfold readB
        rw [r0, if_neg (by simp), gp]
        rfl
      have sv : safeV s.fs f.no = f.safe := by
        unfold safeV
        rw [gp]
      have RD := hide (read_s s f.no S3.out)
      rw [rv, rb] at RD
      have SF := hide (fun (W' : World) (h : W'.heap = wr.heap) => safe_s f.no (by omega) (S3.out.heap h))
      rw [sv] at SF
      rcases O3.out.2 with ⟨-, h0⟩ | ⟨gl, capl, curl, rfl, -, -, -, -, -, -⟩
      · have := HN.out; omega
      rcases R3.out.row.2 with ⟨-, h0⟩ | ⟨g, cap, cur, rfl, -, -, -, -, -, -⟩
      · omega
      have cj : wr.cell? ⟨gl, j, none⟩ = some (.int .i64 f.no) := by
        rw [World.ownsRow.cellAt O3.out j (by have := HN.out; omega)]
        have e : (l.map fun f : Fl => Value.int .i64 f.no) = (s.fs.map Pf.no).map (Value.int .i64) := by
          rw [← VH.out, List.map_map, List.map_map]; rfl
        rw [e, List.getElem?_map, List.getElem?_map, hf]
        rfl
      obtain ⟨q0, q1, q2⟩ := flat_at hf
      have k0 := (World.ownsRow.cellAt R3.out.row (j * 3) (by omega)).trans q0
      have k1 := (World.ownsRow.cellAt R3.out.row (j * 3 + 1) (by omega)).trans q1
      have k2 := (World.ownsRow.cellAt R3.out.row (j * 3 + 2) (by omega)).trans q2
      have s1 := sfS_size ok.1
      have s2 := tlS_size f
      have ja := join_all f
      have hjl1 : (j : Int) < (l.length : Int) := by have := HN.out; omega
      have hjl2 : (j : Int) < (s.fs.length : Int) := by omega
      have zz : (sfS f).size + (tlS f).size ≤ 1048576 := by omega
      obtain ⟨no, hno⟩ : ∃ no, f.no = no := ⟨_, rfl⟩
      obtain ⟨sf, hsf⟩ : ∃ sf, sfS f = sf := ⟨_, rfl⟩
      obtain ⟨tl, htl⟩ : ∃ tl, tlS f = tl := ⟨_, rfl⟩
      obtain ⟨SB, hSB⟩ : ∃ SB : ByteArray, (⟨f.bs.toArray⟩ : ByteArray) = SB := ⟨_, rfl⟩
      rw [hno] at cj k0 RD SF
      rw [hsf] at k1 s1 ja zz
      rw [htl] at k2 ja zz
      rw [hSB] at ja RD
      rw [← s1] at SF
      clear hjl hf gp ok r0 rv rb sv q0 q1 q2 s2 hno hsf htl hSB hlt s1
      go_wp2_with fail
      refine RD.out.mono ?_
      rintro e w3 ⟨rfl, rfl⟩
      clear RD
      have b1 : (no != no) = false := by simp
      have b2 : ((sf.size : Int) != (sf.size : Int)) = false := by simp
      go_upto_region 8 with fail
      simp only [List.append_eq, List.cons_append, List.nil_append]
      go_quiet ((go_at_call 12; exact Calls.quiet_of_same (SF.out _ rfl)))
      have BN := hide (BB.out.trans ((below_drewN9 (Below.refl w3.heap.size w3) nq).mono BB.out.size))
      clear S3 R3 O3 B3 e0 e1 hl3 cj k0 k1 k2 ja zz b1 b2 SF BB
      go_wp2_with fail
      go_roundw
      case rel => exact ⟨j + 1, by omega, by go_num, BN⟩
      case measure => simp [intOf]; omega
    · have hjn : ¬ (j : Int) < (n : Int) := by omega
      go_wp2_with fail
      go_ret
      exact ⟨rfl, B3.out⟩

end Go.Proofs.Ytoppmpodiofhhaa
