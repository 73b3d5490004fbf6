/-
  The walk of DiskKeeps.
-/
import Derived.Test.YtoppmpodiofhhaaDkD
namespace Go.Proofs.Ytoppmpodiofhhaa
open Go.ChangeShapes Go.WideShapes Go.ChangeAt Go.RowKit
set_option linter.unusedVariables false
set_option linter.unusedSimpArgs false

theorem cell_lt9 {W : World} {b o : Nat} {v : Value} (h : W.cell? ⟨b, o, none⟩ = some v) : b < W.heap.size := by
  apply Classical.byContradiction
  intro c
  simp only [World.cell?] at h
  rw [Array.getElem?_eq_none (by omega)] at h
  cases h

theorem PkAt.below {w W : World} {x : Option Addr} {xs : List Int} (h : PkAt w x xs) (k : Below w.heap.size w W) : PkAt W x xs := by
  refine ⟨?_, h.ok, h.len⟩
  rcases h.at_ with e | ⟨b, o, e, hc⟩
  · exact Or.inl e
  · exact Or.inr ⟨b, o, e, fun i hi => (k.cell (p := ⟨b, _, none⟩) (cell_lt9 (hc i hi))).trans (hc i hi)⟩

theorem PkAt.take {W : World} {x : Option Addr} {xs : List Int} (h : PkAt W x xs) (n : Nat) : PkAt W x (xs.take n) := by
  have hl : (xs.take n).length ≤ xs.length := by rw [List.length_take]; omega
  have hg : ∀ i, i < (xs.take n).length → (xs.take n).getD i 0 = xs.getD i 0 := by
    intro i hi
    rw [List.getD_eq_getElem?_getD, List.getD_eq_getElem?_getD, List.getElem?_take_of_lt (by rw [List.length_take] at hi; omega)]
  refine ⟨?_, fun i hi => by rw [hg i hi]; exact h.ok i (by omega), by have := h.len; omega⟩
  rcases h.at_ with e | ⟨b, o, e, hc⟩
  · exact Or.inl (by omega)
  · exact Or.inr ⟨b, o, e, fun i hi => by rw [hg i hi]; exact hc i (by omega)⟩

theorem ActV.below {w W : World} {K A N : Int} {t : ByteArray} {x : Option Addr} {xs : List Int} {cap : Nat} (h : ActV w K A N t x xs cap) (k : Below w.heap.size w W) : ActV W K A N t x xs cap :=
  ⟨h.k, h.a, h.n, h.t, h.p.below k, h.room, h.nil⟩

theorem ActsAt.below {w W : World} {x : Option Addr} {len b o : Nat} (h : ActsAt w x len b o) (k : Below w.heap.size w W) : ActsAt W x len b o := by
  refine ⟨h.1, h.2.1, fun i hi => ?_⟩
  obtain ⟨K, A, N, t, y, xs, cap, ha, h0, h1, h2, h3, h4⟩ := h.2.2 i hi
  have l := cell_lt9 h0
  exact ⟨K, A, N, t, y, xs, cap, ha.below k, (k.cell (p := ⟨b, _, none⟩) l).trans h0, (k.cell (p := ⟨b, _, none⟩) l).trans h1, (k.cell (p := ⟨b, _, none⟩) l).trans h2, (k.cell (p := ⟨b, _, none⟩) l).trans h3, (k.cell (p := ⟨b, _, none⟩) l).trans h4⟩

theorem ext_list (a : ByteArray) (n : Nat) : (a.extract 0 n).data.toList = a.data.toList.take n := by
  rw [ByteArray.data_extract]
  simp

theorem bytes_eq {a b : ByteArray} (h : a.data.toList = b.data.toList) : a = b := by
  cases a
  cases b
  congr 1
  exact Array.ext' h

theorem ext_eq {a b : ByteArray} (h : b.data.toList <+: a.data.toList) : a.extract 0 b.size = b ∧ b.size ≤ a.size := by
  have e1 : b.data.toList.length = b.size := str_len b
  have e2 : a.data.toList.length = a.size := str_len a
  refine ⟨bytes_eq ?_, by have := h.length_le; omega⟩
  rw [ext_list, ← e1]
  exact (List.prefix_iff_eq_take.1 h).symm

theorem DkS.safes {B d : Nat} {s : DS} {W : World} (S : DkS B d s W) : ∀ f, f ∈ s.fs → f.safe ≤ f.bs.length ∧ 1 ≤ f.no ∧ f.no ≤ 1000000 := by
  obtain ⟨m, l, A, hv⟩ := S
  intro f hf
  rw [← hv] at hf
  obtain ⟨g, hg, rfl⟩ := List.mem_map.1 hf
  have F := A.fl g hg
  exact ⟨F.safe, F.no1, F.no2⟩

/-- What Read tells while it is on. -/
theorem read_on {s : DS} {n : Int} {sf : List UInt8} (hon : s.on = true) (hok : ∀ f, f ∈ s.fs → f.safe ≤ f.bs.length ∧ 1 ≤ f.no ∧ f.no ≤ 1000000) (h : KInv s.fs n sf) :
    (readB s n = false → sf = [] ∧ readV s n = [] ∧ safeV s.fs n = 0) ∧ (readB s n = true → sf <+: readV s n ∧ safeV s.fs n ≤ (readV s n).length) ∧ KInv s.fs n ((readV s n).take (safeV s.fs n)) := by
  unfold KInv at h ⊢
  unfold readB readV safeV reachV
  cases hf : getP s.fs n with
  | none =>
    rw [hf] at h
    simp only at h
    generalize (if s.on = false then (6 : Int) else if n < 1 ∨ 1000000 < n then 1 else 0) = r
    refine ⟨fun _ => ⟨h, ?_, rfl⟩, fun hb => ?_, ?_⟩
    · split <;> rfl
    · simp at hb
    · simp only
      split <;> rfl
  | some f =>
    rw [hf] at h
    simp only at h
    have m := getP_mem hf
    have q := hok f m.1
    have r : ¬ (if s.on = false then (6 : Int) else if n < 1 ∨ 1000000 < n then 1 else 0) ≠ 0 := by
      rw [hon, if_neg (by decide), if_neg (by omega)]
      simp
    rw [if_neg r, if_neg r]
    simp only [Option.isSome_some]
    exact ⟨fun hb => (by cases hb), fun _ => ⟨h.trans (List.take_prefix _ _), q.1⟩, List.prefix_refl _⟩

set_option maxRecDepth 100000 in
set_option maxHeartbeats 1000000 in
theorem keeps_walk (x : Option Addr) (len cap b o : Nat) (no : Int) (hno : -9223372036854775808 ≤ no ∧ no ≤ 9223372036854775807) (w : World) (HA : ActsAt w x len b o) :
    Calls Try.prog 3 #[.slice x len cap, .int .i64 no] w fun e w' => e = .returned (.bool true) ∧ Below w.heap.size w w' := by
  have AW := hide (dawake_c w)
  have AH := hide HA
  have NO := hide hno
  have hlen := HA.2.1
  clear HA hno
  go_enter Try.func3, Try.ntmps3
  go_wp2_with fail
  refine AW.out.mono ?_
  rintro e w1 ⟨rfl, hb⟩
  have B1 := hide hb
  have NW := hide (new_s (B := w.heap.size) hb.size)
  clear AW hb
  go_wp2_with fail
  refine NW.out.mono ?_
  rintro e w2 ⟨d, rfl, hS, hb⟩
  have S2 := hide hS
  have B2 := hide (B1.out.trans (hb.mono B1.out.size))
  clear NW hS hb B1
  go_wp2_with fail
  go_loopw [6, 7] (fun sv iv wr => ∃ (k : Nat) (sf : ByteArray) (s : DS), k ≤ len ∧ k ≤ 130 ∧ iv = .int .i64 k ∧ sv = .string sf ∧ Hid (DkS w.heap.size d s wr) ∧ Hid (Below w.heap.size w wr) ∧ Hid (s.steps ≤ k) ∧ Hid (KInv s.fs no sf.data.toList)) (fun _ iv _ => 130 - (intOf iv).toNat)
  case atStart => exact ⟨0, ⟨#[]⟩, _, by omega, by omega, rfl, rfl, S2, B2, Nat.zero_le _, rfl⟩
  case round =>
    clear S2 B2
    obtain ⟨k, sf, s, hk1, hk2, rfl, rfl, S, BW, ST, KI⟩ := hrel
    by_cases hlt : k < len ∧ k < 130
    · obtain ⟨h1, h2⟩ := hlt
      have h1' : (k : Int) < len := by omega
      have h2' : (k : Int) < 130 := by omega
      obtain ⟨ho, -, hc⟩ := AH.out
      obtain ⟨K, A, N, t, y, xs, c, hV, d0, d1, d2, d3, d4⟩ := hc k h1
      obtain rfl : x = some ⟨b, o, none⟩ := ho.resolve_right (by omega)
      have lb := cell_lt9 d0
      have c0 := (BW.out.cell (p := ⟨b, _, none⟩) lb).trans d0
      have c1 := (BW.out.cell (p := ⟨b, _, none⟩) lb).trans d1
      have c2 := (BW.out.cell (p := ⟨b, _, none⟩) lb).trans d2
      have c3 := (BW.out.cell (p := ⟨b, _, none⟩) lb).trans d3
      have c4 := (BW.out.cell (p := ⟨b, _, none⟩) lb).trans d4
      have CA := hide (cutact_c K A N t y xs.length c hV.room hV.t wr)
      obtain ⟨ys, hys⟩ : ∃ ys, xs.take 20 = ys := ⟨_, rfl⟩
      have el : min xs.length 20 = ys.length := by rw [← hys, List.length_take]; omega
      rw [el] at CA
      have PK0 : ∀ W, Below w.heap.size w W → PkAt W y ys := fun W k' => hys ▸ (hV.p.below k').take 20
      obtain ⟨t', ht'⟩ : ∃ t', t.extract 0 (min t.size 300) = t' := ⟨_, rfl⟩
      rw [ht'] at CA
      have KIo := KI
      have BW3 := hide (fun (w3 : World) (hb3 : Below wr.heap.size wr w3) => show Below w.heap.size w (w3.alloc (.cells #[.int .i64 K, .int .i64 A, .int .i64 N, .string t', .slice y ys.length c] 28)) from (BW.out.trans (hb3.mono BW.out.size)).alloc (Nat.le_trans BW.out.size hb3.size) _)
      have S3 := hide (fun (w3 : World) (hb3 : Below wr.heap.size wr w3) => show DkS w.heap.size d s (w3.alloc (.cells #[.int .i64 K, .int .i64 A, .int .i64 N, .string t', .slice y ys.length c] 28)) from (S.out.below hb3).below ((Below.refl _ _).alloc (Nat.le_refl _) _))
      have DO := hide (fun (w3 : World) (hb3 : Below wr.heap.size wr w3) => does_s s K A N t' (xs := ys) c hV.n (by have := ST.out; omega) (BW3.out w3 hb3).size (fun W' k' => PK0 W' (Ch.bel (BW3.out w3 hb3) k' (Nat.le_refl _))) (S3.out w3 hb3))
      have N4 := hide (fun (w3 : World) => Blk.new w3 #[.int .i64 K, .int .i64 A, .int .i64 N, .string t', .slice y ys.length c] 28)
      have okS := hide S.out.safes
      have ST1 := hide (show (actS s K A N t'.data.toList ys).steps ≤ k + 1 from Nat.le_trans (actS_steps _ _ _ _ _ _) (by have := ST.out; omega))
      have ST0 := hide (show s.steps ≤ k + 1 from by have := ST.out; omega)
      by_cases hgo : (K = 3 ∨ K = 4) ∧ A = no
      · obtain ⟨hK, rfl⟩ := hgo
        clear hc ho hV d0 d1 d2 d3 d4 lb el hys PK0 ht' DO okS ST1 S BW ST hlen
        rcases hK with rfl | rfl
        all_goals
          go_wp2_with fail
          refine CA.out.mono ?_
          rintro e w3 ⟨rfl, hb3⟩
          have S4 := hide (S3.out w3 hb3)
          have B4 := hide (BW3.out w3 hb3)
          clear CA hb3 S3 BW3 N4 c0 c1 c2 c3 c4
          go_wp2_with fail
          go_roundw
          case rel => exact ⟨k + 1, sf, s, by omega, by omega, by go_num, rfl, S4, B4, ST0, KI⟩
          case measure => simp [intOf]; omega
      · have KI1 := hide (keeps_inv (t := t'.data.toList) (xs := ys) (N := N) (fun f hf => (okS.out f hf).1) hgo KI.out)
        obtain ⟨s1, hs1⟩ : ∃ s1, actS s K A N t'.data.toList ys = s1 := ⟨_, rfl⟩
        obtain ⟨v1, hv1⟩ : ∃ v1, actV s K A N t'.data.toList ys = v1 := ⟨_, rfl⟩
        rw [hs1] at DO ST1 KI1
        rw [hv1] at DO
        have hKK : ((K == 3) = true ∧ (A == no) = false) ∨ ((K == 3) = false ∧ (K == 4) = true ∧ (A == no) = false) ∨ ((K == 3) = false ∧ (K == 4) = false) := by
          by_cases q3 : K = 3
          · exact Or.inl ⟨by simpa using q3, by simpa using fun e => hgo ⟨Or.inl q3, e⟩⟩
          · by_cases q4 : K = 4
            · exact Or.inr (Or.inl ⟨by simpa using q3, by simpa using q4, by simpa using fun e => hgo ⟨Or.inr q4, e⟩⟩)
            · exact Or.inr (Or.inr ⟨by simpa using q3, by simpa using q4⟩)
        have RD := hide (fun (W : World) (h : DkS w.heap.size d s1 W) => read_s s1 no h)
        have ON := hide (fun (W : World) (h : DkS w.heap.size d s1 W) => on_s h)
        have SF := hide (fun (W : World) (h : DkS w.heap.size d s1 W) => safe_s no NO.out h)
        have RO := hide (fun (hon : s1.on = true) (W : World) (h : DkS w.heap.size d s1 W) => read_on (n := no) hon h.safes KI1.out)
        obtain ⟨RB, hRB⟩ : ∃ RB : ByteArray, (⟨(readV s1 no).toArray⟩ : ByteArray) = RB := ⟨_, rfl⟩
        have HR := hide (show RB.data.toList = readV s1 no by rw [← hRB])
        rw [hRB] at RD
        clear hc ho hV d0 d1 d2 d3 d4 lb el hys PK0 ht' okS hs1 hv1 hRB S BW ST hlen hgo KI S3 ST0
        cases hon : s1.on
        · rw [hon] at ON
          generalize readB s1 no = rb at *
          clear RO SF hon
          rcases hKK with ⟨e3, e5⟩ | ⟨e3, e4, e5⟩ | ⟨e3, e4⟩
          all_goals
            go_wp2_with fail
            refine CA.out.mono ?_
            rintro e w3 ⟨rfl, hb3⟩
            have DO4 := hide (DO.out w3 hb3)
            have B4 := hide (BW3.out w3 hb3)
            clear CA DO BW3 N4 hb3 c0 c1 c2 c3 c4
            go_wp2_with fail
            refine DO4.out.mono ?_
            rintro e w5 ⟨rfl, hS, hC⟩
            have S5 := hide hS
            have B5 := hide (Ch.bel B4.out hC (Nat.le_refl _))
            clear DO4 hS hC B4
            go_wp2_with fail
            refine (RD.out _ S5.out).mono ?_
            rintro e w6 ⟨rfl, rfl⟩
            go_wp2_with fail
            refine (ON.out _ S5.out).mono ?_
            rintro e w7 ⟨rfl, rfl⟩
            clear RD ON
            go_wp2_with fail
            go_roundw
            case rel => exact ⟨k + 1, sf, s1, by omega, by omega, by go_num, rfl, S5, B5, ST1, KI1⟩
            case measure => simp [intOf]; omega
        · rw [hon] at ON
          have HON := hide hon
          cases hrb : readB s1 no
          · rw [hrb] at RD
            have HRB := hide hrb
            clear hon hrb
            rcases hKK with ⟨e3, e5⟩ | ⟨e3, e4, e5⟩ | ⟨e3, e4⟩
            all_goals
              go_wp2_with fail
              refine CA.out.mono ?_
              rintro e w3 ⟨rfl, hb3⟩
              have DO4 := hide (DO.out w3 hb3)
              have B4 := hide (BW3.out w3 hb3)
              clear CA DO BW3 N4 hb3 c0 c1 c2 c3 c4
              go_wp2_with fail
              refine DO4.out.mono ?_
              rintro e w5 ⟨rfl, hS, hC⟩
              have RX := (RO.out HON.out _ hS).1 HRB.out
              obtain rfl : sf = ⟨#[]⟩ := bytes_eq RX.1
              obtain rfl : RB = ⟨#[]⟩ := bytes_eq (HR.out.trans RX.2.1)
              have KI2 : Hid (KInv s1.fs no []) := by
                have q := (RO.out HON.out _ hS).2.2
                rw [RX.2.1, List.take_nil] at q
                exact q
              have SF5 := SF.out _ hS
              rw [RX.2.2] at SF5
              have SFH := hide SF5
              have S5 := hide hS
              have B5 := hide (Ch.bel B4.out hC (Nat.le_refl _))
              clear DO4 hS hC B4 RX RO HR SF SF5
              go_wp2_with fail
              refine (RD.out _ S5.out).mono ?_
              rintro e w6 ⟨rfl, rfl⟩
              go_wp2_with fail
              refine (ON.out _ S5.out).mono ?_
              rintro e w7 ⟨rfl, rfl⟩
              clear RD ON
              go_wp2_with fail
              refine SFH.out.mono ?_
              rintro e w8 ⟨rfl, rfl⟩
              clear SFH
              go_wp2_with fail
              go_roundw
              case rel => exact ⟨k + 1, ⟨#[]⟩, s1, by omega, by omega, by go_num, rfl, S5, B5, ST1, KI2⟩
              case measure => simp [intOf]; omega
          · rw [hrb] at RD
            have HRB := hide hrb
            obtain ⟨z, hz⟩ : ∃ z, safeV s1.fs no = z := ⟨_, rfl⟩
            rw [hz] at SF
            have HZ := hide hz
            clear hon hrb hz
            rcases hKK with ⟨e3, e5⟩ | ⟨e3, e4, e5⟩ | ⟨e3, e4⟩
            all_goals
              go_wp2_with fail
              refine CA.out.mono ?_
              rintro e w3 ⟨rfl, hb3⟩
              have DO4 := hide (DO.out w3 hb3)
              have B4 := hide (BW3.out w3 hb3)
              clear CA DO BW3 N4 hb3 c0 c1 c2 c3 c4
              go_wp2_with fail
              refine DO4.out.mono ?_
              rintro e w5 ⟨rfl, hS, hC⟩
              have RX := (RO.out HON.out _ hS).2.1 HRB.out
              obtain ⟨hE, hle⟩ := ext_eq (a := RB) (b := sf) (by rw [HR.out]; exact RX.1)
              have hle1 : (sf.size : Int) ≤ (RB.size : Int) := by omega
              have hle2 : ¬ (RB.size : Int) < (sf.size : Int) := by omega
              have hz1 : z ≤ RB.size := by
                have q := RX.2
                rw [HZ.out, ← HR.out, str_len] at q
                exact q
              have hz2 : (z : Int) ≤ (RB.size : Int) := by omega
              have KI2 : Hid (KInv s1.fs no (RB.extract 0 z).data.toList) := by
                have q := (RO.out HON.out _ hS).2.2
                rw [HZ.out, ← HR.out, ← ext_list] at q
                exact q
              have SFH := hide (SF.out _ hS)
              have S5 := hide hS
              have B5 := hide (Ch.bel B4.out hC (Nat.le_refl _))
              clear DO4 hS hC B4 RX RO HR SF
              go_wp2_with fail
              refine (RD.out _ S5.out).mono ?_
              rintro e w6 ⟨rfl, rfl⟩
              go_wp2_with fail
              refine (ON.out _ S5.out).mono ?_
              rintro e w7 ⟨rfl, rfl⟩
              clear RD ON
              go_wp2_with fail
              refine SFH.out.mono ?_
              rintro e w8 ⟨rfl, rfl⟩
              clear SFH
              go_wp2_with fail
              go_roundw
              case rel => exact ⟨k + 1, RB.extract 0 z, s1, by omega, by omega, by go_num, rfl, S5, B5, ST1, KI2⟩
              case measure => simp [intOf]; omega
    · have hex : ¬ (k : Int) < len ∨ ((k : Int) < len ∧ ¬ (k : Int) < 130) := by omega
      clear hlt AH S ST KI
      rcases hex with hx1 | ⟨hx1, hx2⟩
      all_goals
        go_wp2_with fail
        go_ret
        exact ⟨rfl, BW.out⟩

end Go.Proofs.Ytoppmpodiofhhaa
