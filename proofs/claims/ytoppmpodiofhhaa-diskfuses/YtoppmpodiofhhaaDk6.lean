/-
  Start.
-/
import Derived.Test.YtoppmpodiofhhaaDk5
import Derived.Deep.QuietTactic
import Derived.BigQuiet
import Derived.Deep.RegionHeld
namespace Go.Proofs.Ytoppmpodiofhhaa
open Go.ChangeShapes Go.WideShapes Go.ChangeAt Go.RowKit
set_option linter.unusedVariables false
set_option linter.unusedSimpArgs false

theorem setP_mid {pre r : List Pf} {f : Pf} {x : Pf → Pf} (h1 : ∀ g, g ∈ pre → g.no ≠ f.no) (h2 : ∀ g, g ∈ r → g.no ≠ f.no) : setP (pre ++ f :: r) f.no x = pre ++ x f :: r := by
  unfold setP
  rw [List.map_append, List.map_cons, if_pos rfl]
  have e : ∀ l : List Pf, (∀ g, g ∈ l → g.no ≠ f.no) → l.map (fun g => if g.no = f.no then x g else g) = l := by
    intro l h
    conv => rhs; rw [← List.map_id l]
    refine List.map_congr_left (fun g hg => ?_)
    rw [if_neg (h g hg)]; rfl
  rw [e pre h1, e r h2]

/-- How far Start has come. -/
structure StR (xs : List Int) (fs : List Pf) (l : List Fl) (pre rest : List Pf) (k : Nat) : Prop where
  view : l.map Fl.pf = pre ++ rest
  nos : (pre ++ rest).map Pf.no = fs.map Pf.no
  fin : startP xs fs 0 = pre ++ startP xs rest k

theorem view_apart {l : List Fl} (h : l.Pairwise Lies) {pre r : List Pf} {f : Pf} (e : l.map Fl.pf = pre ++ f :: r) : (∀ g, g ∈ pre → g.no ≠ f.no) ∧ (∀ g, g ∈ r → g.no ≠ f.no) := by
  have q : (l.map Fl.pf).Pairwise (fun a b => a.no < b.no) := by
    rw [List.pairwise_map]
    exact h.imp (fun {f g} hR => hR.1)
  rw [e, List.pairwise_append] at q
  obtain ⟨_, q2, q3⟩ := q
  refine ⟨fun g hg => ?_, fun g hg => ?_⟩
  · have := q3 g hg f (by simp); omega
  · have := (List.pairwise_cons.1 q2).1 g hg; omega

/-- The file that comes next. -/
theorem StR.next {xs : List Int} {fs : List Pf} {l : List Fl} {pre r : List Pf} {f : Pf} {k : Nat} (R : StR xs fs l pre (f :: r) k) (h : l.Pairwise Lies) :
    ∃ g, getL l f.no = some g ∧ g ∈ l ∧ g.pf = f := by
  have q := view_apart h R.view
  have e : getP (l.map Fl.pf) f.no = some f := by
    rw [R.view]
    unfold getP
    rw [List.find?_append, List.find?_eq_none.2 (fun g hg => by simpa using q.1 g hg)]
    simp
  rw [getL_view] at e
  obtain ⟨g, hg, hf⟩ := Option.map_eq_some_iff.1 e
  exact ⟨g, hg, (getL_mem hg).1, hf⟩

theorem StR.skip {xs : List Int} {fs : List Pf} {l : List Fl} {pre r : List Pf} {f : Pf} {k : Nat} (R : StR xs fs l pre (f :: r) k) (ht : f.bs.length = f.safe) : StR xs fs l (pre ++ [f]) r k := by
  have e : (pre ++ [f]) ++ r = pre ++ f :: r := by simp
  refine ⟨by rw [e]; exact R.view, by rw [e]; exact R.nos, ?_⟩
  rw [R.fin, startP, if_pos ht]
  simp

theorem StR.keep {xs : List Int} {fs : List Pf} {l l' : List Fl} {pre r : List Pf} {f : Pf} {k : Nat} (R : StR xs fs l pre (f :: r) k) (ht : ¬ f.bs.length = f.safe)
    (hv : l'.map Fl.pf = pre ++ ⟨f.no, f.bs.take (keepN xs f k), keepN xs f k⟩ :: r) : StR xs fs l' (pre ++ [⟨f.no, f.bs.take (keepN xs f k), keepN xs f k⟩]) r (k + 1) := by
  have e : (pre ++ [⟨f.no, f.bs.take (keepN xs f k), keepN xs f k⟩]) ++ r = pre ++ ⟨f.no, f.bs.take (keepN xs f k), keepN xs f k⟩ :: r := by simp
  refine ⟨by rw [e]; exact hv, ?_, ?_⟩
  · rw [e, ← R.nos]
    simp
  · rw [R.fin, startP, if_neg ht]
    simp

theorem keepN_le {xs : List Int} {f : Pf} {k : Nat} (h : f.safe ≤ f.bs.length) : f.safe ≤ keepN xs f k ∧ keepN xs f k ≤ f.bs.length := by
  unfold keepN
  have := Nat.mod_lt (pickV xs k) (show 0 < f.bs.length - f.safe + 1 by omega)
  omega

/-- Trimmed, and all of it safe. -/
theorem keep_view {l : List Fl} (h : l.Pairwise Lies) {pre r : List Pf} {f : Fl} (hm : f ∈ l) (hv : l.map Fl.pf = pre ++ f.pf :: r) {z : Nat} {v' : Value} (hz : f.safe ≤ z) :
    (setL (setL l f.no (fun g => ⟨g.no, g.p, v', g.bs.take z, min g.safe z⟩)) f.no (fun g => ⟨g.no, g.p, g.v, g.bs, z⟩)).map Fl.pf = pre ++ ⟨f.no, f.bs.take z, z⟩ :: r := by
  obtain ⟨q1, q2⟩ := view_apart h hv
  rw [setL_view _ f.no _ (fun g => ⟨g.no, g.bs, z⟩) (fun g _ _ => rfl), setL_view _ f.no _ (fun g => ⟨g.no, g.bs.take z, min g.safe z⟩) (fun g _ _ => rfl), hv]
  have e1 := setP_mid (x := fun g : Pf => ⟨g.no, g.bs.take z, min g.safe z⟩) q1 q2
  rw [show f.pf.no = f.no from rfl] at e1
  rw [e1]
  exact setP_mid (f := ⟨f.no, f.bs.take z, min f.safe z⟩) (x := fun g : Pf => ⟨g.no, g.bs, z⟩) q1 q2

/-- What a box's second cell holds. -/
def SX (p : Nat) (z : Int) (W : World) : Prop := W.cell? ⟨p, 1, none⟩ = some (.int .i64 z)

theorem below_drewN9 {W : World} {B : Nat} {w : World} (h : Below B W w) (n : Nat) : Below B W (w.drewN n) := h.trans ⟨rfl, rfl, rfl, Nat.le_refl _, fun _ _ => rfl⟩

theorem int_len {W : World} {B n : Nat} {v : Value} {xs : List Value} (h : W.ownsRow B 3 1 v n xs) (ty : TypeId) : (Builtin.len_ #[26] ty #[v]).run Try.prog W = .ok (.int .i64 (n : Int)) W := by
  rcases h.2 with ⟨rfl, rfl⟩ | ⟨g, cap, cur, rfl, _⟩
  · simp [Builtin.len_, run_underlying Try.underlying26, goInt, Result.andThen, Builtin.lenOf]
  · simp [Builtin.len_, run_underlying Try.underlying26, goInt, Result.andThen, Builtin.lenOf]

theorem len_all {W : World} {B n : Nat} {v : Value} {xs : List Value} (h : W.ownsRow B 5 1 v n xs) (ty : TypeId) (W' : World) : (Builtin.len_ #[56] ty #[v]).run Try.prog W' = .ok (.int .i64 (n : Int)) W' := by
  rcases h.2 with ⟨rfl, rfl⟩ | ⟨g, cap, cur, rfl, _⟩
  · simp [Builtin.len_, run_underlying Try.underlying56, goInt, Result.andThen, Builtin.lenOf]
  · simp [Builtin.len_, run_underlying Try.underlying56, goInt, Result.andThen, Builtin.lenOf]

theorem keep_end {B d m : Nat} {l : List Fl} {fu : Int} {st : Nat} {on : Bool} {w w5 : World} (A : DkAt B d m l fu st on w) {f : Fl} (hm : f ∈ l) {Z : Nat} (T : TrimPost B f Z w w5) (z1 : f.safe ≤ Z) (z2 : Z ≤ f.bs.length) :
    ∃ v' l2, (w5.cell? ⟨f.p, 0, none⟩ = some v' ∧ w5.cell? ⟨f.p, 1, none⟩ = some (.int .i64 (f.safe : Int)) ∧ w5.frozen? ⟨f.p, 1, none⟩ = false ∧ f.p < w5.heap.size ∧ ∀ ty W', (Builtin.len_ #[56] ty #[v']).run Try.prog W' = .ok (.int .i64 (Z : Int)) W') ∧
      DkAt B d m l2 fu st on (w5.setCell ⟨f.p, 1, none⟩ (.int .i64 (Z : Int))) ∧ Ch (Mine B w) w (w5.setCell ⟨f.p, 1, none⟩ (.int .i64 (Z : Int))) ∧
      ∀ pre r, l.map Fl.pf = pre ++ f.pf :: r → l2.map Fl.pf = pre ++ ⟨f.no, f.bs.take Z, Z⟩ :: r := by
  obtain ⟨v', F', c0, loc⟩ := T
  have c : Ch (fun b => b = f.p ∨ some b = f.v.ownBlock) w w5 := c0.mono (fun b _ e => Or.inl e)
  have A5 := A.file hm (u := fun g => ⟨g.no, g.p, v', g.bs.take Z, min g.safe Z⟩) (fun _ => rfl) (fun _ => rfl) c F' (fun b hb hl => by have := loc b hb; omega)
  have C5 := A.mineFile hm c
  have lz : (f.bs.take Z).length = Z := by rw [List.length_take]; omega
  have hm5 : (⟨f.no, f.p, v', f.bs.take Z, min f.safe Z⟩ : Fl) ∈ setL l f.no (fun g => ⟨g.no, g.p, v', g.bs.take Z, min g.safe Z⟩) := List.mem_map.2 ⟨f, hm, if_pos rfl⟩
  obtain ⟨A6, C6⟩ := file_safe A5 hm5 (z := Z) (by show Z ≤ (f.bs.take Z).length; omega)
  refine ⟨v', _, ⟨F'.hd.cell 0, ?_, F'.hd.frozen 1, F'.hd.lt, fun ty W' => ?_⟩, A6, C5.next C6, fun pre r hv => keep_view A.lies hm hv z1⟩
  · have q : w5.cell? ⟨f.p, 1, none⟩ = some (.int .i64 ((min f.safe Z : Nat) : Int)) := F'.hd.cell 1
    rw [q, Nat.min_eq_left z1]
  · have q := len_all F'.row ty W'
    rw [show (⟨f.no, f.p, v', f.bs.take Z, min f.safe Z⟩ : Fl).bs.length = Z from lz] at q
    exact q

theorem nos_at {l : List Fl} {pre r : List Pf} {f : Pf} {fs : List Pf} {j : Nat} (h : (pre ++ f :: r).map Pf.no = fs.map Pf.no) (hv : l.map Fl.pf = fs) (hp : pre.length = j) : (l.map fun f : Fl => Value.int .i64 f.no)[j]? = some (.int .i64 f.no) := by
  have e : (l.map fun f : Fl => Value.int .i64 f.no) = (fs.map Pf.no).map (Value.int .i64) := by
    rw [← hv, List.map_map, List.map_map]; rfl
  rw [e, ← h, List.map_map, List.getElem?_map, List.getElem?_append_right (by omega), hp, Nat.sub_self]
  rfl

theorem row_alien {W W' : World} {B b n : Nat} {v : Value} {xs : List Value} (h : W.ownsRow b 3 1 v n xs) (k : Ch (Mine B W) W W') : W'.ownsRow b 3 1 v n xs := by
  refine k.row h (fun c hc hm => hm.2 ?_)
  obtain ⟨_, _, cur, e⟩ := row_block h hc
  exact ⟨cur, 3, (0, 0), e, by decide, by decide, by decide⟩

set_option maxRecDepth 100000 in
set_option maxHeartbeats 4000000 in
theorem start_s {B d : Nat} (s : DS) {x : Option Addr} {xs : List Int} (cap : Nat) {W : World} (hB : B ≤ W.heap.size) (PK : ∀ W', Ch (Mine B W) W W' → PkAt W' x xs) (S : DkS B d s W) :
    Calls Try.prog 21 #[.pointer (some ⟨d, 0, none⟩), .slice x xs.length cap] W fun e W' => Left B d (stV s) (stS s xs) W e W' := by
  obtain ⟨m, l, A, hv⟩ := S
  unfold Left stV stS
  obtain ⟨c0, -, -, c3, -, -, -, hl⟩ := A.cells
  cases hon : s.on
  · rw [hon] at c3
    rw [if_neg (by decide), if_neg (by decide)]
    have LC := hide (list_c A)
    have AH := hide A
    have PH := hide PK
    have VH := hide hv
    have HB := hide hB
    have ll := A.len
    have fu0 := hide A.fu0
    have fu1 := hide A.fu1
    clear A hv PK hB c0
    go_enter Try.func21, Try.ntmps21
    go_wp2_with fail
    refine LC.out.mono ?_
    rintro e W1 ⟨v, rfl, O, hb⟩
    have A1 := hide (AH.out.below hb)
    have C1 := hide (Ch.below (X := Mine B W) hb)
    have OH := hide O
    have LV := int_len O
    obtain ⟨n, hn⟩ : ∃ n, l.length = n := ⟨_, rfl⟩
    have R0 : Hid (StR xs s.fs l [] s.fs 0) := ⟨by rw [VH.out]; rfl, rfl, rfl⟩
    have HN := hide hn
    rw [hn] at LV ll
    clear hb O LC AH hn hl c3
    go_wp2_with fail
    go_loopw [5, 19] (fun kv iv wr => ∃ (j k : Nat) (l' : List Fl) (pre rest : List Pf), j ≤ n ∧ k ≤ j ∧ kv = .int .i64 k ∧ iv = .int .i64 j ∧ Hid (DkAt B d m l' s.fuse s.steps s.on wr) ∧ Hid (Ch (Mine B W) W wr) ∧ Hid (Ch (Mine B W1) W1 wr) ∧ Hid (StR xs s.fs l' pre rest k) ∧ Hid (pre.length = j)) (fun _ iv _ => n - (intOf iv).toNat)
    case atStart => exact ⟨0, 0, l, [], s.fs, by omega, by omega, rfl, rfl, A1, C1, Ch.refl _ _, R0, rfl⟩
    case round =>
      clear A1 C1 R0 LV
      obtain ⟨j, k, l', pre, rest, hj, hkj, rfl, rfl, A, C, C', R, PL⟩ := hrel
      have nn : pre.length + rest.length = n := by
        have e1 := congrArg List.length R.out.nos
        have e2 := congrArg List.length VH.out
        simp only [List.length_append, List.length_map] at e1 e2
        have e3 := HN.out
        omega
      by_cases hlt : j < n
      · obtain ⟨f, r, rfl⟩ : ∃ f r, rest = f :: r := by
          cases rest with
          | nil => have := PL.out; simp at nn; omega
          | cons f r => exact ⟨f, r, rfl⟩
        obtain ⟨fl, hg, hm, rfl⟩ := R.out.next A.out.lies
        have hgn : getL l' fl.no = some fl := hg
        have O2 := row_alien OH.out C'.out
        have hjl : (j : Int) < (l.length : Int) := by have := HN.out; omega
        have hjn : (j : Int) < (n : Int) := by omega
        obtain ⟨c0, -, -, -, -, -, -, hl⟩ := A.out.cells
        have F := A.out.fl fl hm
        have LK := look_run A.out.map fl.no (by have := F.no1; have := F.no2; omega)
        unfold atV at LK
        rw [hgn] at LK
        simp only at LK
        rcases O2.2 with ⟨-, h0⟩ | ⟨g, cap', cur, rfl, -, -, -, -, -, -⟩
        · have := HN.out; omega
        have cj : wr.cell? ⟨g, j, none⟩ = some (.int .i64 fl.no) := by
          rw [World.ownsRow.cellAt O2 j (by have := HN.out; omega)]
          exact nos_at R.out.nos VH.out PL.out
        have c4 : wr.cell? ⟨fl.p, 0, none⟩ = some fl.v := F.hd.cell 0
        have c5 : wr.cell? ⟨fl.p, 1, none⟩ = some (.int .i64 (fl.safe : Int)) := F.hd.cell 1
        have hl4 := F.hd.lt
        have LVf := len_all F.row
        have FB : Hid (fl.safe ≤ fl.bs.length ∧ fl.bs.length ≤ 1048576) := ⟨F.safe, F.len⟩
        obtain ⟨p, hp⟩ : ∃ p, fl.p = p := ⟨_, rfl⟩
        obtain ⟨fv, hfv⟩ : ∃ fv, fl.v = fv := ⟨_, rfl⟩
        obtain ⟨no, hno⟩ : ∃ no, fl.no = no := ⟨_, rfl⟩
        obtain ⟨L, hL⟩ : ∃ L : Int, (fl.bs.length : Int) = L := ⟨_, rfl⟩
        obtain ⟨z, hz⟩ : ∃ z : Int, (fl.safe : Int) = z := ⟨_, rfl⟩
        have bz : 0 ≤ z ∧ z ≤ L ∧ L ≤ 1048576 := by have := FB.out; omega
        obtain ⟨bz1, bz2, bz3⟩ := bz
        have HL := hide hL
        have HZ := hide hz
        have HM := hide hm
        have HP := hide hp
        have HNO := hide hno
        rw [hp] at c4 c5 hl4 LK
        rw [hfv] at c4 LVf
        rw [hno] at LK cj
        rw [hL] at LVf
        rw [hz] at c5
        clear O2 hg hgn F hm hp hfv hno hL hz nn hlt
        go_upto_region 10 with fail
        go_quiet (fail)
        have BD := below_drewN9 (Below.refl wr.heap.size wr) nq
        have A3 := hide (A.out.below BD)
        have C3 := hide (C.out.next (Ch.below (X := Mine B wr) BD))
        have C3' := hide (C'.out.next (Ch.below (X := Mine B wr) BD))
        have d5 : SX p z (wr.drewN nq) := c5
        obtain ⟨w3, hw3⟩ : ∃ w3, wr.drewN nq = w3 := ⟨_, rfl⟩
        rw [hw3] at A3 C3 C3' d5 ⊢
        clear A C C' c0 c4 c5 cj LK LVf hw3 hl hl4 BD
        by_cases ht : L - z = 0
        · have hb : (L - z == 0) = true := by simpa using ht
          have HT : Hid (fl.pf.bs.length = fl.pf.safe) := by show fl.bs.length = fl.safe; have := HL.out; have := HZ.out; omega
          have PL2 : Hid ((pre ++ [fl.pf]).length = j + 1) := by show _ = _; rw [List.length_append, PL.out]; rfl
          have R2 := hide (R.out.skip HT.out)
          clear d5 R PL HT ht
          go_wp2_with fail
          go_roundw
          case rel => exact ⟨j + 1, k, l', pre ++ [fl.pf], r, by omega, by omega, rfl, by go_num, A3, C3, C3', R2, PL2⟩
          case measure => simp [intOf]; omega
        · have hb : (L - z == 0) = false := by simpa using ht
          have HT : Hid (¬ fl.pf.bs.length = fl.pf.safe) := by show ¬ fl.bs.length = fl.safe; have := HL.out; have := HZ.out; omega
          obtain ⟨Z, hZ⟩ : ∃ Z, keepN xs fl.pf k = Z := ⟨_, rfl⟩
          have kz := keepN_le (xs := xs) (f := fl.pf) (k := k) FB.out.1
          rw [hZ] at kz
          obtain ⟨PV, hPV⟩ : ∃ PV : Int, ((pickV xs k : Nat) : Int) = PV := ⟨_, rfl⟩
          have e10 : PV.tmod (L - z + 1) = (Z : Int) - z := by
            have q1 : L - z + 1 = ((fl.bs.length - fl.safe + 1 : Nat) : Int) := by have := HL.out; have := HZ.out; omega
            have q2 : fl.safe + pickV xs k % (fl.bs.length - fl.safe + 1) = Z := hZ
            have q3 := HZ.out
            have q4 : (((pickV xs k % (fl.bs.length - fl.safe + 1) : Nat)) : Int) = ((pickV xs k : Nat) : Int) % ((fl.bs.length - fl.safe + 1 : Nat) : Int) := Int.natCast_emod _ _
            rw [← hPV, q1, Int.tmod_eq_emod_of_nonneg (by omega), ← q4]
            omega
          have n9 : ¬ (L - z + 1 = 0) := by omega
          have bZ : z ≤ (Z : Int) ∧ (Z : Int) ≤ L := by have := HL.out; have := HZ.out; have := kz.1; have := kz.2; have k1 : fl.pf.safe = fl.safe := rfl; have k2 : fl.pf.bs.length = fl.bs.length := rfl; omega
          obtain ⟨bZ1, bZ2⟩ := bZ
          have TC := hide (fun (w4 : World) (k4 : Below w3.heap.size w3 w4) => trim_c fl Z kz.2 ((A3.out.below k4).fl fl HM.out) (Nat.le_trans HB.out (Nat.le_trans C3.out.size k4.size)))
          have KE := hide (fun (w4 w5 : World) (k4 : Below w3.heap.size w3 w4) (T : TrimPost B fl Z w4 w5) => keep_end (A3.out.below k4) HM.out T kz.1 kz.2)
          have PC := hide (fun (w4 : World) (k4 : Below w3.heap.size w3 w4) => pick_c (PH.out w4 (C3.out.next (Ch.below k4))) cap k (by omega))
          have RV := hide (fun (l2 : List Fl) (hv : l2.map Fl.pf = pre ++ (⟨fl.no, fl.bs.take Z, Z⟩ : Pf) :: r) => R.out.keep (l' := l2) HT.out (by rw [hZ]; exact hv))
          have VW := hide R.out.view
          have PL2 : Hid ((pre ++ [(⟨fl.pf.no, fl.pf.bs.take (keepN xs fl.pf k), keepN xs fl.pf k⟩ : Pf)]).length = j + 1) := by show _ = _; rw [List.length_append, PL.out]; rfl
          rw [HP.out] at TC KE
          rw [hPV] at PC
          rw [HZ.out] at KE
          obtain ⟨ZI, hZI⟩ : ∃ ZI : Int, (Z : Int) = ZI := ⟨_, rfl⟩
          rw [hZI] at e10 bZ1 bZ2 TC KE
          have e9 : IntKind.i64.wrap (L - z + 1) = L - z + 1 := by rw [IntKind.wrap_i64]; omega
          have e11 : IntKind.i64.wrap (z + (ZI - z)) = ZI := by rw [IntKind.wrap_i64]; omega
          clear R PL HT hZ kz hPV hZI
          go_upto_region 12 with fail
          refine wp_region_held_drew (S := (SX p z)) (by kernel_rfl) ?hS100 (fun hHeld => ?rest100)
          case hS100 => (first | exact d5 | exact h5 | exact hHeld)
          refine wpAnyH_take (i := 0) (oi := _) (v := ?v101) (List.getElem?_toArray.trans rfl) (by kernel_rfl) (by kernel_rfl) (by kernel_rfl) (fun _ _ _ h => h) (Or.inl ⟨by rfl, ?hy101⟩) (by assumption) ?rest101
          case hy101 => (intro wq hSw; (try simp only [SX] at hSw); go_simp; try with_reducible rfl)
          try simp only [Act.put, List.setIfInBounds_toArray, List.set_cons_zero, List.set_cons_succ]
          refine wpAnyH_take (i := 1) (oi := _) (v := ?v102) (List.getElem?_toArray.trans rfl) (by kernel_rfl) (by kernel_rfl) (by kernel_rfl) (fun _ _ _ h => h) (Or.inl ⟨by rfl, ?hy102⟩) (by assumption) ?rest102
          case hy102 => (intro wq hSw; (try simp only [SX] at hSw); go_simp; try with_reducible rfl)
          try simp only [Act.put, List.setIfInBounds_toArray, List.set_cons_zero, List.set_cons_succ]
          refine wpAnyH_take (i := 2) (oi := _) (v := ?v103) (List.getElem?_toArray.trans rfl) (by kernel_rfl) (by kernel_rfl) (by kernel_rfl) (fun _ _ _ h => h) (Or.inl ⟨by rfl, ?hy103⟩) (by assumption) ?rest103
          case hy103 => (intro wq hSw; (try simp only [SX] at hSw); go_simp; try with_reducible rfl)
          try simp only [Act.put, List.setIfInBounds_toArray, List.set_cons_zero, List.set_cons_succ]
          refine wpAnyH_take (i := 3) (oi := _) (v := ?v104) (List.getElem?_toArray.trans rfl) (by kernel_rfl) (by kernel_rfl) (by kernel_rfl) (fun _ _ _ h => h) (Or.inl ⟨by rfl, ?hy104⟩) (by assumption) ?rest104
          case hy104 => (intro wq hSw; (try simp only [SX] at hSw); go_simp; try with_reducible rfl)
          try simp only [Act.put, List.setIfInBounds_toArray, List.set_cons_zero, List.set_cons_succ]
          refine wpAnyH_take (i := 4) (oi := _) (v := ?v105) (List.getElem?_toArray.trans rfl) (by kernel_rfl) (by kernel_rfl) (by kernel_rfl) (fun _ _ _ h => h) (Or.inl ⟨by rfl, ?hy105⟩) (by assumption) ?rest105
          case hy105 => (intro wq hSw; (try simp only [SX] at hSw); go_simp; try with_reducible rfl)
          try simp only [Act.put, List.setIfInBounds_toArray, List.set_cons_zero, List.set_cons_succ]
          refine wpAnyH_take (i := 5) (oi := _) (v := ?v106) (List.getElem?_toArray.trans rfl) (by kernel_rfl) (by kernel_rfl) (by kernel_rfl) (fun _ _ _ h => h) (Or.inl ⟨by rfl, ?hy106⟩) (by assumption) ?rest106
          case hy106 => (intro wq hSw; (try simp only [SX] at hSw); go_simp; try with_reducible rfl)
          try simp only [Act.put, List.setIfInBounds_toArray, List.set_cons_zero, List.set_cons_succ]
          refine wpAnyH_take (i := 6) (oi := _) (v := ?v107) (List.getElem?_toArray.trans rfl) (by kernel_rfl) (by kernel_rfl) (by kernel_rfl) (fun _ _ _ h => h) (Or.inl ⟨by rfl, ?hy107⟩) (by assumption) ?rest107
          case hy107 => (intro wq hSw; (try simp only [SX] at hSw); go_simp; try with_reducible rfl)
          try simp only [Act.put, List.setIfInBounds_toArray, List.set_cons_zero, List.set_cons_succ]
          refine wpAnyH_take (i := 8) (oi := _) (v := ?v108) (List.getElem?_toArray.trans rfl) (by kernel_rfl) (by kernel_rfl) (by kernel_rfl) (fun _ _ _ h => h) (Or.inl ⟨by rfl, ?hy108⟩) (by assumption) ?rest108
          case hy108 => (intro wq hSw; (try simp only [SX] at hSw); go_simp; try with_reducible rfl)
          try simp only [Act.put, List.setIfInBounds_toArray, List.set_cons_zero, List.set_cons_succ]
          refine wpAnyH_take (i := 9) (oi := _) (v := (.int .i64 (L - z + 1))) (List.getElem?_toArray.trans rfl) (by kernel_rfl) (by kernel_rfl) (by kernel_rfl) (fun _ _ _ h => h) (Or.inl ⟨by rfl, ?hy109⟩) (by assumption) ?rest109
          case hy109 => (intro wq hSw; (try simp only [SX] at hSw); go_simp; skip)
          try simp only [Act.put, List.setIfInBounds_toArray, List.set_cons_zero, List.set_cons_succ]
          refine wpAnyH_ready (rs := [7]) (by kernel_rfl) (by simp) ?rdy110
          refine AllReadyH.cons (List.getElem?_toArray.trans rfl) (fun K hK => ?stp110) AllReadyH.nil
          go_simp
          go_wp2_with fail
          (refine (PC.out _ (Below.refl _ _).drew).mono ?_; rintro e w4 ⟨rfl, rfl⟩)
          go_wp2_with fail
          refine hK.out _ _ ?hSn110 (fun hHeld2 => ?rest110)
          case hSn110 => (first | exact d5 | exact h5 | exact hHeld)
          clear hK K hHeld
          have hHeld := hHeld2
          clear hHeld2
          try simp only [Act.put, List.setIfInBounds_toArray, List.set_cons_zero, List.set_cons_succ]
          refine wpAnyH_take (i := 10) (oi := _) (v := (.int .i64 (ZI - z))) (List.getElem?_toArray.trans rfl) (by kernel_rfl) (by kernel_rfl) (by kernel_rfl) (fun _ _ _ h => h) (Or.inl ⟨by rfl, ?hy111⟩) (by assumption) ?rest111
          case hy111 => (intro wq hSw; (try simp only [SX] at hSw); go_simp; skip)
          try simp only [Act.put, List.setIfInBounds_toArray, List.set_cons_zero, List.set_cons_succ]
          refine wpAnyH_take (i := 11) (oi := _) (v := (.int .i64 ZI)) (List.getElem?_toArray.trans rfl) (by kernel_rfl) (by kernel_rfl) (by kernel_rfl) (fun _ _ _ h => h) (Or.inl ⟨by rfl, ?hy112⟩) (by assumption) ?rest112
          case hy112 => (intro wq hSw; (try simp only [SX] at hSw); go_simp; skip)
          try simp only [Act.put, List.setIfInBounds_toArray, List.set_cons_zero, List.set_cons_succ]
          refine wpAnyH_ready (rs := [12]) (by kernel_rfl) (by simp) ?rdy113
          refine AllReadyH.cons (List.getElem?_toArray.trans rfl) (fun K hK => ?stp113) AllReadyH.nil
          go_simp
          go_wp2_with fail
          (refine (TC.out _ (Below.refl _ _).drew).mono ?_; rintro e w5 ⟨rfl, hT⟩; obtain ⟨v', l2, ⟨q0, q1, q2, q3, q4⟩, q5, q6, q7⟩ := KE.out _ _ (Below.refl _ _).drew hT; have h5 : SX p z w5 := q1; clear hT)
          go_wp2_with fail
          refine hK.out _ _ ?hSn113 (fun hHeld2 => ?rest113)
          case hSn113 => (first | exact d5 | exact h5 | exact hHeld)
          clear hK K hHeld
          have hHeld := hHeld2
          clear hHeld2
          try simp only [Act.put, List.setIfInBounds_toArray, List.set_cons_zero, List.set_cons_succ]
          refine wpAnyH_done (by kernel_rfl) ?fin100 _
          have A6 := hide q5
          have K36 := (Ch.below (X := Mine B w3) (Below.refl w3.heap.size w3).drew).next q6
          have C6 := hide (C3.out.next K36)
          have C6' := hide (C3'.out.next K36)
          have R6 := hide (RV.out l2 (q7 pre r VW.out))
          clear q5 q6 q7 h5 d5 K36 A3 C3 C3' TC KE PC RV VW hHeld e10 n9 e9 e11
          go_wp2_with fail
          go_roundw
          case rel => exact ⟨j + 1, k + 1, l2, pre ++ [⟨fl.pf.no, fl.pf.bs.take (keepN xs fl.pf k), keepN xs fl.pf k⟩], r, by omega, by omega, by go_num, by go_num, A6, C6, C6', R6, PL2⟩
          case measure => simp [intOf]; omega
      · have hjn : ¬ (j : Int) < (n : Int) := by omega
        have er : rest = [] := List.eq_nil_of_length_eq_zero (by have := PL.out; omega)
        subst er
        obtain ⟨c0, c1, c2, c3, f1, f2, f3, hl⟩ := A.out.cells
        have k3 := Ch.cell wr d 3 (.bool true)
        have S3 := hide (A.out.head (fu' := s.fuse) (st' := s.steps) (on' := true) k3 (A.out.hd.put 3 _) fu0.out fu1.out)
        have K3 := hide (C.out.next (A.out.mineHead k3))
        have V3 : Hid (l'.map Fl.pf = startP xs s.fs 0) := by
          have q := R.out.fin
          rw [R.out.view, q]
          rfl
        clear A C C' R PL nn hlt k3
        go_wp2_with fail
        go_ret
        exact ⟨rfl, ⟨m, l', S3.out, V3.out⟩, K3.out⟩
  · rw [hon] at c3
    rw [if_pos rfl, if_pos rfl]
    have AH := hide A
    clear A PK
    go_enter Try.func21, Try.ntmps21
    go_wp2_with fail
    go_ret
    exact ⟨rfl, ⟨m, l, AH.out, hv⟩, Ch.refl _ _⟩

end Go.Proofs.Ytoppmpodiofhhaa
