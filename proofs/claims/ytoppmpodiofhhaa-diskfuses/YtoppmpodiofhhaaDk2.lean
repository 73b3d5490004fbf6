/-
  Trim of a file; Sync, Trim, Remove.
-/
import Derived.Test.YtoppmpodiofhhaaDk1
import Derived.Test.YtoppmpodiofhhaaApS
import Derived.Laws.AppendOwnNone
namespace Go.Proofs.Ytoppmpodiofhhaa
open Go.ChangeShapes Go.WideShapes Go.ChangeAt Go.RowKit
set_option linter.unusedVariables false
set_option linter.unusedSimpArgs false

theorem infoU8 : (Try.prog.info? 5).map (fun i => (i.zero, i.size, i.bytes)) = some (some (.int .u8 0), 1, 1) := by kernel_rfl

theorem own_base {W : World} {B b n sz : Nat} {e : TypeId} {v : Value} {xs : List Value} (h : W.ownsRow b e sz v n xs) (k : B ≤ b) : W.ownsRow B e sz v n xs := by
  refine ⟨h.1, ?_⟩
  rcases h.2 with hh | ⟨g, cap, cur, rfl, hb, rest⟩
  · exact .inl hh
  · exact .inr ⟨g, cap, cur, rfl, Nat.le_trans k hb, rest⟩

theorem grown_below {W w1 : World} (h : W.grownBy w1 none) : Below W.heap.size W w1 := ⟨h.os, h.tape, h.output, h.size, fun k hk => h.block k hk (by simp)⟩

theorem bcell_one (bs : List UInt8) : ∀ u ∈ bs.map bcell, u.oneCell' = true := by
  intro u hu
  obtain ⟨b, _, rfl⟩ := List.mem_map.1 hu
  rfl

/-- What trim leaves. -/
def TrimPost (B : Nat) (f : Fl) (z : Nat) (W W' : World) : Prop := ∃ v', FlAt B W' ⟨f.no, f.p, v', f.bs.take z, min f.safe z⟩ ∧ Ch (fun b => b = f.p) W W' ∧ (∀ b, v'.ownBlock = some b → W.heap.size ≤ b)

theorem trim_fin {B : Nat} {f : Fl} {z : Nat} {W w1 : World} (F : FlAt B W f) (hz : z ≤ f.bs.length) (hB : B ≤ W.heap.size) (k : Below W.heap.size W w1) {v' : Value} (hr : w1.ownsRow W.heap.size 5 1 v' z ((f.bs.take z).map bcell)) :
    ∀ u : Int, u = (min f.safe z : Nat) → TrimPost B f z W ((w1.setCell ⟨f.p, 0, none⟩ v').setCell ⟨f.p, 1, none⟩ (.int .i64 u)) := by
  rintro u rfl
  have lz : (f.bs.take z).length = z := by rw [List.length_take]; omega
  have c : Ch (fun b => b = f.p) w1 ((w1.setCell ⟨f.p, 0, none⟩ v').setCell ⟨f.p, 1, none⟩ (.int .i64 ((min f.safe z : Nat) : Int))) := (Ch.cell w1 f.p 0 _).trans (Ch.cell _ f.p 1 _)
  have hd := ((F.hd.below k).put 0 v').put 1 (.int .i64 ((min f.safe z : Nat) : Int))
  refine ⟨v', ⟨hd, ?_, F.lo, F.no1, F.no2, ?_, ?_⟩, (Ch.below k).trans c, fun b hb => (row_block hr hb).1⟩
  · show World.ownsRow _ B 5 1 v' (f.bs.take z).length ((f.bs.take z).map bcell)
    rw [lz]
    refine c.row (own_base hr hB) (fun b hb e => ?_)
    have := (row_block hr hb).1
    have := F.hd.lt
    omega
  · show min f.safe z ≤ (f.bs.take z).length
    omega
  · show (f.bs.take z).length ≤ 1048576
    have := F.len
    omega

set_option maxRecDepth 100000 in
set_option maxHeartbeats 1000000 in
theorem trim_c {B : Nat} (f : Fl) (z : Nat) (hz : z ≤ f.bs.length) {W : World} (F : FlAt B W f) (hB : B ≤ W.heap.size) :
    Calls Try.prog 35 #[.pointer (some ⟨f.p, 0, none⟩), .int .i64 (z : Int)] W fun e W' => e = .returned (.tuple #[]) ∧ TrimPost B f z W W' := by
  have FIN : Hid (∀ (w1 : World), Below W.heap.size W w1 → ∀ v', w1.ownsRow W.heap.size 5 1 v' z ((f.bs.take z).map bcell) → ∀ u : Int, u = (min f.safe z : Nat) → TrimPost B f z W ((w1.setCell ⟨f.p, 0, none⟩ v').setCell ⟨f.p, 1, none⟩ (.int .i64 u))) := fun w1 k v' hr => trim_fin F hz hB k hr
  have CELLS : Hid (∀ w1 : World, Below W.heap.size W w1 → w1.cell? ⟨f.p, 0, none⟩ = some f.v ∧ w1.cell? ⟨f.p, 1, none⟩ = some (.int .i64 (f.safe : Int)) ∧ w1.frozen? ⟨f.p, 0, none⟩ = false ∧ w1.frozen? ⟨f.p, 1, none⟩ = false ∧ f.p < w1.heap.size) := fun w1 k => ⟨(F.hd.below k).cell 0, (F.hd.below k).cell 1, (F.hd.below k).frozen 0, (F.hd.below k).frozen 1, (F.hd.below k).lt⟩
  have ROW := hide F.row
  have hlen := F.len
  have hsf := F.safe
  have c0 : W.cell? ⟨f.p, 0, none⟩ = some f.v := F.hd.cell 0
  have c1 : W.cell? ⟨f.p, 1, none⟩ = some (.int .i64 (f.safe : Int)) := F.hd.cell 1
  have f0 := F.hd.frozen 0
  have f1 := F.hd.frozen 1
  have hl := F.hd.lt
  obtain ⟨i0, hi, hz0, hz1, hz2⟩ := info_parts infoU8
  obtain ⟨no, p, v, bs, sf⟩ := f
  simp only at FIN CELLS ROW hlen hsf c0 c1 f0 f1 hl hz
  rcases F.row.2 with ⟨e, q⟩ | ⟨g, cap, cur, e, hb, hg, h1, h2, h3, h4⟩
  · simp only at e q
    subst e
    have hbs : bs = [] := List.eq_nil_of_length_eq_zero q
    subst hbs
    obtain rfl : z = 0 := by simpa using hz
    obtain rfl : sf = 0 := by simpa using hsf
    clear F q hz hsf hlen
    show Calls Try.prog 35 #[.pointer (some ⟨p, 0, none⟩), .int .i64 0] W _
    have fin := hide (FIN.out W (Below.refl _ _) _ (World.ownsRow_nil W _ _ _) 0 rfl)
    clear FIN ROW CELLS
    go_enter Try.func35, Try.ntmps35
    go_wp2_with (first | (at_builtin; refine wpList_append_own_none rfl _ _ 56 rfl 0 5 i0 1 Try.underlying56 hi _ 0 [] rfl (World.ownsRow_nil _ _ _ _) rfl ?_))
    go_wp2_with fail
    all_goals
      go_end0
      exact ⟨rfl, fin.out⟩
  · simp only at e hb hg h1 h2 h3 h4
    subst e
    have hzc : z ≤ cap := by omega
    have hzi' : (z : Int) ≤ (cap : Int) := by omega
    have hnews : ∀ (j : Nat) (u : Value), ((bs.take z).map bcell)[j]? = some u → W.cell? ((⟨g, 0, none⟩ : Addr).add j) = some u := by
      intro j u hj
      refine ROW.out.cells (g := g) rfl j u ?_
      rw [List.map_take, List.getElem?_take] at hj
      split at hj
      · exact hj
      · cases hj
    have hl2 : ((bs.take z).map bcell).length = z * 1 := by rw [List.length_map, List.length_take]; omega
    have hm1 : 0 + z ≤ maxLen := by unfold maxLen; omega
    have hm2 : (0 + z) * 1 ≤ 140737488355328 := by omega
    clear F hb hg h1 h2 h3 h4 hz
    go_enter Try.func35, Try.ntmps35
    go_wp2_with (first | (at_builtin; refine wpList_append_own _ rfl _ _ 56 rfl W.heap.size 5 i0 (.int .u8 0) 1 1 Try.underlying56 hi hz0 hz1 hz2 rfl (by decide) _ 0 [] rfl (World.ownsRow_nil _ _ _ _) ⟨g, 0, none⟩ z cap ((bs.take z).map bcell) rfl hl2 hnews (bcell_one _) hm1 hm2 (Nat.le_refl _) ?_))
    intro v1 w1 O1 hgr hnn
    clear hnn
    have B1 := grown_below hgr
    have fin := hide (FIN.out w1 B1 v1 (by simpa using O1))
    obtain ⟨d0, d1, g0, g1, hl1⟩ := CELLS.out w1 B1
    have O2 := O1.2
    obtain ⟨zi, hzi⟩ : ∃ zi : Int, (z : Int) = zi := ⟨_, rfl⟩
    obtain ⟨si, hsi⟩ : ∃ si : Int, (sf : Int) = si := ⟨_, rfl⟩
    rw [hzi]
    rw [hsi] at d1
    have HZ := hide hzi
    have HS := hide hsi
    clear hgr B1 FIN CELLS ROW O1 c0 c1 f0 f1 hl hnews hl2 hi hm1 hm2 hzc hzi' hlen hsf hzi hsi
    rcases O2 with ⟨rfl, -⟩ | ⟨g', cap', cur', rfl, -, -, -, -, -, -⟩
    all_goals
      go_wp2_with fail
      all_goals
        go_end0
        exact ⟨rfl, fin.out _ (by have h1 := HZ.out; have h2 := HS.out; omega)⟩

end Go.Proofs.Ytoppmpodiofhhaa
