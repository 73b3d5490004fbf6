/-
  Rows of a call's own, in regions that draw: an append as one step.
-/
import Derived.Test.YtgbpnekinbdadaaDoorKn
import Derived.Test.YtgbpnekinbdadaaDoorHd
import Derived.Deep.DeepCutAuto
import Derived.Deep.RegionLawGrows
namespace Go.Proofs.YtgbpnekinbdadaaDoor
open Go.ChangeShapes Go.WideShapes Go.ChangeAt Go.RowKit
set_option linter.unusedVariables false
set_option linter.unusedSimpArgs false

/-- append to a row of the call's own, as one step of a region that draws. -/
theorem step_own7 {P : Program} {ops : Array Oper} {o : Oper} {a : Act} {w : World} {K : Act → World → Prop} {Q : Exit → Act → World → Prop} {E : Prop}
    (hg : o.guard = none) (s x : Operand) (t : TypeId) (hop : o.op = Op.call { callee := Callee.builtin Builtin.append, args := #[s, x], argTypes := #[t, t] })
    (base : Nat) (e : TypeId) (i : TypeInfo) (z : Value) (size bytes : Nat) (h1 : P.underlying t = some (.slice e)) (h2 : P.info? e = some i) (h3 : i.zero = some z) (h4 : i.size = size) (h5 : i.bytes = bytes) (h6 : z.cells.size = size) (h7 : 0 < size)
    (v : Value) (n : Nat) (xs : List Value) (hs : a.eval s = v) (hown : w.ownsRow base e size v n xs)
    (ad : Addr) (m c : Nat) (news : List Value) (hx : a.eval x = .slice (some ad) m c) (hn : news.length = m * size) (hc : ∀ j u, news[j]? = some u → w.cell? (ad.add j) = some u) (h1c : ∀ u ∈ news, u.oneCell' = true)
    (b1 : n + m ≤ maxLen) (b2 : (n + m) * bytes ≤ 140737488355328) (hbase : base ≤ w.heap.size)
    (hK : ∀ v' w', w'.ownsRow base e size v' (n + m) (xs ++ news) → w.grownBy w' v.ownBlock → K (a.put o.dst v') w') :
    if Region.wanted o (yielded ops a.tmps) = true then Oper.wp P o a w K Q else E := by
  have hw : Region.wanted o (yielded ops a.tmps) = true := by simp [Region.wanted, hg]
  rw [if_pos hw]
  obtain ⟨v', w', hrun, r1, r2, _⟩ := run_append_own (P := P) w base t o.type e i z size bytes h1 h2 h3 h4 h5 h6 h7 v n xs hown ad m c news hn hc h1c b1 b2 hbase
  unfold Oper.wp
  simp [execOp, hop, resolve, invoke, builtin, hs, hx, hrun, Result.andThen]
  exact hK v' w' r1 r2

theorem own_ne7 {W : World} {base size q r : Nat} {e t : TypeId} {sv : Value} {xs : List Value} {cs : Array Value} (h : W.ownsRow base e size sv q xs) (hb : Blk W r cs t) (hne : e ≠ t) : sv.ownBlock ≠ some r := by
  rcases h.2 with ⟨h1, _⟩ | ⟨g', cap, cur, h1, _, h3, _⟩
  · rw [h1]
    intro c
    cases c
  · rw [h1]
    intro c
    have : g' = r := by injection c
    subst this
    unfold Blk at hb
    rw [h3] at hb
    injection hb with hb
    injection hb with _ hb
    exact hne hb

theorem own_grown7 {W W' : World} {base size q r : Nat} {e t : TypeId} {cs : Array Value} {xs : List Value} {sv : Value} {o : Obj} (hb : Blk W r cs t) (ho : W.ownsRow base e size sv q xs) (ht : e ≠ t) (hg : (W.alloc o).grownBy W' sv.ownBlock) : Blk W' r cs t := by
  have := hb.alloc o
  unfold Blk at this ⊢
  rw [hg.block r (by have := hb.lt; simp; omega) (fun c => own_ne7 ho hb ht c.symm)]
  exact this

theorem own_store7 {W : World} {base size q r : Nat} {e : TypeId} {xs : List Value} {sv : Value} (h : W.ownsRow base e size sv q xs) (hne : sv.ownBlock ≠ some r) (i : Nat) (u : Value) : (W.setCell ⟨r, i, none⟩ u).ownsRow base e size sv q xs :=
  ownsRow_setCell_other h (a := ⟨r, i, none⟩) (by simpa using hne) u
end Go.Proofs.YtgbpnekinbdadaaDoor
