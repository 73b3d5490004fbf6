/-
  What appendBetween and Spread of package carve return, for every prefix and every two addresses.
-/
import Derived.Test.YtmhnfgfdggjdhaaGreatDoorCarveM
import Derived.Maps.AppendAt
import Derived.Deep.DeepCutAuto
namespace Go.Proofs.YtmhnfgfdggjdhaaGreatDoor
open Go.ChangeShapes Go.WideShapes Go.ChangeAt Go.RowKit
set_option linter.unusedVariables false
set_option linter.unusedSimpArgs false

/-- A prefix of a spread as its cells: W bits wide, p.2 of them behind. -/
def cellsP (v : Bool) (W : Nat) (p : Nat × Nat) : List Value := [.bool v, .int .u64 ((p.1 / 18446744073709551616 : Nat) : Int), .int .u64 ((p.1 % 18446744073709551616 : Nat) : Int), .int .i64 ((W - p.2 : Nat) : Int)]

def cellsL (v : Bool) (W : Nat) : List (Nat × Nat) → List Value
  | [] => []
  | p :: r => cellsP v W p ++ cellsL v W r

theorem cellsL_append (v : Bool) (W : Nat) : ∀ (l r : List (Nat × Nat)), cellsL v W (l ++ r) = cellsL v W l ++ cellsL v W r
  | [], r => rfl
  | p :: l, r => by
    show cellsP v W p ++ cellsL v W (l ++ r) = cellsP v W p ++ cellsL v W l ++ cellsL v W r
    rw [cellsL_append v W l r, List.append_assoc]

theorem infoPfx : (Tryz.prog.info? 28).map (fun i => (i.zero, i.size, i.bytes)) = some (some (.agg #[.bool false, .int .u64 0, .int .u64 0, .int .i64 0]), 4, 32) := by kernel_rfl

theorem P4.alloc {B : Nat} {v : Bool} {h l b : Int} {wx : World} (s : P4 B v h l b wx) (o : Obj) : P4 B v h l b (wx.alloc o) := P4.of (s.2.alloc o)

theorem Blk.newAt {W : World} {X : Nat} {cs : Array Value} {t : TypeId} (e : X = W.heap.size) : Blk (W.alloc (.cells cs t)) X cs t := e ▸ Blk.new W cs t

/-- What appendBetween is handed. -/
def K3 (w : World) (v : Bool) (h l b ah al zh zl : Int) (W : World) : Prop :=
  Blk W w.heap.size #[.bool v, .int .u64 h, .int .u64 l, .int .i64 b] 28 ∧ Blk W (w.heap.size + 1) #[.bool v, .int .u64 ah, .int .u64 al] 26 ∧ Blk W (w.heap.size + 2) #[.bool v, .int .u64 zh, .int .u64 zl] 26 ∧ Below w.heap.size w W

theorem K3.start (w : World) (v : Bool) (h l b ah al zh zl : Int) : K3 w v h l b ah al zh zl (((w.alloc (.cells #[.bool v, .int .u64 h, .int .u64 l, .int .i64 b] 28)).alloc (.cells #[.bool v, .int .u64 ah, .int .u64 al] 26)).alloc (.cells #[.bool v, .int .u64 zh, .int .u64 zl] 26)) :=
  ⟨((Blk.new _ _ _).alloc _).alloc _, (Blk.newAt (by simp)).alloc _, Blk.newAt (by simp), by repeat (first | with_reducible exact Below.refl _ _ | with_reducible refine Below.drew ?_ | with_reducible refine Below.alloc ?_ (by first | omega | (simp <;> omega)) _ | with_reducible refine Below.setCell ?_ (by first | omega | (simp <;> omega)) _)⟩

theorem K3.below {w W w1 : World} {v : Bool} {h l b ah al zh zl : Int} (s : K3 w v h l b ah al zh zl W) (hb : Below W.heap.size W w1) : K3 w v h l b ah al zh zl w1 := ⟨s.1.below hb, s.2.1.below hb, s.2.2.1.below hb, s.2.2.2.trans (hb.mono s.2.2.2.size)⟩

theorem K3.alloc {w W : World} {v : Bool} {h l b ah al zh zl : Int} (s : K3 w v h l b ah al zh zl W) (o : Obj) : K3 w v h l b ah al zh zl (W.alloc o) := ⟨s.1.alloc o, s.2.1.alloc o, s.2.2.1.alloc o, s.2.2.2.alloc (Nat.le_of_lt s.1.lt) o⟩

theorem K3.drew {w W : World} {v : Bool} {h l b ah al zh zl : Int} (s : K3 w v h l b ah al zh zl W) : K3 w v h l b ah al zh zl W.drew := ⟨s.1, s.2.1, s.2.2.1, s.2.2.2.drew⟩

/-- And its two ends beside. -/
def BT (w : World) (X Y : Nat) (v : Bool) (h l b ah al zh zl eh el : Int) (W : World) : Prop :=
  (W.cell? ⟨w.heap.size, 0, none⟩ = some (.bool v) ∧ W.cell? ⟨w.heap.size, 1, none⟩ = some (.int .u64 h) ∧ W.cell? ⟨w.heap.size, 2, none⟩ = some (.int .u64 l) ∧ W.cell? ⟨w.heap.size, 3, none⟩ = some (.int .i64 b) ∧ W.cell? ⟨w.heap.size + 1, 0, none⟩ = some (.bool v) ∧ W.cell? ⟨w.heap.size + 1, 1, none⟩ = some (.int .u64 ah) ∧ W.cell? ⟨w.heap.size + 1, 2, none⟩ = some (.int .u64 al) ∧ W.cell? ⟨w.heap.size + 1 + 1, 0, none⟩ = some (.bool v) ∧ W.cell? ⟨w.heap.size + 1 + 1, 1, none⟩ = some (.int .u64 zh) ∧ W.cell? ⟨w.heap.size + 1 + 1, 2, none⟩ = some (.int .u64 zl) ∧ W.cell? ⟨X, 0, none⟩ = some (.bool v) ∧ W.cell? ⟨X, 1, none⟩ = some (.int .u64 h) ∧ W.cell? ⟨X, 2, none⟩ = some (.int .u64 l) ∧ W.cell? ⟨Y, 0, none⟩ = some (.bool v) ∧ W.cell? ⟨Y, 1, none⟩ = some (.int .u64 eh) ∧ W.cell? ⟨Y, 2, none⟩ = some (.int .u64 el)) ∧ K3 w v h l b ah al zh zl W ∧ Blk W X #[.bool v, .int .u64 h, .int .u64 l] 26 ∧ Blk W Y #[.bool v, .int .u64 eh, .int .u64 el] 26

theorem BT.of {w : World} {X Y : Nat} {v : Bool} {h l b ah al zh zl eh el : Int} {W : World} (k : K3 w v h l b ah al zh zl W) (x : Blk W X #[.bool v, .int .u64 h, .int .u64 l] 26) (y : Blk W Y #[.bool v, .int .u64 eh, .int .u64 el] 26) : BT w X Y v h l b ah al zh zl eh el W :=
  ⟨⟨k.1.cell 0, k.1.cell 1, k.1.cell 2, k.1.cell 3, k.2.1.cell 0, k.2.1.cell 1, k.2.1.cell 2, k.2.2.1.cell 0, k.2.2.1.cell 1, k.2.2.1.cell 2, x.cell 0, x.cell 1, x.cell 2, y.cell 0, y.cell 1, y.cell 2⟩, k, x, y⟩

theorem BT.below {w : World} {X Y : Nat} {v : Bool} {h l b ah al zh zl eh el : Int} {W w1 : World} (s : BT w X Y v h l b ah al zh zl eh el W) (hb : Below W.heap.size W w1) : BT w X Y v h l b ah al zh zl eh el w1 := BT.of (s.2.1.below hb) (s.2.2.1.below hb) (s.2.2.2.below hb)

theorem BT.alloc {w : World} {X Y : Nat} {v : Bool} {h l b ah al zh zl eh el : Int} {W : World} (s : BT w X Y v h l b ah al zh zl eh el W) (o : Obj) : BT w X Y v h l b ah al zh zl eh el (W.alloc o) := BT.of (s.2.1.alloc o) (s.2.2.1.alloc o) (s.2.2.2.alloc o)

theorem K3.far3 {w W : World} {v : Bool} {h l b ah al zh zl : Int} {X : Nat} (k : K3 w v h l b ah al zh zl W) (hx : w.heap.size + 2 < X) (p q r : Value) : K3 w v h l b ah al zh zl (((W.setCell ⟨X, 0, none⟩ p).setCell ⟨X, 1, none⟩ q).setCell ⟨X, 2, none⟩ r) :=
  ⟨k.1.far3 (by omega) _ _ _, k.2.1.far3 (by omega) _ _ _, k.2.2.1.far3 (by omega) _ _ _, ((k.2.2.2.setCell (by show w.heap.size ≤ X; omega) _).setCell (by show w.heap.size ≤ X; omega) _).setCell (by show w.heap.size ≤ X; omega) _⟩

theorem Blk.newB (W : World) (o : Obj) (cs : Array Value) (t : TypeId) : Blk ((W.alloc o).alloc (.cells cs t)) (W.heap.size + 1) cs t := Blk.newAt (by simp)

theorem Blk.news3 (W : World) (p q r : Addr) (x y z : Value) (cs : Array Value) (t : TypeId) : Blk ((((W.setCell p x).setCell q y).setCell r z).alloc (.cells cs t)) W.heap.size cs t := Blk.newAt (by simp [World.setCell])

/-- What is held while the ends are asked for. -/
def BS (w : World) (v : Bool) (h l b ah al zh zl : Int) (W : World) : Prop :=
  (W.cell? ⟨w.heap.size, 0, none⟩ = some (.bool v) ∧ W.cell? ⟨w.heap.size, 1, none⟩ = some (.int .u64 h) ∧ W.cell? ⟨w.heap.size, 2, none⟩ = some (.int .u64 l) ∧ W.cell? ⟨w.heap.size, 3, none⟩ = some (.int .i64 b)) ∧ K3 w v h l b ah al zh zl W

theorem BS.of {w W : World} {v : Bool} {h l b ah al zh zl : Int} (k : K3 w v h l b ah al zh zl W) : BS w v h l b ah al zh zl W := ⟨⟨k.1.cell 0, k.1.cell 1, k.1.cell 2, k.1.cell 3⟩, k⟩

theorem BS.drew {w W : World} {v : Bool} {h l b ah al zh zl : Int} (s : BS w v h l b ah al zh zl W) : BS w v h l b ah al zh zl W.drew := BS.of s.2.drew

theorem BS.below {w W w1 : World} {v : Bool} {h l b ah al zh zl : Int} (s : BS w v h l b ah al zh zl W) (hb : Below W.heap.size W w1) : BS w v h l b ah al zh zl w1 := BS.of (s.2.below hb)

theorem BS.alloc {w W : World} {v : Bool} {h l b ah al zh zl : Int} (s : BS w v h l b ah al zh zl W) (o : Obj) : BS w v h l b ah al zh zl (W.alloc o) := BS.of (s.2.alloc o)

theorem BS.far {w W : World} {v : Bool} {h l b ah al zh zl : Int} {X : Nat} (s : BS w v h l b ah al zh zl W) (hx : w.heap.size + 2 < X) (p q r : Value) : BS w v h l b ah al zh zl (((W.setCell ⟨X, 0, none⟩ p).setCell ⟨X, 1, none⟩ q).setCell ⟨X, 2, none⟩ r) := BS.of (s.2.far3 hx _ _ _)

/-- What appendBetween hands back. -/
def SpOut (B : Nat) (v : Bool) (W : Nat) (w : World) (val : Value) (cnt : Nat) (xs : List Value) (l : List (Nat × Nat)) (val' : Value) (w' : World) : Prop :=
  w'.ownsRow B 28 4 val' (cnt + l.length) (xs ++ cellsL v W l) ∧ w.grownBy w' val.ownBlock ∧ (val'.ownBlock = val.ownBlock ∨ ∃ g, val'.ownBlock = some g ∧ w.heap.size ≤ g)

theorem grown_after {w W w' : World} {row : Option Nat} (hb : Below w.heap.size w W) (hg : W.grownBy w' row) : w.grownBy w' row :=
  ⟨hg.os.trans hb.os, hg.tape.trans hb.tape, hg.output.trans hb.output, Nat.le_trans hb.size hg.size, fun k hk hne => (hg.block k (Nat.lt_of_lt_of_le hk hb.size) hne).trans (hb.block k hk)⟩

theorem grown_of_below {w W : World} {row : Option Nat} (hb : Below w.heap.size w W) : w.grownBy W row :=
  ⟨hb.os, hb.tape, hb.output, hb.size, fun k hk _ => hb.block k hk⟩

theorem Blk.grown {W w1 : World} {b : Nat} {cs : Array Value} {t : TypeId} {row : Option Nat} (h : Blk W b cs t) (hg : W.grownBy w1 row) (hne : some b ≠ row) : Blk w1 b cs t := (hg.block b h.lt hne).trans h

/-- The order of two addresses of one family. -/
theorem cmp_one {v : Bool} {xh xl yh yl : Int} {x y : Nat} (hx : IsNum xh xl x) (hy : IsNum yh yl y) (w : World) :
    Calls Tryz.prog 15 #[av v xh xl, av v yh yl] w fun e w' => ∃ m : Int, e = .returned (.int .i64 m) ∧ Hid (m = cmpI (x : Int) (y : Int)) ∧ Below w.heap.size w w' := by
  refine (acmp_c (v := v) (u := v) hx hy w).mono ?_
  rintro e w1 ⟨m, rfl, hm, hb⟩
  exact ⟨m, rfl, by show _ = _; rw [hm]; unfold cmpA; rw [if_pos rfl], hb⟩

theorem cmpI_neg {x y : Int} : cmpI x y < 0 ↔ x < y := by
  unfold cmpI
  split
  · constructor <;> omega
  · split <;> constructor <;> omega

theorem own_kept {w w' : World} {B e size n : Nat} {v : Value} {xs : List Value} (h : w.ownsRow B e size v n xs) (hb : Below w.heap.size w w') : w'.ownsRow B e size v n xs := by
  refine ⟨h.1, ?_⟩
  rcases h.2 with ⟨rfl, h0⟩ | ⟨g, cap, cur, rfl, hg, hh, r⟩
  · exact Or.inl ⟨rfl, h0⟩
  · exact Or.inr ⟨g, cap, cur, rfl, hg, (hb.block g (Array.getElem?_eq_some_iff.1 hh).1).trans hh, r⟩

theorem IsNum.words {h l : Int} {n : Nat} (x : IsNum h l n) : ((n / 18446744073709551616 : Nat) : Int) = h ∧ ((n % 18446744073709551616 : Nat) : Int) = l := by
  have := x.h0; have := x.h1; have := x.l0; have := x.l1; have := x.eq; omega

theorem cells_one {v : Bool} {h l b : Int} {n W : Nat} (hW : widthA v = (W : Nat)) (hp : IsNum h l n) (hk : okP v n b = true) : cellsL v W [(n, behindP v b)] = [.bool v, .int .u64 h, .int .u64 l, .int .i64 b] := by
  obtain ⟨_, h0, h1⟩ := fitsB_parts (okP_parts hk).1
  have e : ((W - behindP v b : Nat) : Int) = b := by unfold behindP; omega
  obtain ⟨e1, e2⟩ := hp.words
  show [Value.bool v, .int .u64 ((n / 18446744073709551616 : Nat) : Int), .int .u64 ((n % 18446744073709551616 : Nat) : Int), .int .i64 ((W - behindP v b : Nat) : Int)] = _
  rw [e, e1, e2]

theorem four_new (W : World) (x y z u : Value) (t : TypeId) : ∀ (j : Nat) (q : Value), [x, y, z, u][j]? = some q → (W.alloc (.cells #[x, y, z, u] t)).cell? ((⟨W.heap.size, 0, none⟩ : Addr).add j) = some q := by
  intro j q hj
  match j, hj with
  | 0, hj => simp at hj; subst hj; simp [Addr.add]
  | 1, hj => simp at hj; subst hj; simp [Addr.add]
  | 2, hj => simp at hj; subst hj; simp [Addr.add]
  | 3, hj => simp at hj; subst hj; simp [Addr.add]
  | j + 4, hj => simp at hj

theorem SpOut.trans {B : Nat} {v : Bool} {W : Nat} {w w1 w2 w3 : World} {val val1 val2 : Value} {cnt : Nat} {xs : List Value} {l r : List (Nat × Nat)} (hb : Below w.heap.size w w1) (x : SpOut B v W w1 val cnt xs l val1 w2) (y : SpOut B v W w2 val1 (cnt + l.length) (xs ++ cellsL v W l) r val2 w3) : SpOut B v W w val cnt xs (l ++ r) val2 w3 := by
  obtain ⟨x1, x2, x3⟩ := x
  obtain ⟨y1, y2, y3⟩ := y
  have g1 := grown_after hb x2
  refine ⟨?_, ⟨y2.os.trans g1.os, y2.tape.trans g1.tape, y2.output.trans g1.output, Nat.le_trans g1.size y2.size, fun k hk hne => (y2.block k (Nat.lt_of_lt_of_le hk g1.size) ?_).trans (g1.block k hk hne)⟩, ?_⟩
  · rw [cellsL_append, List.length_append, ← Nat.add_assoc, ← List.append_assoc]; exact y1
  · rcases x3 with q | ⟨g, q, hg⟩
    · rw [q]; exact hne
    · rw [q]
      intro e
      have := hb.size
      injection e with e
      omega
  · have s1 := hb.size
    have s2 := g1.size
    rcases y3 with q | ⟨g, q, hg⟩
    · rcases x3 with p | ⟨g, p, hg⟩
      · exact Or.inl (q.trans p)
      · exact Or.inr ⟨g, q.trans p, by omega⟩
    · exact Or.inr ⟨g, q, by omega⟩

/-- What the second call of itself reads. -/
def U3 (w : World) (Y : Nat) (v : Bool) (rh rl b ah al zh zl : Int) (W : World) : Prop :=
  (W.cell? ⟨w.heap.size + 1, 0, none⟩ = some (.bool v) ∧ W.cell? ⟨w.heap.size + 1, 1, none⟩ = some (.int .u64 ah) ∧ W.cell? ⟨w.heap.size + 1, 2, none⟩ = some (.int .u64 al) ∧ W.cell? ⟨w.heap.size + 1 + 1, 0, none⟩ = some (.bool v) ∧ W.cell? ⟨w.heap.size + 1 + 1, 1, none⟩ = some (.int .u64 zh) ∧ W.cell? ⟨w.heap.size + 1 + 1, 2, none⟩ = some (.int .u64 zl) ∧ W.cell? ⟨Y, 0, none⟩ = some (.bool v) ∧ W.cell? ⟨Y, 1, none⟩ = some (.int .u64 rh) ∧ W.cell? ⟨Y, 2, none⟩ = some (.int .u64 rl) ∧ W.cell? ⟨Y, 3, none⟩ = some (.int .i64 b))

theorem SpOut.none {B : Nat} {v : Bool} {W : Nat} {w w' : World} {val : Value} {cnt : Nat} {xs : List Value} (hown : w.ownsRow B 28 4 val cnt xs) (hb : Below w.heap.size w w') : SpOut B v W w val cnt xs [] val w' :=
  ⟨by simpa [cellsL] using own_kept hown hb, grown_of_below hb, Or.inl rfl⟩

set_option maxRecDepth 100000 in
set_option maxHeartbeats 6400000 in
theorem between_step {v : Bool} {h l b ah al zh zl : Int} {n a z W : Nat} (hW : widthA v = (W : Nat)) (hp : IsNum h l n) (ha : IsNum ah al a) (hz : IsNum zh zl z) (hk : okP v n b = true) (B : Nat) (val : Value) (cnt : Nat) (xs : List Value) (w : World) (hown : w.ownsRow B 28 4 val cnt xs) (hB : B ≤ w.heap.size) {L : List (Nat × Nat)}
    (hcase : Hid ((L = [] ∧ (lastN v n b < a ∨ (a ≤ lastN v n b ∧ z < n))) ∨ (L = [(n, behindP v b)] ∧ cnt < 1000000 ∧ a ≤ n ∧ lastN v n b ≤ z) ∨ ∃ (rh rl : Int) (L1 L2 : List (Nat × Nat)), L = L1 ++ L2 ∧ b < widthA v ∧ IsNum rh rl (n + 2 ^ (behindP v b - 1)) ∧ ¬ (lastN v n b < a ∨ z < n) ∧ ¬ (a ≤ n ∧ lastN v n b ≤ z) ∧
    (∀ w1 : World, w1.ownsRow B 28 4 val cnt xs → B ≤ w1.heap.size → Calls Tryz.prog 85 #[val, pv v h l (b + 1), av v ah al, av v zh zl] w1 fun e w2 => ∃ val', e = .returned val' ∧ SpOut B v W w1 val cnt xs L1 val' w2) ∧
    (∀ (val1 : Value) (w1 : World), w1.ownsRow B 28 4 val1 (cnt + L1.length) (xs ++ cellsL v W L1) → B ≤ w1.heap.size → Calls Tryz.prog 85 #[val1, pv v rh rl (b + 1), av v ah al, av v zh zl] w1 fun e w2 => ∃ val', e = .returned val' ∧ SpOut B v W w1 val1 (cnt + L1.length) (xs ++ cellsL v W L1) L2 val' w2))) :
    Calls Tryz.prog 85 #[val, pv v h l b, av v ah al, av v zh zl] w fun e w' => ∃ val', e = .returned val' ∧ SpOut B v W w val cnt xs L val' w' := by
  obtain ⟨i0, hi, hz0, hz1, hz2⟩ := info_parts infoPfx
  have HX : Hid (cellsL v W [(n, behindP v b)] = [.bool v, .int .u64 h, .int .u64 l, .int .i64 b]) := cells_one hW hp hk
  obtain ⟨l1, l2⟩ := lastN_small hk hp.lt
  obtain ⟨eh, el, he⟩ := IsNum.ex l1
  have CF : Hid (∀ w', Calls Tryz.prog 16 #[pv v h l b] w' fun e w1 => e = .returned (av v h l) ∧ Below w'.heap.size w' w1) := fun w' => first_c hp (Or.inl ⟨hk, rfl, rfl, rfl⟩) w'
  have CL : Hid (∀ w', Calls Tryz.prog 17 #[pv v h l b] w' fun e w1 => e = .returned (av v eh el) ∧ Below w'.heap.size w' w1) := fun w' => last_ok hp hk he w'
  have C1 : Hid (∀ w', Calls Tryz.prog 15 #[av v eh el, av v ah al] w' fun e w1 => ∃ m : Int, e = .returned (.int .i64 m) ∧ Hid (m = cmpI (lastN v n b : Nat) (a : Nat)) ∧ Below w'.heap.size w' w1) := fun w' => cmp_one he ha w'
  have C2 : Hid (∀ w', Calls Tryz.prog 15 #[av v zh zl, av v h l] w' fun e w1 => ∃ m : Int, e = .returned (.int .i64 m) ∧ Hid (m = cmpI (z : Nat) (n : Nat)) ∧ Below w'.heap.size w' w1) := fun w' => cmp_one hz hp w'
  have C3 : Hid (∀ w', Calls Tryz.prog 15 #[av v ah al, av v h l] w' fun e w1 => ∃ m : Int, e = .returned (.int .i64 m) ∧ Hid (m = cmpI (a : Nat) (n : Nat)) ∧ Below w'.heap.size w' w1) := fun w' => cmp_one ha hp w'
  have C4 : Hid (∀ w', Calls Tryz.prog 15 #[av v eh el, av v zh zl] w' fun e w1 => ∃ m : Int, e = .returned (.int .i64 m) ∧ Hid (m = cmpI (lastN v n b : Nat) (z : Nat)) ∧ Below w'.heap.size w' w1) := fun w' => cmp_one he hz w'
  have HP : Hid (IsNum h l n ∧ okP v n b = true) := ⟨hp, hk⟩
  have HO : Hid (w.ownsRow B 28 4 val cnt xs) := hown
  have R0 := BS.of (K3.start w v h l b ah al zh zl)
  obtain ⟨w0, hw0⟩ : ∃ w0, w0 = ((w.alloc (.cells #[.bool v, .int .u64 h, .int .u64 l, .int .i64 b] 28)).alloc (.cells #[.bool v, .int .u64 ah, .int .u64 al] 26)).alloc (.cells #[.bool v, .int .u64 zh, .int .u64 zl] 26) := ⟨_, rfl⟩
  rw [← hw0] at R0
  have hs0 := R0.2.2.2.1.lt
  clear hp ha hz he hk l1 l2 hW hown
  go_enter Tryz.func85, Tryz.ntmps85
  go_upto_region 1 with fail
  rw [← hw0]
  clear hw0
  go_cut [9, 10] (fun p q wc => ∃ X Y : Nat, p = .pointer (some ⟨X, 0, none⟩) ∧ q = .pointer (some ⟨Y, 0, none⟩) ∧ Blk wc X #[.bool v, .int .u64 h, .int .u64 l] 26 ∧ Blk wc Y #[.bool v, .int .u64 eh, .int .u64 el] 26 ∧ BS w v h l b ah al zh zl wc)
  case first =>
    refine wp_region_held_drew (S := (BS w v h l b ah al zh zl)) (by kernel_rfl) ?hS5001 (fun hHeld => ?rest5001)
    case hS5001 => (first | with_reducible exact R0.drew | with_reducible exact (R0.alloc _).drew | with_reducible exact ((R0.alloc _).alloc _).drew | with_reducible exact hHeld.below hb4 | with_reducible exact hHeld.below hb5 | with_reducible exact hHeld.alloc _ | with_reducible exact hHeld.far (by omega) _ _ _ | with_reducible exact K5.alloc _ | with_reducible exact (K5.alloc _).alloc _ | with_reducible exact (K5.alloc _).far (by omega) _ _ _ | with_reducible exact (K5.far (by omega) _ _ _).alloc _ | with_reducible exact ((K5.alloc _).alloc _).far (by omega) _ _ _)
    refine wpAnyH_take (i := 0) (oi := _) (v := ?v5002) (List.getElem?_toArray.trans rfl) (by kernel_rfl) (by kernel_rfl) (by kernel_rfl) (fun _ _ _ h => h) (Or.inl ⟨by rfl, ?hy5002⟩) (by assumption) ?rest5002
    case hy5002 => (intro wq hSw; (try simp only [Two, BS] at hSw); go_simp; try with_reducible rfl)
    try simp only [Act.put, List.setIfInBounds_toArray, List.set_cons_zero, List.set_cons_succ]
    refine wpAnyH_take (i := 2) (oi := _) (v := ?v5003) (List.getElem?_toArray.trans rfl) (by kernel_rfl) (by kernel_rfl) (by kernel_rfl) (fun _ _ _ h => h) (Or.inl ⟨by rfl, ?hy5003⟩) (by assumption) ?rest5003
    case hy5003 => (intro wq hSw; (try simp only [Two, BS] at hSw); go_simp; try with_reducible rfl)
    try simp only [Act.put, List.setIfInBounds_toArray, List.set_cons_zero, List.set_cons_succ]
    refine wpAnyH_ready (rs := [1, 4, 5]) (by kernel_rfl) (by simp) ?rdy5004
    refine (AllReadyH.cons (List.getElem?_toArray.trans rfl) (fun K hK => ?stp5004_1) (AllReadyH.cons (List.getElem?_toArray.trans rfl) (fun K hK => ?stp5004_4) (AllReadyH.cons (List.getElem?_toArray.trans rfl) (fun K hK => ?stp5004_5) AllReadyH.nil)))
    case stp5004_1 =>
      go_simp
      go_wp2_with fail
      (refine (CF.out _).mono ?_; rintro e w4 ⟨rfl, hb4⟩; have s4 : w0.heap.size ≤ w4.heap.size := (by have := hb4.size; first | exact this | (simp at this; omega)); first | (have U4 : Blk w4 w0.heap.size #[.bool false, .int .u64 0, .int .u64 0] 26 := Blk.via hb4 ((Blk.new w0 #[.bool false, .int .u64 0, .int .u64 0] 26).alloc (.cells #[.bool false, .int .u64 0, .int .u64 0] 26)) rfl; have V4 : Blk w4 (w0.heap.size + 1) #[.bool false, .int .u64 0, .int .u64 0] 26 := Blk.via hb4 (Blk.newB w0 (.cells #[.bool false, .int .u64 0, .int .u64 0] 26) #[.bool false, .int .u64 0, .int .u64 0] 26) rfl; obtain ⟨u0, u1, u2, u3, u4, u5, u6⟩ := U4.three; obtain ⟨y0, y1, y2, y3, y4, y5, y6⟩ := V4.three) | (have U4 : Blk w4 w0.heap.size #[.bool false, .int .u64 0, .int .u64 0] 26 := Blk.via hb4 (Blk.new w0 #[.bool false, .int .u64 0, .int .u64 0] 26) rfl; obtain ⟨u0, u1, u2, u3, u4, u5, u6⟩ := U4.three) | skip)
      go_wp2_with fail
      refine hK.out _ _ ?hSn5005 (fun hHeld2 => ?rest5005)
      case hSn5005 => (first | with_reducible exact R0.drew | with_reducible exact (R0.alloc _).drew | with_reducible exact ((R0.alloc _).alloc _).drew | with_reducible exact hHeld.below hb4 | with_reducible exact hHeld.below hb5 | with_reducible exact hHeld.alloc _ | with_reducible exact hHeld.far (by omega) _ _ _ | with_reducible exact K5.alloc _ | with_reducible exact (K5.alloc _).alloc _ | with_reducible exact (K5.alloc _).far (by omega) _ _ _ | with_reducible exact (K5.far (by omega) _ _ _).alloc _ | with_reducible exact ((K5.alloc _).alloc _).far (by omega) _ _ _)
      clear hK K hHeld
      have hHeld := hHeld2
      clear hHeld2
      try simp only [Act.put, List.setIfInBounds_toArray, List.set_cons_zero, List.set_cons_succ]
      refine wpAnyH_ready (rs := [3, 4, 5]) (by kernel_rfl) (by simp) ?rdy5006
      refine (AllReadyH.cons (List.getElem?_toArray.trans rfl) (fun K hK => ?stp5006_3) (AllReadyH.cons (List.getElem?_toArray.trans rfl) (fun K hK => ?stp5006_4) (AllReadyH.cons (List.getElem?_toArray.trans rfl) (fun K hK => ?stp5006_5) AllReadyH.nil)))
      case stp5006_3 =>
        go_simp
        go_wp2_with fail
        (refine (CL.out _).mono ?_; rintro e w5 ⟨rfl, hb5⟩; have K5 := hHeld.below hb5; have s5 : w4.heap.size ≤ w5.heap.size := (by have := hb5.size; first | exact this | (simp at this; omega)); (first | (have U5 := U4.below hb5; obtain ⟨a0, a1, a2, a3, a4, a5, a6⟩ := U5.three) | (have U5 := Blk.via hb5 (U4.alloc (.cells #[.bool false, .int .u64 0, .int .u64 0] 26)) rfl; obtain ⟨a0, a1, a2, a3, a4, a5, a6⟩ := U5.three) | (have U5 := Blk.via hb5 ((U4.alloc (.cells #[.bool false, .int .u64 0, .int .u64 0] 26)).alloc (.cells #[.bool false, .int .u64 0, .int .u64 0] 26)) rfl; obtain ⟨a0, a1, a2, a3, a4, a5, a6⟩ := U5.three) | skip); (first | (have V5 := V4.below hb5; obtain ⟨b0, b1, b2, b3, b4, b5, b6⟩ := V5.three) | (have V5 := Blk.via hb5 (V4.alloc (.cells #[.bool false, .int .u64 0, .int .u64 0] 26)) rfl; obtain ⟨b0, b1, b2, b3, b4, b5, b6⟩ := V5.three) | (have V5 := Blk.via hb5 ((V4.alloc (.cells #[.bool false, .int .u64 0, .int .u64 0] 26)).alloc (.cells #[.bool false, .int .u64 0, .int .u64 0] 26)) rfl; obtain ⟨b0, b1, b2, b3, b4, b5, b6⟩ := V5.three) | skip); first | (have X5 : Blk w5 w4.heap.size #[.bool false, .int .u64 0, .int .u64 0] 26 := Blk.via hb5 ((Blk.new w4 #[.bool false, .int .u64 0, .int .u64 0] 26).alloc (.cells #[.bool false, .int .u64 0, .int .u64 0] 26)) rfl; have Y5 : Blk w5 (w4.heap.size + 1) #[.bool false, .int .u64 0, .int .u64 0] 26 := Blk.via hb5 (Blk.newB w4 (.cells #[.bool false, .int .u64 0, .int .u64 0] 26) #[.bool false, .int .u64 0, .int .u64 0] 26) rfl; obtain ⟨p0, p1, p2, p3, p4, p5, p6⟩ := X5.three; obtain ⟨q0, q1, q2, q3, q4, q5, q6⟩ := Y5.three) | (have X5 : Blk w5 w4.heap.size #[.bool false, .int .u64 0, .int .u64 0] 26 := Blk.via hb5 (Blk.new w4 #[.bool false, .int .u64 0, .int .u64 0] 26) rfl; obtain ⟨p0, p1, p2, p3, p4, p5, p6⟩ := X5.three) | skip)
        go_wp2_with fail
        refine hK.out _ _ ?hSn5007 (fun hHeld2 => ?rest5007)
        case hSn5007 => (first | with_reducible exact R0.drew | with_reducible exact (R0.alloc _).drew | with_reducible exact ((R0.alloc _).alloc _).drew | with_reducible exact hHeld.below hb4 | with_reducible exact hHeld.below hb5 | with_reducible exact hHeld.alloc _ | with_reducible exact hHeld.far (by omega) _ _ _ | with_reducible exact K5.alloc _ | with_reducible exact (K5.alloc _).alloc _ | with_reducible exact (K5.alloc _).far (by omega) _ _ _ | with_reducible exact (K5.far (by omega) _ _ _).alloc _ | with_reducible exact ((K5.alloc _).alloc _).far (by omega) _ _ _)
        clear hK K hHeld
        have hHeld := hHeld2
        clear hHeld2
        try simp only [Act.put, List.setIfInBounds_toArray, List.set_cons_zero, List.set_cons_succ]
        refine wpAnyH_ready (rs := [4, 5]) (by kernel_rfl) (by simp) ?rdy5008
        refine (AllReadyH.cons (List.getElem?_toArray.trans rfl) (fun K hK => ?stp5008_4) (AllReadyH.cons (List.getElem?_toArray.trans rfl) (fun K hK => ?stp5008_5) AllReadyH.nil))
        case stp5008_4 =>
          go_simp
          go_wp2_with fail
          refine hK.out _ _ ?hSn5009 (fun hHeld2 => ?rest5009)
          case hSn5009 => (first | with_reducible exact R0.drew | with_reducible exact (R0.alloc _).drew | with_reducible exact ((R0.alloc _).alloc _).drew | with_reducible exact hHeld.below hb4 | with_reducible exact hHeld.below hb5 | with_reducible exact hHeld.alloc _ | with_reducible exact hHeld.far (by omega) _ _ _ | with_reducible exact K5.alloc _ | with_reducible exact (K5.alloc _).alloc _ | with_reducible exact (K5.alloc _).far (by omega) _ _ _ | with_reducible exact (K5.far (by omega) _ _ _).alloc _ | with_reducible exact ((K5.alloc _).alloc _).far (by omega) _ _ _)
          clear hK K hHeld
          have hHeld := hHeld2
          clear hHeld2
          try simp only [Act.put, List.setIfInBounds_toArray, List.set_cons_zero, List.set_cons_succ]
          refine wpAnyH_ready (rs := [5]) (by kernel_rfl) (by simp) ?rdy5010
          refine (AllReadyH.cons (List.getElem?_toArray.trans rfl) (fun K hK => ?stp5010_5) AllReadyH.nil)
          case stp5010_5 =>
            go_simp
            go_wp2_with fail
            refine hK.out _ _ ?hSn5011 (fun hHeld2 => ?rest5011)
            case hSn5011 => (first | with_reducible exact R0.drew | with_reducible exact (R0.alloc _).drew | with_reducible exact ((R0.alloc _).alloc _).drew | with_reducible exact hHeld.below hb4 | with_reducible exact hHeld.below hb5 | with_reducible exact hHeld.alloc _ | with_reducible exact hHeld.far (by omega) _ _ _ | with_reducible exact K5.alloc _ | with_reducible exact (K5.alloc _).alloc _ | with_reducible exact (K5.alloc _).far (by omega) _ _ _ | with_reducible exact (K5.far (by omega) _ _ _).alloc _ | with_reducible exact ((K5.alloc _).alloc _).far (by omega) _ _ _)
            clear hK K hHeld
            have hHeld := hHeld2
            clear hHeld2
            try simp only [Act.put, List.setIfInBounds_toArray, List.set_cons_zero, List.set_cons_succ]
            refine wpAnyH_ready (rs := [6]) (by kernel_rfl) (by simp) ?rdy5012
            refine (AllReadyH.cons (List.getElem?_toArray.trans rfl) (fun K hK => ?stp5012_6) AllReadyH.nil)
            case stp5012_6 =>
              go_simp
              go_wp2_with fail
              refine hK.out _ _ ?hSn5013 (fun hHeld2 => ?rest5013)
              case hSn5013 => (first | with_reducible exact R0.drew | with_reducible exact (R0.alloc _).drew | with_reducible exact ((R0.alloc _).alloc _).drew | with_reducible exact hHeld.below hb4 | with_reducible exact hHeld.below hb5 | with_reducible exact hHeld.alloc _ | with_reducible exact hHeld.far (by omega) _ _ _ | with_reducible exact K5.alloc _ | with_reducible exact (K5.alloc _).alloc _ | with_reducible exact (K5.alloc _).far (by omega) _ _ _ | with_reducible exact (K5.far (by omega) _ _ _).alloc _ | with_reducible exact ((K5.alloc _).alloc _).far (by omega) _ _ _)
              clear hK K hHeld
              have hHeld := hHeld2
              clear hHeld2
              try simp only [Act.put, List.setIfInBounds_toArray, List.set_cons_zero, List.set_cons_succ]
              refine wpAnyH_ready (rs := [7]) (by kernel_rfl) (by simp) ?rdy5014
              refine (AllReadyH.cons (List.getElem?_toArray.trans rfl) (fun K hK => ?stp5014_7) AllReadyH.nil)
              case stp5014_7 =>
                go_simp
                go_wp2_with fail
                refine hK.out _ _ ?hSn5015 (fun hHeld2 => ?rest5015)
                case hSn5015 => (first | with_reducible exact R0.drew | with_reducible exact (R0.alloc _).drew | with_reducible exact ((R0.alloc _).alloc _).drew | with_reducible exact hHeld.below hb4 | with_reducible exact hHeld.below hb5 | with_reducible exact hHeld.alloc _ | with_reducible exact hHeld.far (by omega) _ _ _ | with_reducible exact K5.alloc _ | with_reducible exact (K5.alloc _).alloc _ | with_reducible exact (K5.alloc _).far (by omega) _ _ _ | with_reducible exact (K5.far (by omega) _ _ _).alloc _ | with_reducible exact ((K5.alloc _).alloc _).far (by omega) _ _ _)
                clear hK K hHeld
                have hHeld := hHeld2
                clear hHeld2
                try simp only [Act.put, List.setIfInBounds_toArray, List.set_cons_zero, List.set_cons_succ]
                refine wpAnyH_done (by kernel_rfl) ?_ _
                go_wp2_with fail
                go_meet
                case rel => exact ⟨_, _, rfl, rfl, (by (repeat (first | with_reducible exact Blk.new _ _ _ | with_reducible exact Blk.newB _ _ _ _ | with_reducible exact Blk.news3 _ _ _ _ _ _ _ _ _ | with_reducible exact U5 | with_reducible exact V5 | with_reducible exact X5 | with_reducible exact Y5 | with_reducible refine Blk.put3 (x := .bool false) (y := .int .u64 0) (z := .int .u64 0) ?_ _ _ _ | with_reducible refine Blk.far3 ?_ (by omega) _ _ _ | with_reducible refine Blk.alloc ?_ _))), (by (repeat (first | with_reducible exact Blk.new _ _ _ | with_reducible exact Blk.newB _ _ _ _ | with_reducible exact Blk.news3 _ _ _ _ _ _ _ _ _ | with_reducible exact U5 | with_reducible exact V5 | with_reducible exact X5 | with_reducible exact Y5 | with_reducible refine Blk.put3 (x := .bool false) (y := .int .u64 0) (z := .int .u64 0) ?_ _ _ _ | with_reducible refine Blk.far3 ?_ (by omega) _ _ _ | with_reducible refine Blk.alloc ?_ _))), hHeld⟩
        case stp5008_5 =>
          go_simp
          go_wp2_with fail
          refine hK.out _ _ ?hSn5016 (fun hHeld2 => ?rest5016)
          case hSn5016 => (first | with_reducible exact R0.drew | with_reducible exact (R0.alloc _).drew | with_reducible exact ((R0.alloc _).alloc _).drew | with_reducible exact hHeld.below hb4 | with_reducible exact hHeld.below hb5 | with_reducible exact hHeld.alloc _ | with_reducible exact hHeld.far (by omega) _ _ _ | with_reducible exact K5.alloc _ | with_reducible exact (K5.alloc _).alloc _ | with_reducible exact (K5.alloc _).far (by omega) _ _ _ | with_reducible exact (K5.far (by omega) _ _ _).alloc _ | with_reducible exact ((K5.alloc _).alloc _).far (by omega) _ _ _)
          clear hK K hHeld
          have hHeld := hHeld2
          clear hHeld2
          try simp only [Act.put, List.setIfInBounds_toArray, List.set_cons_zero, List.set_cons_succ]
          refine wpAnyH_ready (rs := [4]) (by kernel_rfl) (by simp) ?rdy5017
          refine (AllReadyH.cons (List.getElem?_toArray.trans rfl) (fun K hK => ?stp5017_4) AllReadyH.nil)
          case stp5017_4 =>
            go_simp
            go_wp2_with fail
            refine hK.out _ _ ?hSn5018 (fun hHeld2 => ?rest5018)
            case hSn5018 => (first | with_reducible exact R0.drew | with_reducible exact (R0.alloc _).drew | with_reducible exact ((R0.alloc _).alloc _).drew | with_reducible exact hHeld.below hb4 | with_reducible exact hHeld.below hb5 | with_reducible exact hHeld.alloc _ | with_reducible exact hHeld.far (by omega) _ _ _ | with_reducible exact K5.alloc _ | with_reducible exact (K5.alloc _).alloc _ | with_reducible exact (K5.alloc _).far (by omega) _ _ _ | with_reducible exact (K5.far (by omega) _ _ _).alloc _ | with_reducible exact ((K5.alloc _).alloc _).far (by omega) _ _ _)
            clear hK K hHeld
            have hHeld := hHeld2
            clear hHeld2
            try simp only [Act.put, List.setIfInBounds_toArray, List.set_cons_zero, List.set_cons_succ]
            refine wpAnyH_ready (rs := [6]) (by kernel_rfl) (by simp) ?rdy5019
            refine (AllReadyH.cons (List.getElem?_toArray.trans rfl) (fun K hK => ?stp5019_6) AllReadyH.nil)
            case stp5019_6 =>
              go_simp
              go_wp2_with fail
              refine hK.out _ _ ?hSn5020 (fun hHeld2 => ?rest5020)
              case hSn5020 => (first | with_reducible exact R0.drew | with_reducible exact (R0.alloc _).drew | with_reducible exact ((R0.alloc _).alloc _).drew | with_reducible exact hHeld.below hb4 | with_reducible exact hHeld.below hb5 | with_reducible exact hHeld.alloc _ | with_reducible exact hHeld.far (by omega) _ _ _ | with_reducible exact K5.alloc _ | with_reducible exact (K5.alloc _).alloc _ | with_reducible exact (K5.alloc _).far (by omega) _ _ _ | with_reducible exact (K5.far (by omega) _ _ _).alloc _ | with_reducible exact ((K5.alloc _).alloc _).far (by omega) _ _ _)
              clear hK K hHeld
              have hHeld := hHeld2
              clear hHeld2
              try simp only [Act.put, List.setIfInBounds_toArray, List.set_cons_zero, List.set_cons_succ]
              refine wpAnyH_ready (rs := [7]) (by kernel_rfl) (by simp) ?rdy5021
              refine (AllReadyH.cons (List.getElem?_toArray.trans rfl) (fun K hK => ?stp5021_7) AllReadyH.nil)
              case stp5021_7 =>
                go_simp
                go_wp2_with fail
                refine hK.out _ _ ?hSn5022 (fun hHeld2 => ?rest5022)
                case hSn5022 => (first | with_reducible exact R0.drew | with_reducible exact (R0.alloc _).drew | with_reducible exact ((R0.alloc _).alloc _).drew | with_reducible exact hHeld.below hb4 | with_reducible exact hHeld.below hb5 | with_reducible exact hHeld.alloc _ | with_reducible exact hHeld.far (by omega) _ _ _ | with_reducible exact K5.alloc _ | with_reducible exact (K5.alloc _).alloc _ | with_reducible exact (K5.alloc _).far (by omega) _ _ _ | with_reducible exact (K5.far (by omega) _ _ _).alloc _ | with_reducible exact ((K5.alloc _).alloc _).far (by omega) _ _ _)
                clear hK K hHeld
                have hHeld := hHeld2
                clear hHeld2
                try simp only [Act.put, List.setIfInBounds_toArray, List.set_cons_zero, List.set_cons_succ]
                refine wpAnyH_done (by kernel_rfl) ?_ _
                go_wp2_with fail
                go_meet
                case rel => exact ⟨_, _, rfl, rfl, (by (repeat (first | with_reducible exact Blk.new _ _ _ | with_reducible exact Blk.newB _ _ _ _ | with_reducible exact Blk.news3 _ _ _ _ _ _ _ _ _ | with_reducible exact U5 | with_reducible exact V5 | with_reducible exact X5 | with_reducible exact Y5 | with_reducible refine Blk.put3 (x := .bool false) (y := .int .u64 0) (z := .int .u64 0) ?_ _ _ _ | with_reducible refine Blk.far3 ?_ (by omega) _ _ _ | with_reducible refine Blk.alloc ?_ _))), (by (repeat (first | with_reducible exact Blk.new _ _ _ | with_reducible exact Blk.newB _ _ _ _ | with_reducible exact Blk.news3 _ _ _ _ _ _ _ _ _ | with_reducible exact U5 | with_reducible exact V5 | with_reducible exact X5 | with_reducible exact Y5 | with_reducible refine Blk.put3 (x := .bool false) (y := .int .u64 0) (z := .int .u64 0) ?_ _ _ _ | with_reducible refine Blk.far3 ?_ (by omega) _ _ _ | with_reducible refine Blk.alloc ?_ _))), hHeld⟩
      case stp5006_4 =>
        go_simp
        go_wp2_with fail
        refine hK.out _ _ ?hSn5023 (fun hHeld2 => ?rest5023)
        case hSn5023 => (first | with_reducible exact R0.drew | with_reducible exact (R0.alloc _).drew | with_reducible exact ((R0.alloc _).alloc _).drew | with_reducible exact hHeld.below hb4 | with_reducible exact hHeld.below hb5 | with_reducible exact hHeld.alloc _ | with_reducible exact hHeld.far (by omega) _ _ _ | with_reducible exact K5.alloc _ | with_reducible exact (K5.alloc _).alloc _ | with_reducible exact (K5.alloc _).far (by omega) _ _ _ | with_reducible exact (K5.far (by omega) _ _ _).alloc _ | with_reducible exact ((K5.alloc _).alloc _).far (by omega) _ _ _)
        clear hK K hHeld
        have hHeld := hHeld2
        clear hHeld2
        try simp only [Act.put, List.setIfInBounds_toArray, List.set_cons_zero, List.set_cons_succ]
        refine wpAnyH_ready (rs := [3, 5]) (by kernel_rfl) (by simp) ?rdy5024
        refine (AllReadyH.cons (List.getElem?_toArray.trans rfl) (fun K hK => ?stp5024_3) (AllReadyH.cons (List.getElem?_toArray.trans rfl) (fun K hK => ?stp5024_5) AllReadyH.nil))
        case stp5024_3 =>
          go_simp
          go_wp2_with fail
          (refine (CL.out _).mono ?_; rintro e w5 ⟨rfl, hb5⟩; have K5 := hHeld.below hb5; have s5 : w4.heap.size ≤ w5.heap.size := (by have := hb5.size; first | exact this | (simp at this; omega)); (first | (have U5 := U4.below hb5; obtain ⟨a0, a1, a2, a3, a4, a5, a6⟩ := U5.three) | (have U5 := Blk.via hb5 (U4.alloc (.cells #[.bool false, .int .u64 0, .int .u64 0] 26)) rfl; obtain ⟨a0, a1, a2, a3, a4, a5, a6⟩ := U5.three) | (have U5 := Blk.via hb5 ((U4.alloc (.cells #[.bool false, .int .u64 0, .int .u64 0] 26)).alloc (.cells #[.bool false, .int .u64 0, .int .u64 0] 26)) rfl; obtain ⟨a0, a1, a2, a3, a4, a5, a6⟩ := U5.three) | skip); (first | (have V5 := V4.below hb5; obtain ⟨b0, b1, b2, b3, b4, b5, b6⟩ := V5.three) | (have V5 := Blk.via hb5 (V4.alloc (.cells #[.bool false, .int .u64 0, .int .u64 0] 26)) rfl; obtain ⟨b0, b1, b2, b3, b4, b5, b6⟩ := V5.three) | (have V5 := Blk.via hb5 ((V4.alloc (.cells #[.bool false, .int .u64 0, .int .u64 0] 26)).alloc (.cells #[.bool false, .int .u64 0, .int .u64 0] 26)) rfl; obtain ⟨b0, b1, b2, b3, b4, b5, b6⟩ := V5.three) | skip); first | (have X5 : Blk w5 w4.heap.size #[.bool false, .int .u64 0, .int .u64 0] 26 := Blk.via hb5 ((Blk.new w4 #[.bool false, .int .u64 0, .int .u64 0] 26).alloc (.cells #[.bool false, .int .u64 0, .int .u64 0] 26)) rfl; have Y5 : Blk w5 (w4.heap.size + 1) #[.bool false, .int .u64 0, .int .u64 0] 26 := Blk.via hb5 (Blk.newB w4 (.cells #[.bool false, .int .u64 0, .int .u64 0] 26) #[.bool false, .int .u64 0, .int .u64 0] 26) rfl; obtain ⟨p0, p1, p2, p3, p4, p5, p6⟩ := X5.three; obtain ⟨q0, q1, q2, q3, q4, q5, q6⟩ := Y5.three) | (have X5 : Blk w5 w4.heap.size #[.bool false, .int .u64 0, .int .u64 0] 26 := Blk.via hb5 (Blk.new w4 #[.bool false, .int .u64 0, .int .u64 0] 26) rfl; obtain ⟨p0, p1, p2, p3, p4, p5, p6⟩ := X5.three) | skip)
          go_wp2_with fail
          refine hK.out _ _ ?hSn5025 (fun hHeld2 => ?rest5025)
          case hSn5025 => (first | with_reducible exact R0.drew | with_reducible exact (R0.alloc _).drew | with_reducible exact ((R0.alloc _).alloc _).drew | with_reducible exact hHeld.below hb4 | with_reducible exact hHeld.below hb5 | with_reducible exact hHeld.alloc _ | with_reducible exact hHeld.far (by omega) _ _ _ | with_reducible exact K5.alloc _ | with_reducible exact (K5.alloc _).alloc _ | with_reducible exact (K5.alloc _).far (by omega) _ _ _ | with_reducible exact (K5.far (by omega) _ _ _).alloc _ | with_reducible exact ((K5.alloc _).alloc _).far (by omega) _ _ _)
          clear hK K hHeld
          have hHeld := hHeld2
          clear hHeld2
          try simp only [Act.put, List.setIfInBounds_toArray, List.set_cons_zero, List.set_cons_succ]
          refine wpAnyH_ready (rs := [5]) (by kernel_rfl) (by simp) ?rdy5026
          refine (AllReadyH.cons (List.getElem?_toArray.trans rfl) (fun K hK => ?stp5026_5) AllReadyH.nil)
          case stp5026_5 =>
            go_simp
            go_wp2_with fail
            refine hK.out _ _ ?hSn5027 (fun hHeld2 => ?rest5027)
            case hSn5027 => (first | with_reducible exact R0.drew | with_reducible exact (R0.alloc _).drew | with_reducible exact ((R0.alloc _).alloc _).drew | with_reducible exact hHeld.below hb4 | with_reducible exact hHeld.below hb5 | with_reducible exact hHeld.alloc _ | with_reducible exact hHeld.far (by omega) _ _ _ | with_reducible exact K5.alloc _ | with_reducible exact (K5.alloc _).alloc _ | with_reducible exact (K5.alloc _).far (by omega) _ _ _ | with_reducible exact (K5.far (by omega) _ _ _).alloc _ | with_reducible exact ((K5.alloc _).alloc _).far (by omega) _ _ _)
            clear hK K hHeld
            have hHeld := hHeld2
            clear hHeld2
            try simp only [Act.put, List.setIfInBounds_toArray, List.set_cons_zero, List.set_cons_succ]
            refine wpAnyH_ready (rs := [6]) (by kernel_rfl) (by simp) ?rdy5028
            refine (AllReadyH.cons (List.getElem?_toArray.trans rfl) (fun K hK => ?stp5028_6) AllReadyH.nil)
            case stp5028_6 =>
              go_simp
              go_wp2_with fail
              refine hK.out _ _ ?hSn5029 (fun hHeld2 => ?rest5029)
              case hSn5029 => (first | with_reducible exact R0.drew | with_reducible exact (R0.alloc _).drew | with_reducible exact ((R0.alloc _).alloc _).drew | with_reducible exact hHeld.below hb4 | with_reducible exact hHeld.below hb5 | with_reducible exact hHeld.alloc _ | with_reducible exact hHeld.far (by omega) _ _ _ | with_reducible exact K5.alloc _ | with_reducible exact (K5.alloc _).alloc _ | with_reducible exact (K5.alloc _).far (by omega) _ _ _ | with_reducible exact (K5.far (by omega) _ _ _).alloc _ | with_reducible exact ((K5.alloc _).alloc _).far (by omega) _ _ _)
              clear hK K hHeld
              have hHeld := hHeld2
              clear hHeld2
              try simp only [Act.put, List.setIfInBounds_toArray, List.set_cons_zero, List.set_cons_succ]
              refine wpAnyH_ready (rs := [7]) (by kernel_rfl) (by simp) ?rdy5030
              refine (AllReadyH.cons (List.getElem?_toArray.trans rfl) (fun K hK => ?stp5030_7) AllReadyH.nil)
              case stp5030_7 =>
                go_simp
                go_wp2_with fail
                refine hK.out _ _ ?hSn5031 (fun hHeld2 => ?rest5031)
                case hSn5031 => (first | with_reducible exact R0.drew | with_reducible exact (R0.alloc _).drew | with_reducible exact ((R0.alloc _).alloc _).drew | with_reducible exact hHeld.below hb4 | with_reducible exact hHeld.below hb5 | with_reducible exact hHeld.alloc _ | with_reducible exact hHeld.far (by omega) _ _ _ | with_reducible exact K5.alloc _ | with_reducible exact (K5.alloc _).alloc _ | with_reducible exact (K5.alloc _).far (by omega) _ _ _ | with_reducible exact (K5.far (by omega) _ _ _).alloc _ | with_reducible exact ((K5.alloc _).alloc _).far (by omega) _ _ _)
                clear hK K hHeld
                have hHeld := hHeld2
                clear hHeld2
                try simp only [Act.put, List.setIfInBounds_toArray, List.set_cons_zero, List.set_cons_succ]
                refine wpAnyH_done (by kernel_rfl) ?_ _
                go_wp2_with fail
                go_meet
                case rel => exact ⟨_, _, rfl, rfl, (by (repeat (first | with_reducible exact Blk.new _ _ _ | with_reducible exact Blk.newB _ _ _ _ | with_reducible exact Blk.news3 _ _ _ _ _ _ _ _ _ | with_reducible exact U5 | with_reducible exact V5 | with_reducible exact X5 | with_reducible exact Y5 | with_reducible refine Blk.put3 (x := .bool false) (y := .int .u64 0) (z := .int .u64 0) ?_ _ _ _ | with_reducible refine Blk.far3 ?_ (by omega) _ _ _ | with_reducible refine Blk.alloc ?_ _))), (by (repeat (first | with_reducible exact Blk.new _ _ _ | with_reducible exact Blk.newB _ _ _ _ | with_reducible exact Blk.news3 _ _ _ _ _ _ _ _ _ | with_reducible exact U5 | with_reducible exact V5 | with_reducible exact X5 | with_reducible exact Y5 | with_reducible refine Blk.put3 (x := .bool false) (y := .int .u64 0) (z := .int .u64 0) ?_ _ _ _ | with_reducible refine Blk.far3 ?_ (by omega) _ _ _ | with_reducible refine Blk.alloc ?_ _))), hHeld⟩
        case stp5024_5 =>
          go_simp
          go_wp2_with fail
          refine hK.out _ _ ?hSn5032 (fun hHeld2 => ?rest5032)
          case hSn5032 => (first | with_reducible exact R0.drew | with_reducible exact (R0.alloc _).drew | with_reducible exact ((R0.alloc _).alloc _).drew | with_reducible exact hHeld.below hb4 | with_reducible exact hHeld.below hb5 | with_reducible exact hHeld.alloc _ | with_reducible exact hHeld.far (by omega) _ _ _ | with_reducible exact K5.alloc _ | with_reducible exact (K5.alloc _).alloc _ | with_reducible exact (K5.alloc _).far (by omega) _ _ _ | with_reducible exact (K5.far (by omega) _ _ _).alloc _ | with_reducible exact ((K5.alloc _).alloc _).far (by omega) _ _ _)
          clear hK K hHeld
          have hHeld := hHeld2
          clear hHeld2
          try simp only [Act.put, List.setIfInBounds_toArray, List.set_cons_zero, List.set_cons_succ]
          refine wpAnyH_ready (rs := [3]) (by kernel_rfl) (by simp) ?rdy5033
          refine (AllReadyH.cons (List.getElem?_toArray.trans rfl) (fun K hK => ?stp5033_3) AllReadyH.nil)
          case stp5033_3 =>
            go_simp
            go_wp2_with fail
            (refine (CL.out _).mono ?_; rintro e w5 ⟨rfl, hb5⟩; have K5 := hHeld.below hb5; have s5 : w4.heap.size ≤ w5.heap.size := (by have := hb5.size; first | exact this | (simp at this; omega)); (first | (have U5 := U4.below hb5; obtain ⟨a0, a1, a2, a3, a4, a5, a6⟩ := U5.three) | (have U5 := Blk.via hb5 (U4.alloc (.cells #[.bool false, .int .u64 0, .int .u64 0] 26)) rfl; obtain ⟨a0, a1, a2, a3, a4, a5, a6⟩ := U5.three) | (have U5 := Blk.via hb5 ((U4.alloc (.cells #[.bool false, .int .u64 0, .int .u64 0] 26)).alloc (.cells #[.bool false, .int .u64 0, .int .u64 0] 26)) rfl; obtain ⟨a0, a1, a2, a3, a4, a5, a6⟩ := U5.three) | skip); (first | (have V5 := V4.below hb5; obtain ⟨b0, b1, b2, b3, b4, b5, b6⟩ := V5.three) | (have V5 := Blk.via hb5 (V4.alloc (.cells #[.bool false, .int .u64 0, .int .u64 0] 26)) rfl; obtain ⟨b0, b1, b2, b3, b4, b5, b6⟩ := V5.three) | (have V5 := Blk.via hb5 ((V4.alloc (.cells #[.bool false, .int .u64 0, .int .u64 0] 26)).alloc (.cells #[.bool false, .int .u64 0, .int .u64 0] 26)) rfl; obtain ⟨b0, b1, b2, b3, b4, b5, b6⟩ := V5.three) | skip); first | (have X5 : Blk w5 w4.heap.size #[.bool false, .int .u64 0, .int .u64 0] 26 := Blk.via hb5 ((Blk.new w4 #[.bool false, .int .u64 0, .int .u64 0] 26).alloc (.cells #[.bool false, .int .u64 0, .int .u64 0] 26)) rfl; have Y5 : Blk w5 (w4.heap.size + 1) #[.bool false, .int .u64 0, .int .u64 0] 26 := Blk.via hb5 (Blk.newB w4 (.cells #[.bool false, .int .u64 0, .int .u64 0] 26) #[.bool false, .int .u64 0, .int .u64 0] 26) rfl; obtain ⟨p0, p1, p2, p3, p4, p5, p6⟩ := X5.three; obtain ⟨q0, q1, q2, q3, q4, q5, q6⟩ := Y5.three) | (have X5 : Blk w5 w4.heap.size #[.bool false, .int .u64 0, .int .u64 0] 26 := Blk.via hb5 (Blk.new w4 #[.bool false, .int .u64 0, .int .u64 0] 26) rfl; obtain ⟨p0, p1, p2, p3, p4, p5, p6⟩ := X5.three) | skip)
            go_wp2_with fail
            refine hK.out _ _ ?hSn5034 (fun hHeld2 => ?rest5034)
            case hSn5034 => (first | with_reducible exact R0.drew | with_reducible exact (R0.alloc _).drew | with_reducible exact ((R0.alloc _).alloc _).drew | with_reducible exact hHeld.below hb4 | with_reducible exact hHeld.below hb5 | with_reducible exact hHeld.alloc _ | with_reducible exact hHeld.far (by omega) _ _ _ | with_reducible exact K5.alloc _ | with_reducible exact (K5.alloc _).alloc _ | with_reducible exact (K5.alloc _).far (by omega) _ _ _ | with_reducible exact (K5.far (by omega) _ _ _).alloc _ | with_reducible exact ((K5.alloc _).alloc _).far (by omega) _ _ _)
            clear hK K hHeld
            have hHeld := hHeld2
            clear hHeld2
            try simp only [Act.put, List.setIfInBounds_toArray, List.set_cons_zero, List.set_cons_succ]
            refine wpAnyH_ready (rs := [6]) (by kernel_rfl) (by simp) ?rdy5035
            refine (AllReadyH.cons (List.getElem?_toArray.trans rfl) (fun K hK => ?stp5035_6) AllReadyH.nil)
            case stp5035_6 =>
              go_simp
              go_wp2_with fail
              refine hK.out _ _ ?hSn5036 (fun hHeld2 => ?rest5036)
              case hSn5036 => (first | with_reducible exact R0.drew | with_reducible exact (R0.alloc _).drew | with_reducible exact ((R0.alloc _).alloc _).drew | with_reducible exact hHeld.below hb4 | with_reducible exact hHeld.below hb5 | with_reducible exact hHeld.alloc _ | with_reducible exact hHeld.far (by omega) _ _ _ | with_reducible exact K5.alloc _ | with_reducible exact (K5.alloc _).alloc _ | with_reducible exact (K5.alloc _).far (by omega) _ _ _ | with_reducible exact (K5.far (by omega) _ _ _).alloc _ | with_reducible exact ((K5.alloc _).alloc _).far (by omega) _ _ _)
              clear hK K hHeld
              have hHeld := hHeld2
              clear hHeld2
              try simp only [Act.put, List.setIfInBounds_toArray, List.set_cons_zero, List.set_cons_succ]
              refine wpAnyH_ready (rs := [7]) (by kernel_rfl) (by simp) ?rdy5037
              refine (AllReadyH.cons (List.getElem?_toArray.trans rfl) (fun K hK => ?stp5037_7) AllReadyH.nil)
              case stp5037_7 =>
                go_simp
                go_wp2_with fail
                refine hK.out _ _ ?hSn5038 (fun hHeld2 => ?rest5038)
                case hSn5038 => (first | with_reducible exact R0.drew | with_reducible exact (R0.alloc _).drew | with_reducible exact ((R0.alloc _).alloc _).drew | with_reducible exact hHeld.below hb4 | with_reducible exact hHeld.below hb5 | with_reducible exact hHeld.alloc _ | with_reducible exact hHeld.far (by omega) _ _ _ | with_reducible exact K5.alloc _ | with_reducible exact (K5.alloc _).alloc _ | with_reducible exact (K5.alloc _).far (by omega) _ _ _ | with_reducible exact (K5.far (by omega) _ _ _).alloc _ | with_reducible exact ((K5.alloc _).alloc _).far (by omega) _ _ _)
                clear hK K hHeld
                have hHeld := hHeld2
                clear hHeld2
                try simp only [Act.put, List.setIfInBounds_toArray, List.set_cons_zero, List.set_cons_succ]
                refine wpAnyH_done (by kernel_rfl) ?_ _
                go_wp2_with fail
                go_meet
                case rel => exact ⟨_, _, rfl, rfl, (by (repeat (first | with_reducible exact Blk.new _ _ _ | with_reducible exact Blk.newB _ _ _ _ | with_reducible exact Blk.news3 _ _ _ _ _ _ _ _ _ | with_reducible exact U5 | with_reducible exact V5 | with_reducible exact X5 | with_reducible exact Y5 | with_reducible refine Blk.put3 (x := .bool false) (y := .int .u64 0) (z := .int .u64 0) ?_ _ _ _ | with_reducible refine Blk.far3 ?_ (by omega) _ _ _ | with_reducible refine Blk.alloc ?_ _))), (by (repeat (first | with_reducible exact Blk.new _ _ _ | with_reducible exact Blk.newB _ _ _ _ | with_reducible exact Blk.news3 _ _ _ _ _ _ _ _ _ | with_reducible exact U5 | with_reducible exact V5 | with_reducible exact X5 | with_reducible exact Y5 | with_reducible refine Blk.put3 (x := .bool false) (y := .int .u64 0) (z := .int .u64 0) ?_ _ _ _ | with_reducible refine Blk.far3 ?_ (by omega) _ _ _ | with_reducible refine Blk.alloc ?_ _))), hHeld⟩
      case stp5006_5 =>
        go_simp
        go_wp2_with fail
        refine hK.out _ _ ?hSn5039 (fun hHeld2 => ?rest5039)
        case hSn5039 => (first | with_reducible exact R0.drew | with_reducible exact (R0.alloc _).drew | with_reducible exact ((R0.alloc _).alloc _).drew | with_reducible exact hHeld.below hb4 | with_reducible exact hHeld.below hb5 | with_reducible exact hHeld.alloc _ | with_reducible exact hHeld.far (by omega) _ _ _ | with_reducible exact K5.alloc _ | with_reducible exact (K5.alloc _).alloc _ | with_reducible exact (K5.alloc _).far (by omega) _ _ _ | with_reducible exact (K5.far (by omega) _ _ _).alloc _ | with_reducible exact ((K5.alloc _).alloc _).far (by omega) _ _ _)
        clear hK K hHeld
        have hHeld := hHeld2
        clear hHeld2
        try simp only [Act.put, List.setIfInBounds_toArray, List.set_cons_zero, List.set_cons_succ]
        refine wpAnyH_ready (rs := [3, 4]) (by kernel_rfl) (by simp) ?rdy5040
        refine (AllReadyH.cons (List.getElem?_toArray.trans rfl) (fun K hK => ?stp5040_3) (AllReadyH.cons (List.getElem?_toArray.trans rfl) (fun K hK => ?stp5040_4) AllReadyH.nil))
        case stp5040_3 =>
          go_simp
          go_wp2_with fail
          (refine (CL.out _).mono ?_; rintro e w5 ⟨rfl, hb5⟩; have K5 := hHeld.below hb5; have s5 : w4.heap.size ≤ w5.heap.size := (by have := hb5.size; first | exact this | (simp at this; omega)); (first | (have U5 := U4.below hb5; obtain ⟨a0, a1, a2, a3, a4, a5, a6⟩ := U5.three) | (have U5 := Blk.via hb5 (U4.alloc (.cells #[.bool false, .int .u64 0, .int .u64 0] 26)) rfl; obtain ⟨a0, a1, a2, a3, a4, a5, a6⟩ := U5.three) | (have U5 := Blk.via hb5 ((U4.alloc (.cells #[.bool false, .int .u64 0, .int .u64 0] 26)).alloc (.cells #[.bool false, .int .u64 0, .int .u64 0] 26)) rfl; obtain ⟨a0, a1, a2, a3, a4, a5, a6⟩ := U5.three) | skip); (first | (have V5 := V4.below hb5; obtain ⟨b0, b1, b2, b3, b4, b5, b6⟩ := V5.three) | (have V5 := Blk.via hb5 (V4.alloc (.cells #[.bool false, .int .u64 0, .int .u64 0] 26)) rfl; obtain ⟨b0, b1, b2, b3, b4, b5, b6⟩ := V5.three) | (have V5 := Blk.via hb5 ((V4.alloc (.cells #[.bool false, .int .u64 0, .int .u64 0] 26)).alloc (.cells #[.bool false, .int .u64 0, .int .u64 0] 26)) rfl; obtain ⟨b0, b1, b2, b3, b4, b5, b6⟩ := V5.three) | skip); first | (have X5 : Blk w5 w4.heap.size #[.bool false, .int .u64 0, .int .u64 0] 26 := Blk.via hb5 ((Blk.new w4 #[.bool false, .int .u64 0, .int .u64 0] 26).alloc (.cells #[.bool false, .int .u64 0, .int .u64 0] 26)) rfl; have Y5 : Blk w5 (w4.heap.size + 1) #[.bool false, .int .u64 0, .int .u64 0] 26 := Blk.via hb5 (Blk.newB w4 (.cells #[.bool false, .int .u64 0, .int .u64 0] 26) #[.bool false, .int .u64 0, .int .u64 0] 26) rfl; obtain ⟨p0, p1, p2, p3, p4, p5, p6⟩ := X5.three; obtain ⟨q0, q1, q2, q3, q4, q5, q6⟩ := Y5.three) | (have X5 : Blk w5 w4.heap.size #[.bool false, .int .u64 0, .int .u64 0] 26 := Blk.via hb5 (Blk.new w4 #[.bool false, .int .u64 0, .int .u64 0] 26) rfl; obtain ⟨p0, p1, p2, p3, p4, p5, p6⟩ := X5.three) | skip)
          go_wp2_with fail
          refine hK.out _ _ ?hSn5041 (fun hHeld2 => ?rest5041)
          case hSn5041 => (first | with_reducible exact R0.drew | with_reducible exact (R0.alloc _).drew | with_reducible exact ((R0.alloc _).alloc _).drew | with_reducible exact hHeld.below hb4 | with_reducible exact hHeld.below hb5 | with_reducible exact hHeld.alloc _ | with_reducible exact hHeld.far (by omega) _ _ _ | with_reducible exact K5.alloc _ | with_reducible exact (K5.alloc _).alloc _ | with_reducible exact (K5.alloc _).far (by omega) _ _ _ | with_reducible exact (K5.far (by omega) _ _ _).alloc _ | with_reducible exact ((K5.alloc _).alloc _).far (by omega) _ _ _)
          clear hK K hHeld
          have hHeld := hHeld2
          clear hHeld2
          try simp only [Act.put, List.setIfInBounds_toArray, List.set_cons_zero, List.set_cons_succ]
          refine wpAnyH_ready (rs := [4]) (by kernel_rfl) (by simp) ?rdy5042
          refine (AllReadyH.cons (List.getElem?_toArray.trans rfl) (fun K hK => ?stp5042_4) AllReadyH.nil)
          case stp5042_4 =>
            go_simp
            go_wp2_with fail
            refine hK.out _ _ ?hSn5043 (fun hHeld2 => ?rest5043)
            case hSn5043 => (first | with_reducible exact R0.drew | with_reducible exact (R0.alloc _).drew | with_reducible exact ((R0.alloc _).alloc _).drew | with_reducible exact hHeld.below hb4 | with_reducible exact hHeld.below hb5 | with_reducible exact hHeld.alloc _ | with_reducible exact hHeld.far (by omega) _ _ _ | with_reducible exact K5.alloc _ | with_reducible exact (K5.alloc _).alloc _ | with_reducible exact (K5.alloc _).far (by omega) _ _ _ | with_reducible exact (K5.far (by omega) _ _ _).alloc _ | with_reducible exact ((K5.alloc _).alloc _).far (by omega) _ _ _)
            clear hK K hHeld
            have hHeld := hHeld2
            clear hHeld2
            try simp only [Act.put, List.setIfInBounds_toArray, List.set_cons_zero, List.set_cons_succ]
            refine wpAnyH_ready (rs := [6]) (by kernel_rfl) (by simp) ?rdy5044
            refine (AllReadyH.cons (List.getElem?_toArray.trans rfl) (fun K hK => ?stp5044_6) AllReadyH.nil)
            case stp5044_6 =>
              go_simp
              go_wp2_with fail
              refine hK.out _ _ ?hSn5045 (fun hHeld2 => ?rest5045)
              case hSn5045 => (first | with_reducible exact R0.drew | with_reducible exact (R0.alloc _).drew | with_reducible exact ((R0.alloc _).alloc _).drew | with_reducible exact hHeld.below hb4 | with_reducible exact hHeld.below hb5 | with_reducible exact hHeld.alloc _ | with_reducible exact hHeld.far (by omega) _ _ _ | with_reducible exact K5.alloc _ | with_reducible exact (K5.alloc _).alloc _ | with_reducible exact (K5.alloc _).far (by omega) _ _ _ | with_reducible exact (K5.far (by omega) _ _ _).alloc _ | with_reducible exact ((K5.alloc _).alloc _).far (by omega) _ _ _)
              clear hK K hHeld
              have hHeld := hHeld2
              clear hHeld2
              try simp only [Act.put, List.setIfInBounds_toArray, List.set_cons_zero, List.set_cons_succ]
              refine wpAnyH_ready (rs := [7]) (by kernel_rfl) (by simp) ?rdy5046
              refine (AllReadyH.cons (List.getElem?_toArray.trans rfl) (fun K hK => ?stp5046_7) AllReadyH.nil)
              case stp5046_7 =>
                go_simp
                go_wp2_with fail
                refine hK.out _ _ ?hSn5047 (fun hHeld2 => ?rest5047)
                case hSn5047 => (first | with_reducible exact R0.drew | with_reducible exact (R0.alloc _).drew | with_reducible exact ((R0.alloc _).alloc _).drew | with_reducible exact hHeld.below hb4 | with_reducible exact hHeld.below hb5 | with_reducible exact hHeld.alloc _ | with_reducible exact hHeld.far (by omega) _ _ _ | with_reducible exact K5.alloc _ | with_reducible exact (K5.alloc _).alloc _ | with_reducible exact (K5.alloc _).far (by omega) _ _ _ | with_reducible exact (K5.far (by omega) _ _ _).alloc _ | with_reducible exact ((K5.alloc _).alloc _).far (by omega) _ _ _)
                clear hK K hHeld
                have hHeld := hHeld2
                clear hHeld2
                try simp only [Act.put, List.setIfInBounds_toArray, List.set_cons_zero, List.set_cons_succ]
                refine wpAnyH_done (by kernel_rfl) ?_ _
                go_wp2_with fail
                go_meet
                case rel => exact ⟨_, _, rfl, rfl, (by (repeat (first | with_reducible exact Blk.new _ _ _ | with_reducible exact Blk.newB _ _ _ _ | with_reducible exact Blk.news3 _ _ _ _ _ _ _ _ _ | with_reducible exact U5 | with_reducible exact V5 | with_reducible exact X5 | with_reducible exact Y5 | with_reducible refine Blk.put3 (x := .bool false) (y := .int .u64 0) (z := .int .u64 0) ?_ _ _ _ | with_reducible refine Blk.far3 ?_ (by omega) _ _ _ | with_reducible refine Blk.alloc ?_ _))), (by (repeat (first | with_reducible exact Blk.new _ _ _ | with_reducible exact Blk.newB _ _ _ _ | with_reducible exact Blk.news3 _ _ _ _ _ _ _ _ _ | with_reducible exact U5 | with_reducible exact V5 | with_reducible exact X5 | with_reducible exact Y5 | with_reducible refine Blk.put3 (x := .bool false) (y := .int .u64 0) (z := .int .u64 0) ?_ _ _ _ | with_reducible refine Blk.far3 ?_ (by omega) _ _ _ | with_reducible refine Blk.alloc ?_ _))), hHeld⟩
        case stp5040_4 =>
          go_simp
          go_wp2_with fail
          refine hK.out _ _ ?hSn5048 (fun hHeld2 => ?rest5048)
          case hSn5048 => (first | with_reducible exact R0.drew | with_reducible exact (R0.alloc _).drew | with_reducible exact ((R0.alloc _).alloc _).drew | with_reducible exact hHeld.below hb4 | with_reducible exact hHeld.below hb5 | with_reducible exact hHeld.alloc _ | with_reducible exact hHeld.far (by omega) _ _ _ | with_reducible exact K5.alloc _ | with_reducible exact (K5.alloc _).alloc _ | with_reducible exact (K5.alloc _).far (by omega) _ _ _ | with_reducible exact (K5.far (by omega) _ _ _).alloc _ | with_reducible exact ((K5.alloc _).alloc _).far (by omega) _ _ _)
          clear hK K hHeld
          have hHeld := hHeld2
          clear hHeld2
          try simp only [Act.put, List.setIfInBounds_toArray, List.set_cons_zero, List.set_cons_succ]
          refine wpAnyH_ready (rs := [3]) (by kernel_rfl) (by simp) ?rdy5049
          refine (AllReadyH.cons (List.getElem?_toArray.trans rfl) (fun K hK => ?stp5049_3) AllReadyH.nil)
          case stp5049_3 =>
            go_simp
            go_wp2_with fail
            (refine (CL.out _).mono ?_; rintro e w5 ⟨rfl, hb5⟩; have K5 := hHeld.below hb5; have s5 : w4.heap.size ≤ w5.heap.size := (by have := hb5.size; first | exact this | (simp at this; omega)); (first | (have U5 := U4.below hb5; obtain ⟨a0, a1, a2, a3, a4, a5, a6⟩ := U5.three) | (have U5 := Blk.via hb5 (U4.alloc (.cells #[.bool false, .int .u64 0, .int .u64 0] 26)) rfl; obtain ⟨a0, a1, a2, a3, a4, a5, a6⟩ := U5.three) | (have U5 := Blk.via hb5 ((U4.alloc (.cells #[.bool false, .int .u64 0, .int .u64 0] 26)).alloc (.cells #[.bool false, .int .u64 0, .int .u64 0] 26)) rfl; obtain ⟨a0, a1, a2, a3, a4, a5, a6⟩ := U5.three) | skip); (first | (have V5 := V4.below hb5; obtain ⟨b0, b1, b2, b3, b4, b5, b6⟩ := V5.three) | (have V5 := Blk.via hb5 (V4.alloc (.cells #[.bool false, .int .u64 0, .int .u64 0] 26)) rfl; obtain ⟨b0, b1, b2, b3, b4, b5, b6⟩ := V5.three) | (have V5 := Blk.via hb5 ((V4.alloc (.cells #[.bool false, .int .u64 0, .int .u64 0] 26)).alloc (.cells #[.bool false, .int .u64 0, .int .u64 0] 26)) rfl; obtain ⟨b0, b1, b2, b3, b4, b5, b6⟩ := V5.three) | skip); first | (have X5 : Blk w5 w4.heap.size #[.bool false, .int .u64 0, .int .u64 0] 26 := Blk.via hb5 ((Blk.new w4 #[.bool false, .int .u64 0, .int .u64 0] 26).alloc (.cells #[.bool false, .int .u64 0, .int .u64 0] 26)) rfl; have Y5 : Blk w5 (w4.heap.size + 1) #[.bool false, .int .u64 0, .int .u64 0] 26 := Blk.via hb5 (Blk.newB w4 (.cells #[.bool false, .int .u64 0, .int .u64 0] 26) #[.bool false, .int .u64 0, .int .u64 0] 26) rfl; obtain ⟨p0, p1, p2, p3, p4, p5, p6⟩ := X5.three; obtain ⟨q0, q1, q2, q3, q4, q5, q6⟩ := Y5.three) | (have X5 : Blk w5 w4.heap.size #[.bool false, .int .u64 0, .int .u64 0] 26 := Blk.via hb5 (Blk.new w4 #[.bool false, .int .u64 0, .int .u64 0] 26) rfl; obtain ⟨p0, p1, p2, p3, p4, p5, p6⟩ := X5.three) | skip)
            go_wp2_with fail
            refine hK.out _ _ ?hSn5050 (fun hHeld2 => ?rest5050)
            case hSn5050 => (first | with_reducible exact R0.drew | with_reducible exact (R0.alloc _).drew | with_reducible exact ((R0.alloc _).alloc _).drew | with_reducible exact hHeld.below hb4 | with_reducible exact hHeld.below hb5 | with_reducible exact hHeld.alloc _ | with_reducible exact hHeld.far (by omega) _ _ _ | with_reducible exact K5.alloc _ | with_reducible exact (K5.alloc _).alloc _ | with_reducible exact (K5.alloc _).far (by omega) _ _ _ | with_reducible exact (K5.far (by omega) _ _ _).alloc _ | with_reducible exact ((K5.alloc _).alloc _).far (by omega) _ _ _)
            clear hK K hHeld
            have hHeld := hHeld2
            clear hHeld2
            try simp only [Act.put, List.setIfInBounds_toArray, List.set_cons_zero, List.set_cons_succ]
            refine wpAnyH_ready (rs := [6]) (by kernel_rfl) (by simp) ?rdy5051
            refine (AllReadyH.cons (List.getElem?_toArray.trans rfl) (fun K hK => ?stp5051_6) AllReadyH.nil)
            case stp5051_6 =>
              go_simp
              go_wp2_with fail
              refine hK.out _ _ ?hSn5052 (fun hHeld2 => ?rest5052)
              case hSn5052 => (first | with_reducible exact R0.drew | with_reducible exact (R0.alloc _).drew | with_reducible exact ((R0.alloc _).alloc _).drew | with_reducible exact hHeld.below hb4 | with_reducible exact hHeld.below hb5 | with_reducible exact hHeld.alloc _ | with_reducible exact hHeld.far (by omega) _ _ _ | with_reducible exact K5.alloc _ | with_reducible exact (K5.alloc _).alloc _ | with_reducible exact (K5.alloc _).far (by omega) _ _ _ | with_reducible exact (K5.far (by omega) _ _ _).alloc _ | with_reducible exact ((K5.alloc _).alloc _).far (by omega) _ _ _)
              clear hK K hHeld
              have hHeld := hHeld2
              clear hHeld2
              try simp only [Act.put, List.setIfInBounds_toArray, List.set_cons_zero, List.set_cons_succ]
              refine wpAnyH_ready (rs := [7]) (by kernel_rfl) (by simp) ?rdy5053
              refine (AllReadyH.cons (List.getElem?_toArray.trans rfl) (fun K hK => ?stp5053_7) AllReadyH.nil)
              case stp5053_7 =>
                go_simp
                go_wp2_with fail
                refine hK.out _ _ ?hSn5054 (fun hHeld2 => ?rest5054)
                case hSn5054 => (first | with_reducible exact R0.drew | with_reducible exact (R0.alloc _).drew | with_reducible exact ((R0.alloc _).alloc _).drew | with_reducible exact hHeld.below hb4 | with_reducible exact hHeld.below hb5 | with_reducible exact hHeld.alloc _ | with_reducible exact hHeld.far (by omega) _ _ _ | with_reducible exact K5.alloc _ | with_reducible exact (K5.alloc _).alloc _ | with_reducible exact (K5.alloc _).far (by omega) _ _ _ | with_reducible exact (K5.far (by omega) _ _ _).alloc _ | with_reducible exact ((K5.alloc _).alloc _).far (by omega) _ _ _)
                clear hK K hHeld
                have hHeld := hHeld2
                clear hHeld2
                try simp only [Act.put, List.setIfInBounds_toArray, List.set_cons_zero, List.set_cons_succ]
                refine wpAnyH_done (by kernel_rfl) ?_ _
                go_wp2_with fail
                go_meet
                case rel => exact ⟨_, _, rfl, rfl, (by (repeat (first | with_reducible exact Blk.new _ _ _ | with_reducible exact Blk.newB _ _ _ _ | with_reducible exact Blk.news3 _ _ _ _ _ _ _ _ _ | with_reducible exact U5 | with_reducible exact V5 | with_reducible exact X5 | with_reducible exact Y5 | with_reducible refine Blk.put3 (x := .bool false) (y := .int .u64 0) (z := .int .u64 0) ?_ _ _ _ | with_reducible refine Blk.far3 ?_ (by omega) _ _ _ | with_reducible refine Blk.alloc ?_ _))), (by (repeat (first | with_reducible exact Blk.new _ _ _ | with_reducible exact Blk.newB _ _ _ _ | with_reducible exact Blk.news3 _ _ _ _ _ _ _ _ _ | with_reducible exact U5 | with_reducible exact V5 | with_reducible exact X5 | with_reducible exact Y5 | with_reducible refine Blk.put3 (x := .bool false) (y := .int .u64 0) (z := .int .u64 0) ?_ _ _ _ | with_reducible refine Blk.far3 ?_ (by omega) _ _ _ | with_reducible refine Blk.alloc ?_ _))), hHeld⟩
    case stp5004_4 =>
      go_simp
      go_wp2_with fail
      refine hK.out _ _ ?hSn5055 (fun hHeld2 => ?rest5055)
      case hSn5055 => (first | with_reducible exact R0.drew | with_reducible exact (R0.alloc _).drew | with_reducible exact ((R0.alloc _).alloc _).drew | with_reducible exact hHeld.below hb4 | with_reducible exact hHeld.below hb5 | with_reducible exact hHeld.alloc _ | with_reducible exact hHeld.far (by omega) _ _ _ | with_reducible exact K5.alloc _ | with_reducible exact (K5.alloc _).alloc _ | with_reducible exact (K5.alloc _).far (by omega) _ _ _ | with_reducible exact (K5.far (by omega) _ _ _).alloc _ | with_reducible exact ((K5.alloc _).alloc _).far (by omega) _ _ _)
      clear hK K hHeld
      have hHeld := hHeld2
      clear hHeld2
      try simp only [Act.put, List.setIfInBounds_toArray, List.set_cons_zero, List.set_cons_succ]
      refine wpAnyH_ready (rs := [1, 5]) (by kernel_rfl) (by simp) ?rdy5056
      refine (AllReadyH.cons (List.getElem?_toArray.trans rfl) (fun K hK => ?stp5056_1) (AllReadyH.cons (List.getElem?_toArray.trans rfl) (fun K hK => ?stp5056_5) AllReadyH.nil))
      case stp5056_1 =>
        go_simp
        go_wp2_with fail
        (refine (CF.out _).mono ?_; rintro e w4 ⟨rfl, hb4⟩; have s4 : w0.heap.size ≤ w4.heap.size := (by have := hb4.size; first | exact this | (simp at this; omega)); first | (have U4 : Blk w4 w0.heap.size #[.bool false, .int .u64 0, .int .u64 0] 26 := Blk.via hb4 ((Blk.new w0 #[.bool false, .int .u64 0, .int .u64 0] 26).alloc (.cells #[.bool false, .int .u64 0, .int .u64 0] 26)) rfl; have V4 : Blk w4 (w0.heap.size + 1) #[.bool false, .int .u64 0, .int .u64 0] 26 := Blk.via hb4 (Blk.newB w0 (.cells #[.bool false, .int .u64 0, .int .u64 0] 26) #[.bool false, .int .u64 0, .int .u64 0] 26) rfl; obtain ⟨u0, u1, u2, u3, u4, u5, u6⟩ := U4.three; obtain ⟨y0, y1, y2, y3, y4, y5, y6⟩ := V4.three) | (have U4 : Blk w4 w0.heap.size #[.bool false, .int .u64 0, .int .u64 0] 26 := Blk.via hb4 (Blk.new w0 #[.bool false, .int .u64 0, .int .u64 0] 26) rfl; obtain ⟨u0, u1, u2, u3, u4, u5, u6⟩ := U4.three) | skip)
        go_wp2_with fail
        refine hK.out _ _ ?hSn5057 (fun hHeld2 => ?rest5057)
        case hSn5057 => (first | with_reducible exact R0.drew | with_reducible exact (R0.alloc _).drew | with_reducible exact ((R0.alloc _).alloc _).drew | with_reducible exact hHeld.below hb4 | with_reducible exact hHeld.below hb5 | with_reducible exact hHeld.alloc _ | with_reducible exact hHeld.far (by omega) _ _ _ | with_reducible exact K5.alloc _ | with_reducible exact (K5.alloc _).alloc _ | with_reducible exact (K5.alloc _).far (by omega) _ _ _ | with_reducible exact (K5.far (by omega) _ _ _).alloc _ | with_reducible exact ((K5.alloc _).alloc _).far (by omega) _ _ _)
        clear hK K hHeld
        have hHeld := hHeld2
        clear hHeld2
        try simp only [Act.put, List.setIfInBounds_toArray, List.set_cons_zero, List.set_cons_succ]
        refine wpAnyH_ready (rs := [3, 5]) (by kernel_rfl) (by simp) ?rdy5058
        refine (AllReadyH.cons (List.getElem?_toArray.trans rfl) (fun K hK => ?stp5058_3) (AllReadyH.cons (List.getElem?_toArray.trans rfl) (fun K hK => ?stp5058_5) AllReadyH.nil))
        case stp5058_3 =>
          go_simp
          go_wp2_with fail
          (refine (CL.out _).mono ?_; rintro e w5 ⟨rfl, hb5⟩; have K5 := hHeld.below hb5; have s5 : w4.heap.size ≤ w5.heap.size := (by have := hb5.size; first | exact this | (simp at this; omega)); (first | (have U5 := U4.below hb5; obtain ⟨a0, a1, a2, a3, a4, a5, a6⟩ := U5.three) | (have U5 := Blk.via hb5 (U4.alloc (.cells #[.bool false, .int .u64 0, .int .u64 0] 26)) rfl; obtain ⟨a0, a1, a2, a3, a4, a5, a6⟩ := U5.three) | (have U5 := Blk.via hb5 ((U4.alloc (.cells #[.bool false, .int .u64 0, .int .u64 0] 26)).alloc (.cells #[.bool false, .int .u64 0, .int .u64 0] 26)) rfl; obtain ⟨a0, a1, a2, a3, a4, a5, a6⟩ := U5.three) | skip); (first | (have V5 := V4.below hb5; obtain ⟨b0, b1, b2, b3, b4, b5, b6⟩ := V5.three) | (have V5 := Blk.via hb5 (V4.alloc (.cells #[.bool false, .int .u64 0, .int .u64 0] 26)) rfl; obtain ⟨b0, b1, b2, b3, b4, b5, b6⟩ := V5.three) | (have V5 := Blk.via hb5 ((V4.alloc (.cells #[.bool false, .int .u64 0, .int .u64 0] 26)).alloc (.cells #[.bool false, .int .u64 0, .int .u64 0] 26)) rfl; obtain ⟨b0, b1, b2, b3, b4, b5, b6⟩ := V5.three) | skip); first | (have X5 : Blk w5 w4.heap.size #[.bool false, .int .u64 0, .int .u64 0] 26 := Blk.via hb5 ((Blk.new w4 #[.bool false, .int .u64 0, .int .u64 0] 26).alloc (.cells #[.bool false, .int .u64 0, .int .u64 0] 26)) rfl; have Y5 : Blk w5 (w4.heap.size + 1) #[.bool false, .int .u64 0, .int .u64 0] 26 := Blk.via hb5 (Blk.newB w4 (.cells #[.bool false, .int .u64 0, .int .u64 0] 26) #[.bool false, .int .u64 0, .int .u64 0] 26) rfl; obtain ⟨p0, p1, p2, p3, p4, p5, p6⟩ := X5.three; obtain ⟨q0, q1, q2, q3, q4, q5, q6⟩ := Y5.three) | (have X5 : Blk w5 w4.heap.size #[.bool false, .int .u64 0, .int .u64 0] 26 := Blk.via hb5 (Blk.new w4 #[.bool false, .int .u64 0, .int .u64 0] 26) rfl; obtain ⟨p0, p1, p2, p3, p4, p5, p6⟩ := X5.three) | skip)
          go_wp2_with fail
          refine hK.out _ _ ?hSn5059 (fun hHeld2 => ?rest5059)
          case hSn5059 => (first | with_reducible exact R0.drew | with_reducible exact (R0.alloc _).drew | with_reducible exact ((R0.alloc _).alloc _).drew | with_reducible exact hHeld.below hb4 | with_reducible exact hHeld.below hb5 | with_reducible exact hHeld.alloc _ | with_reducible exact hHeld.far (by omega) _ _ _ | with_reducible exact K5.alloc _ | with_reducible exact (K5.alloc _).alloc _ | with_reducible exact (K5.alloc _).far (by omega) _ _ _ | with_reducible exact (K5.far (by omega) _ _ _).alloc _ | with_reducible exact ((K5.alloc _).alloc _).far (by omega) _ _ _)
          clear hK K hHeld
          have hHeld := hHeld2
          clear hHeld2
          try simp only [Act.put, List.setIfInBounds_toArray, List.set_cons_zero, List.set_cons_succ]
          refine wpAnyH_ready (rs := [5]) (by kernel_rfl) (by simp) ?rdy5060
          refine (AllReadyH.cons (List.getElem?_toArray.trans rfl) (fun K hK => ?stp5060_5) AllReadyH.nil)
          case stp5060_5 =>
            go_simp
            go_wp2_with fail
            refine hK.out _ _ ?hSn5061 (fun hHeld2 => ?rest5061)
            case hSn5061 => (first | with_reducible exact R0.drew | with_reducible exact (R0.alloc _).drew | with_reducible exact ((R0.alloc _).alloc _).drew | with_reducible exact hHeld.below hb4 | with_reducible exact hHeld.below hb5 | with_reducible exact hHeld.alloc _ | with_reducible exact hHeld.far (by omega) _ _ _ | with_reducible exact K5.alloc _ | with_reducible exact (K5.alloc _).alloc _ | with_reducible exact (K5.alloc _).far (by omega) _ _ _ | with_reducible exact (K5.far (by omega) _ _ _).alloc _ | with_reducible exact ((K5.alloc _).alloc _).far (by omega) _ _ _)
            clear hK K hHeld
            have hHeld := hHeld2
            clear hHeld2
            try simp only [Act.put, List.setIfInBounds_toArray, List.set_cons_zero, List.set_cons_succ]
            refine wpAnyH_ready (rs := [6]) (by kernel_rfl) (by simp) ?rdy5062
            refine (AllReadyH.cons (List.getElem?_toArray.trans rfl) (fun K hK => ?stp5062_6) AllReadyH.nil)
            case stp5062_6 =>
              go_simp
              go_wp2_with fail
              refine hK.out _ _ ?hSn5063 (fun hHeld2 => ?rest5063)
              case hSn5063 => (first | with_reducible exact R0.drew | with_reducible exact (R0.alloc _).drew | with_reducible exact ((R0.alloc _).alloc _).drew | with_reducible exact hHeld.below hb4 | with_reducible exact hHeld.below hb5 | with_reducible exact hHeld.alloc _ | with_reducible exact hHeld.far (by omega) _ _ _ | with_reducible exact K5.alloc _ | with_reducible exact (K5.alloc _).alloc _ | with_reducible exact (K5.alloc _).far (by omega) _ _ _ | with_reducible exact (K5.far (by omega) _ _ _).alloc _ | with_reducible exact ((K5.alloc _).alloc _).far (by omega) _ _ _)
              clear hK K hHeld
              have hHeld := hHeld2
              clear hHeld2
              try simp only [Act.put, List.setIfInBounds_toArray, List.set_cons_zero, List.set_cons_succ]
              refine wpAnyH_ready (rs := [7]) (by kernel_rfl) (by simp) ?rdy5064
              refine (AllReadyH.cons (List.getElem?_toArray.trans rfl) (fun K hK => ?stp5064_7) AllReadyH.nil)
              case stp5064_7 =>
                go_simp
                go_wp2_with fail
                refine hK.out _ _ ?hSn5065 (fun hHeld2 => ?rest5065)
                case hSn5065 => (first | with_reducible exact R0.drew | with_reducible exact (R0.alloc _).drew | with_reducible exact ((R0.alloc _).alloc _).drew | with_reducible exact hHeld.below hb4 | with_reducible exact hHeld.below hb5 | with_reducible exact hHeld.alloc _ | with_reducible exact hHeld.far (by omega) _ _ _ | with_reducible exact K5.alloc _ | with_reducible exact (K5.alloc _).alloc _ | with_reducible exact (K5.alloc _).far (by omega) _ _ _ | with_reducible exact (K5.far (by omega) _ _ _).alloc _ | with_reducible exact ((K5.alloc _).alloc _).far (by omega) _ _ _)
                clear hK K hHeld
                have hHeld := hHeld2
                clear hHeld2
                try simp only [Act.put, List.setIfInBounds_toArray, List.set_cons_zero, List.set_cons_succ]
                refine wpAnyH_done (by kernel_rfl) ?_ _
                go_wp2_with fail
                go_meet
                case rel => exact ⟨_, _, rfl, rfl, (by (repeat (first | with_reducible exact Blk.new _ _ _ | with_reducible exact Blk.newB _ _ _ _ | with_reducible exact Blk.news3 _ _ _ _ _ _ _ _ _ | with_reducible exact U5 | with_reducible exact V5 | with_reducible exact X5 | with_reducible exact Y5 | with_reducible refine Blk.put3 (x := .bool false) (y := .int .u64 0) (z := .int .u64 0) ?_ _ _ _ | with_reducible refine Blk.far3 ?_ (by omega) _ _ _ | with_reducible refine Blk.alloc ?_ _))), (by (repeat (first | with_reducible exact Blk.new _ _ _ | with_reducible exact Blk.newB _ _ _ _ | with_reducible exact Blk.news3 _ _ _ _ _ _ _ _ _ | with_reducible exact U5 | with_reducible exact V5 | with_reducible exact X5 | with_reducible exact Y5 | with_reducible refine Blk.put3 (x := .bool false) (y := .int .u64 0) (z := .int .u64 0) ?_ _ _ _ | with_reducible refine Blk.far3 ?_ (by omega) _ _ _ | with_reducible refine Blk.alloc ?_ _))), hHeld⟩
        case stp5058_5 =>
          go_simp
          go_wp2_with fail
          refine hK.out _ _ ?hSn5066 (fun hHeld2 => ?rest5066)
          case hSn5066 => (first | with_reducible exact R0.drew | with_reducible exact (R0.alloc _).drew | with_reducible exact ((R0.alloc _).alloc _).drew | with_reducible exact hHeld.below hb4 | with_reducible exact hHeld.below hb5 | with_reducible exact hHeld.alloc _ | with_reducible exact hHeld.far (by omega) _ _ _ | with_reducible exact K5.alloc _ | with_reducible exact (K5.alloc _).alloc _ | with_reducible exact (K5.alloc _).far (by omega) _ _ _ | with_reducible exact (K5.far (by omega) _ _ _).alloc _ | with_reducible exact ((K5.alloc _).alloc _).far (by omega) _ _ _)
          clear hK K hHeld
          have hHeld := hHeld2
          clear hHeld2
          try simp only [Act.put, List.setIfInBounds_toArray, List.set_cons_zero, List.set_cons_succ]
          refine wpAnyH_ready (rs := [3]) (by kernel_rfl) (by simp) ?rdy5067
          refine (AllReadyH.cons (List.getElem?_toArray.trans rfl) (fun K hK => ?stp5067_3) AllReadyH.nil)
          case stp5067_3 =>
            go_simp
            go_wp2_with fail
            (refine (CL.out _).mono ?_; rintro e w5 ⟨rfl, hb5⟩; have K5 := hHeld.below hb5; have s5 : w4.heap.size ≤ w5.heap.size := (by have := hb5.size; first | exact this | (simp at this; omega)); (first | (have U5 := U4.below hb5; obtain ⟨a0, a1, a2, a3, a4, a5, a6⟩ := U5.three) | (have U5 := Blk.via hb5 (U4.alloc (.cells #[.bool false, .int .u64 0, .int .u64 0] 26)) rfl; obtain ⟨a0, a1, a2, a3, a4, a5, a6⟩ := U5.three) | (have U5 := Blk.via hb5 ((U4.alloc (.cells #[.bool false, .int .u64 0, .int .u64 0] 26)).alloc (.cells #[.bool false, .int .u64 0, .int .u64 0] 26)) rfl; obtain ⟨a0, a1, a2, a3, a4, a5, a6⟩ := U5.three) | skip); (first | (have V5 := V4.below hb5; obtain ⟨b0, b1, b2, b3, b4, b5, b6⟩ := V5.three) | (have V5 := Blk.via hb5 (V4.alloc (.cells #[.bool false, .int .u64 0, .int .u64 0] 26)) rfl; obtain ⟨b0, b1, b2, b3, b4, b5, b6⟩ := V5.three) | (have V5 := Blk.via hb5 ((V4.alloc (.cells #[.bool false, .int .u64 0, .int .u64 0] 26)).alloc (.cells #[.bool false, .int .u64 0, .int .u64 0] 26)) rfl; obtain ⟨b0, b1, b2, b3, b4, b5, b6⟩ := V5.three) | skip); first | (have X5 : Blk w5 w4.heap.size #[.bool false, .int .u64 0, .int .u64 0] 26 := Blk.via hb5 ((Blk.new w4 #[.bool false, .int .u64 0, .int .u64 0] 26).alloc (.cells #[.bool false, .int .u64 0, .int .u64 0] 26)) rfl; have Y5 : Blk w5 (w4.heap.size + 1) #[.bool false, .int .u64 0, .int .u64 0] 26 := Blk.via hb5 (Blk.newB w4 (.cells #[.bool false, .int .u64 0, .int .u64 0] 26) #[.bool false, .int .u64 0, .int .u64 0] 26) rfl; obtain ⟨p0, p1, p2, p3, p4, p5, p6⟩ := X5.three; obtain ⟨q0, q1, q2, q3, q4, q5, q6⟩ := Y5.three) | (have X5 : Blk w5 w4.heap.size #[.bool false, .int .u64 0, .int .u64 0] 26 := Blk.via hb5 (Blk.new w4 #[.bool false, .int .u64 0, .int .u64 0] 26) rfl; obtain ⟨p0, p1, p2, p3, p4, p5, p6⟩ := X5.three) | skip)
            go_wp2_with fail
            refine hK.out _ _ ?hSn5068 (fun hHeld2 => ?rest5068)
            case hSn5068 => (first | with_reducible exact R0.drew | with_reducible exact (R0.alloc _).drew | with_reducible exact ((R0.alloc _).alloc _).drew | with_reducible exact hHeld.below hb4 | with_reducible exact hHeld.below hb5 | with_reducible exact hHeld.alloc _ | with_reducible exact hHeld.far (by omega) _ _ _ | with_reducible exact K5.alloc _ | with_reducible exact (K5.alloc _).alloc _ | with_reducible exact (K5.alloc _).far (by omega) _ _ _ | with_reducible exact (K5.far (by omega) _ _ _).alloc _ | with_reducible exact ((K5.alloc _).alloc _).far (by omega) _ _ _)
            clear hK K hHeld
            have hHeld := hHeld2
            clear hHeld2
            try simp only [Act.put, List.setIfInBounds_toArray, List.set_cons_zero, List.set_cons_succ]
            refine wpAnyH_ready (rs := [6]) (by kernel_rfl) (by simp) ?rdy5069
            refine (AllReadyH.cons (List.getElem?_toArray.trans rfl) (fun K hK => ?stp5069_6) AllReadyH.nil)
            case stp5069_6 =>
              go_simp
              go_wp2_with fail
              refine hK.out _ _ ?hSn5070 (fun hHeld2 => ?rest5070)
              case hSn5070 => (first | with_reducible exact R0.drew | with_reducible exact (R0.alloc _).drew | with_reducible exact ((R0.alloc _).alloc _).drew | with_reducible exact hHeld.below hb4 | with_reducible exact hHeld.below hb5 | with_reducible exact hHeld.alloc _ | with_reducible exact hHeld.far (by omega) _ _ _ | with_reducible exact K5.alloc _ | with_reducible exact (K5.alloc _).alloc _ | with_reducible exact (K5.alloc _).far (by omega) _ _ _ | with_reducible exact (K5.far (by omega) _ _ _).alloc _ | with_reducible exact ((K5.alloc _).alloc _).far (by omega) _ _ _)
              clear hK K hHeld
              have hHeld := hHeld2
              clear hHeld2
              try simp only [Act.put, List.setIfInBounds_toArray, List.set_cons_zero, List.set_cons_succ]
              refine wpAnyH_ready (rs := [7]) (by kernel_rfl) (by simp) ?rdy5071
              refine (AllReadyH.cons (List.getElem?_toArray.trans rfl) (fun K hK => ?stp5071_7) AllReadyH.nil)
              case stp5071_7 =>
                go_simp
                go_wp2_with fail
                refine hK.out _ _ ?hSn5072 (fun hHeld2 => ?rest5072)
                case hSn5072 => (first | with_reducible exact R0.drew | with_reducible exact (R0.alloc _).drew | with_reducible exact ((R0.alloc _).alloc _).drew | with_reducible exact hHeld.below hb4 | with_reducible exact hHeld.below hb5 | with_reducible exact hHeld.alloc _ | with_reducible exact hHeld.far (by omega) _ _ _ | with_reducible exact K5.alloc _ | with_reducible exact (K5.alloc _).alloc _ | with_reducible exact (K5.alloc _).far (by omega) _ _ _ | with_reducible exact (K5.far (by omega) _ _ _).alloc _ | with_reducible exact ((K5.alloc _).alloc _).far (by omega) _ _ _)
                clear hK K hHeld
                have hHeld := hHeld2
                clear hHeld2
                try simp only [Act.put, List.setIfInBounds_toArray, List.set_cons_zero, List.set_cons_succ]
                refine wpAnyH_done (by kernel_rfl) ?_ _
                go_wp2_with fail
                go_meet
                case rel => exact ⟨_, _, rfl, rfl, (by (repeat (first | with_reducible exact Blk.new _ _ _ | with_reducible exact Blk.newB _ _ _ _ | with_reducible exact Blk.news3 _ _ _ _ _ _ _ _ _ | with_reducible exact U5 | with_reducible exact V5 | with_reducible exact X5 | with_reducible exact Y5 | with_reducible refine Blk.put3 (x := .bool false) (y := .int .u64 0) (z := .int .u64 0) ?_ _ _ _ | with_reducible refine Blk.far3 ?_ (by omega) _ _ _ | with_reducible refine Blk.alloc ?_ _))), (by (repeat (first | with_reducible exact Blk.new _ _ _ | with_reducible exact Blk.newB _ _ _ _ | with_reducible exact Blk.news3 _ _ _ _ _ _ _ _ _ | with_reducible exact U5 | with_reducible exact V5 | with_reducible exact X5 | with_reducible exact Y5 | with_reducible refine Blk.put3 (x := .bool false) (y := .int .u64 0) (z := .int .u64 0) ?_ _ _ _ | with_reducible refine Blk.far3 ?_ (by omega) _ _ _ | with_reducible refine Blk.alloc ?_ _))), hHeld⟩
      case stp5056_5 =>
        go_simp
        go_wp2_with fail
        refine hK.out _ _ ?hSn5073 (fun hHeld2 => ?rest5073)
        case hSn5073 => (first | with_reducible exact R0.drew | with_reducible exact (R0.alloc _).drew | with_reducible exact ((R0.alloc _).alloc _).drew | with_reducible exact hHeld.below hb4 | with_reducible exact hHeld.below hb5 | with_reducible exact hHeld.alloc _ | with_reducible exact hHeld.far (by omega) _ _ _ | with_reducible exact K5.alloc _ | with_reducible exact (K5.alloc _).alloc _ | with_reducible exact (K5.alloc _).far (by omega) _ _ _ | with_reducible exact (K5.far (by omega) _ _ _).alloc _ | with_reducible exact ((K5.alloc _).alloc _).far (by omega) _ _ _)
        clear hK K hHeld
        have hHeld := hHeld2
        clear hHeld2
        try simp only [Act.put, List.setIfInBounds_toArray, List.set_cons_zero, List.set_cons_succ]
        refine wpAnyH_ready (rs := [1]) (by kernel_rfl) (by simp) ?rdy5074
        refine (AllReadyH.cons (List.getElem?_toArray.trans rfl) (fun K hK => ?stp5074_1) AllReadyH.nil)
        case stp5074_1 =>
          go_simp
          go_wp2_with fail
          (refine (CF.out _).mono ?_; rintro e w4 ⟨rfl, hb4⟩; have s4 : w0.heap.size ≤ w4.heap.size := (by have := hb4.size; first | exact this | (simp at this; omega)); first | (have U4 : Blk w4 w0.heap.size #[.bool false, .int .u64 0, .int .u64 0] 26 := Blk.via hb4 ((Blk.new w0 #[.bool false, .int .u64 0, .int .u64 0] 26).alloc (.cells #[.bool false, .int .u64 0, .int .u64 0] 26)) rfl; have V4 : Blk w4 (w0.heap.size + 1) #[.bool false, .int .u64 0, .int .u64 0] 26 := Blk.via hb4 (Blk.newB w0 (.cells #[.bool false, .int .u64 0, .int .u64 0] 26) #[.bool false, .int .u64 0, .int .u64 0] 26) rfl; obtain ⟨u0, u1, u2, u3, u4, u5, u6⟩ := U4.three; obtain ⟨y0, y1, y2, y3, y4, y5, y6⟩ := V4.three) | (have U4 : Blk w4 w0.heap.size #[.bool false, .int .u64 0, .int .u64 0] 26 := Blk.via hb4 (Blk.new w0 #[.bool false, .int .u64 0, .int .u64 0] 26) rfl; obtain ⟨u0, u1, u2, u3, u4, u5, u6⟩ := U4.three) | skip)
          go_wp2_with fail
          refine hK.out _ _ ?hSn5075 (fun hHeld2 => ?rest5075)
          case hSn5075 => (first | with_reducible exact R0.drew | with_reducible exact (R0.alloc _).drew | with_reducible exact ((R0.alloc _).alloc _).drew | with_reducible exact hHeld.below hb4 | with_reducible exact hHeld.below hb5 | with_reducible exact hHeld.alloc _ | with_reducible exact hHeld.far (by omega) _ _ _ | with_reducible exact K5.alloc _ | with_reducible exact (K5.alloc _).alloc _ | with_reducible exact (K5.alloc _).far (by omega) _ _ _ | with_reducible exact (K5.far (by omega) _ _ _).alloc _ | with_reducible exact ((K5.alloc _).alloc _).far (by omega) _ _ _)
          clear hK K hHeld
          have hHeld := hHeld2
          clear hHeld2
          try simp only [Act.put, List.setIfInBounds_toArray, List.set_cons_zero, List.set_cons_succ]
          refine wpAnyH_ready (rs := [3]) (by kernel_rfl) (by simp) ?rdy5076
          refine (AllReadyH.cons (List.getElem?_toArray.trans rfl) (fun K hK => ?stp5076_3) AllReadyH.nil)
          case stp5076_3 =>
            go_simp
            go_wp2_with fail
            (refine (CL.out _).mono ?_; rintro e w5 ⟨rfl, hb5⟩; have K5 := hHeld.below hb5; have s5 : w4.heap.size ≤ w5.heap.size := (by have := hb5.size; first | exact this | (simp at this; omega)); (first | (have U5 := U4.below hb5; obtain ⟨a0, a1, a2, a3, a4, a5, a6⟩ := U5.three) | (have U5 := Blk.via hb5 (U4.alloc (.cells #[.bool false, .int .u64 0, .int .u64 0] 26)) rfl; obtain ⟨a0, a1, a2, a3, a4, a5, a6⟩ := U5.three) | (have U5 := Blk.via hb5 ((U4.alloc (.cells #[.bool false, .int .u64 0, .int .u64 0] 26)).alloc (.cells #[.bool false, .int .u64 0, .int .u64 0] 26)) rfl; obtain ⟨a0, a1, a2, a3, a4, a5, a6⟩ := U5.three) | skip); (first | (have V5 := V4.below hb5; obtain ⟨b0, b1, b2, b3, b4, b5, b6⟩ := V5.three) | (have V5 := Blk.via hb5 (V4.alloc (.cells #[.bool false, .int .u64 0, .int .u64 0] 26)) rfl; obtain ⟨b0, b1, b2, b3, b4, b5, b6⟩ := V5.three) | (have V5 := Blk.via hb5 ((V4.alloc (.cells #[.bool false, .int .u64 0, .int .u64 0] 26)).alloc (.cells #[.bool false, .int .u64 0, .int .u64 0] 26)) rfl; obtain ⟨b0, b1, b2, b3, b4, b5, b6⟩ := V5.three) | skip); first | (have X5 : Blk w5 w4.heap.size #[.bool false, .int .u64 0, .int .u64 0] 26 := Blk.via hb5 ((Blk.new w4 #[.bool false, .int .u64 0, .int .u64 0] 26).alloc (.cells #[.bool false, .int .u64 0, .int .u64 0] 26)) rfl; have Y5 : Blk w5 (w4.heap.size + 1) #[.bool false, .int .u64 0, .int .u64 0] 26 := Blk.via hb5 (Blk.newB w4 (.cells #[.bool false, .int .u64 0, .int .u64 0] 26) #[.bool false, .int .u64 0, .int .u64 0] 26) rfl; obtain ⟨p0, p1, p2, p3, p4, p5, p6⟩ := X5.three; obtain ⟨q0, q1, q2, q3, q4, q5, q6⟩ := Y5.three) | (have X5 : Blk w5 w4.heap.size #[.bool false, .int .u64 0, .int .u64 0] 26 := Blk.via hb5 (Blk.new w4 #[.bool false, .int .u64 0, .int .u64 0] 26) rfl; obtain ⟨p0, p1, p2, p3, p4, p5, p6⟩ := X5.three) | skip)
            go_wp2_with fail
            refine hK.out _ _ ?hSn5077 (fun hHeld2 => ?rest5077)
            case hSn5077 => (first | with_reducible exact R0.drew | with_reducible exact (R0.alloc _).drew | with_reducible exact ((R0.alloc _).alloc _).drew | with_reducible exact hHeld.below hb4 | with_reducible exact hHeld.below hb5 | with_reducible exact hHeld.alloc _ | with_reducible exact hHeld.far (by omega) _ _ _ | with_reducible exact K5.alloc _ | with_reducible exact (K5.alloc _).alloc _ | with_reducible exact (K5.alloc _).far (by omega) _ _ _ | with_reducible exact (K5.far (by omega) _ _ _).alloc _ | with_reducible exact ((K5.alloc _).alloc _).far (by omega) _ _ _)
            clear hK K hHeld
            have hHeld := hHeld2
            clear hHeld2
            try simp only [Act.put, List.setIfInBounds_toArray, List.set_cons_zero, List.set_cons_succ]
            refine wpAnyH_ready (rs := [6]) (by kernel_rfl) (by simp) ?rdy5078
            refine (AllReadyH.cons (List.getElem?_toArray.trans rfl) (fun K hK => ?stp5078_6) AllReadyH.nil)
            case stp5078_6 =>
              go_simp
              go_wp2_with fail
              refine hK.out _ _ ?hSn5079 (fun hHeld2 => ?rest5079)
              case hSn5079 => (first | with_reducible exact R0.drew | with_reducible exact (R0.alloc _).drew | with_reducible exact ((R0.alloc _).alloc _).drew | with_reducible exact hHeld.below hb4 | with_reducible exact hHeld.below hb5 | with_reducible exact hHeld.alloc _ | with_reducible exact hHeld.far (by omega) _ _ _ | with_reducible exact K5.alloc _ | with_reducible exact (K5.alloc _).alloc _ | with_reducible exact (K5.alloc _).far (by omega) _ _ _ | with_reducible exact (K5.far (by omega) _ _ _).alloc _ | with_reducible exact ((K5.alloc _).alloc _).far (by omega) _ _ _)
              clear hK K hHeld
              have hHeld := hHeld2
              clear hHeld2
              try simp only [Act.put, List.setIfInBounds_toArray, List.set_cons_zero, List.set_cons_succ]
              refine wpAnyH_ready (rs := [7]) (by kernel_rfl) (by simp) ?rdy5080
              refine (AllReadyH.cons (List.getElem?_toArray.trans rfl) (fun K hK => ?stp5080_7) AllReadyH.nil)
              case stp5080_7 =>
                go_simp
                go_wp2_with fail
                refine hK.out _ _ ?hSn5081 (fun hHeld2 => ?rest5081)
                case hSn5081 => (first | with_reducible exact R0.drew | with_reducible exact (R0.alloc _).drew | with_reducible exact ((R0.alloc _).alloc _).drew | with_reducible exact hHeld.below hb4 | with_reducible exact hHeld.below hb5 | with_reducible exact hHeld.alloc _ | with_reducible exact hHeld.far (by omega) _ _ _ | with_reducible exact K5.alloc _ | with_reducible exact (K5.alloc _).alloc _ | with_reducible exact (K5.alloc _).far (by omega) _ _ _ | with_reducible exact (K5.far (by omega) _ _ _).alloc _ | with_reducible exact ((K5.alloc _).alloc _).far (by omega) _ _ _)
                clear hK K hHeld
                have hHeld := hHeld2
                clear hHeld2
                try simp only [Act.put, List.setIfInBounds_toArray, List.set_cons_zero, List.set_cons_succ]
                refine wpAnyH_done (by kernel_rfl) ?_ _
                go_wp2_with fail
                go_meet
                case rel => exact ⟨_, _, rfl, rfl, (by (repeat (first | with_reducible exact Blk.new _ _ _ | with_reducible exact Blk.newB _ _ _ _ | with_reducible exact Blk.news3 _ _ _ _ _ _ _ _ _ | with_reducible exact U5 | with_reducible exact V5 | with_reducible exact X5 | with_reducible exact Y5 | with_reducible refine Blk.put3 (x := .bool false) (y := .int .u64 0) (z := .int .u64 0) ?_ _ _ _ | with_reducible refine Blk.far3 ?_ (by omega) _ _ _ | with_reducible refine Blk.alloc ?_ _))), (by (repeat (first | with_reducible exact Blk.new _ _ _ | with_reducible exact Blk.newB _ _ _ _ | with_reducible exact Blk.news3 _ _ _ _ _ _ _ _ _ | with_reducible exact U5 | with_reducible exact V5 | with_reducible exact X5 | with_reducible exact Y5 | with_reducible refine Blk.put3 (x := .bool false) (y := .int .u64 0) (z := .int .u64 0) ?_ _ _ _ | with_reducible refine Blk.far3 ?_ (by omega) _ _ _ | with_reducible refine Blk.alloc ?_ _))), hHeld⟩
    case stp5004_5 =>
      go_simp
      go_wp2_with fail
      refine hK.out _ _ ?hSn5082 (fun hHeld2 => ?rest5082)
      case hSn5082 => (first | with_reducible exact R0.drew | with_reducible exact (R0.alloc _).drew | with_reducible exact ((R0.alloc _).alloc _).drew | with_reducible exact hHeld.below hb4 | with_reducible exact hHeld.below hb5 | with_reducible exact hHeld.alloc _ | with_reducible exact hHeld.far (by omega) _ _ _ | with_reducible exact K5.alloc _ | with_reducible exact (K5.alloc _).alloc _ | with_reducible exact (K5.alloc _).far (by omega) _ _ _ | with_reducible exact (K5.far (by omega) _ _ _).alloc _ | with_reducible exact ((K5.alloc _).alloc _).far (by omega) _ _ _)
      clear hK K hHeld
      have hHeld := hHeld2
      clear hHeld2
      try simp only [Act.put, List.setIfInBounds_toArray, List.set_cons_zero, List.set_cons_succ]
      refine wpAnyH_ready (rs := [1, 4]) (by kernel_rfl) (by simp) ?rdy5083
      refine (AllReadyH.cons (List.getElem?_toArray.trans rfl) (fun K hK => ?stp5083_1) (AllReadyH.cons (List.getElem?_toArray.trans rfl) (fun K hK => ?stp5083_4) AllReadyH.nil))
      case stp5083_1 =>
        go_simp
        go_wp2_with fail
        (refine (CF.out _).mono ?_; rintro e w4 ⟨rfl, hb4⟩; have s4 : w0.heap.size ≤ w4.heap.size := (by have := hb4.size; first | exact this | (simp at this; omega)); first | (have U4 : Blk w4 w0.heap.size #[.bool false, .int .u64 0, .int .u64 0] 26 := Blk.via hb4 ((Blk.new w0 #[.bool false, .int .u64 0, .int .u64 0] 26).alloc (.cells #[.bool false, .int .u64 0, .int .u64 0] 26)) rfl; have V4 : Blk w4 (w0.heap.size + 1) #[.bool false, .int .u64 0, .int .u64 0] 26 := Blk.via hb4 (Blk.newB w0 (.cells #[.bool false, .int .u64 0, .int .u64 0] 26) #[.bool false, .int .u64 0, .int .u64 0] 26) rfl; obtain ⟨u0, u1, u2, u3, u4, u5, u6⟩ := U4.three; obtain ⟨y0, y1, y2, y3, y4, y5, y6⟩ := V4.three) | (have U4 : Blk w4 w0.heap.size #[.bool false, .int .u64 0, .int .u64 0] 26 := Blk.via hb4 (Blk.new w0 #[.bool false, .int .u64 0, .int .u64 0] 26) rfl; obtain ⟨u0, u1, u2, u3, u4, u5, u6⟩ := U4.three) | skip)
        go_wp2_with fail
        refine hK.out _ _ ?hSn5084 (fun hHeld2 => ?rest5084)
        case hSn5084 => (first | with_reducible exact R0.drew | with_reducible exact (R0.alloc _).drew | with_reducible exact ((R0.alloc _).alloc _).drew | with_reducible exact hHeld.below hb4 | with_reducible exact hHeld.below hb5 | with_reducible exact hHeld.alloc _ | with_reducible exact hHeld.far (by omega) _ _ _ | with_reducible exact K5.alloc _ | with_reducible exact (K5.alloc _).alloc _ | with_reducible exact (K5.alloc _).far (by omega) _ _ _ | with_reducible exact (K5.far (by omega) _ _ _).alloc _ | with_reducible exact ((K5.alloc _).alloc _).far (by omega) _ _ _)
        clear hK K hHeld
        have hHeld := hHeld2
        clear hHeld2
        try simp only [Act.put, List.setIfInBounds_toArray, List.set_cons_zero, List.set_cons_succ]
        refine wpAnyH_ready (rs := [3, 4]) (by kernel_rfl) (by simp) ?rdy5085
        refine (AllReadyH.cons (List.getElem?_toArray.trans rfl) (fun K hK => ?stp5085_3) (AllReadyH.cons (List.getElem?_toArray.trans rfl) (fun K hK => ?stp5085_4) AllReadyH.nil))
        case stp5085_3 =>
          go_simp
          go_wp2_with fail
          (refine (CL.out _).mono ?_; rintro e w5 ⟨rfl, hb5⟩; have K5 := hHeld.below hb5; have s5 : w4.heap.size ≤ w5.heap.size := (by have := hb5.size; first | exact this | (simp at this; omega)); (first | (have U5 := U4.below hb5; obtain ⟨a0, a1, a2, a3, a4, a5, a6⟩ := U5.three) | (have U5 := Blk.via hb5 (U4.alloc (.cells #[.bool false, .int .u64 0, .int .u64 0] 26)) rfl; obtain ⟨a0, a1, a2, a3, a4, a5, a6⟩ := U5.three) | (have U5 := Blk.via hb5 ((U4.alloc (.cells #[.bool false, .int .u64 0, .int .u64 0] 26)).alloc (.cells #[.bool false, .int .u64 0, .int .u64 0] 26)) rfl; obtain ⟨a0, a1, a2, a3, a4, a5, a6⟩ := U5.three) | skip); (first | (have V5 := V4.below hb5; obtain ⟨b0, b1, b2, b3, b4, b5, b6⟩ := V5.three) | (have V5 := Blk.via hb5 (V4.alloc (.cells #[.bool false, .int .u64 0, .int .u64 0] 26)) rfl; obtain ⟨b0, b1, b2, b3, b4, b5, b6⟩ := V5.three) | (have V5 := Blk.via hb5 ((V4.alloc (.cells #[.bool false, .int .u64 0, .int .u64 0] 26)).alloc (.cells #[.bool false, .int .u64 0, .int .u64 0] 26)) rfl; obtain ⟨b0, b1, b2, b3, b4, b5, b6⟩ := V5.three) | skip); first | (have X5 : Blk w5 w4.heap.size #[.bool false, .int .u64 0, .int .u64 0] 26 := Blk.via hb5 ((Blk.new w4 #[.bool false, .int .u64 0, .int .u64 0] 26).alloc (.cells #[.bool false, .int .u64 0, .int .u64 0] 26)) rfl; have Y5 : Blk w5 (w4.heap.size + 1) #[.bool false, .int .u64 0, .int .u64 0] 26 := Blk.via hb5 (Blk.newB w4 (.cells #[.bool false, .int .u64 0, .int .u64 0] 26) #[.bool false, .int .u64 0, .int .u64 0] 26) rfl; obtain ⟨p0, p1, p2, p3, p4, p5, p6⟩ := X5.three; obtain ⟨q0, q1, q2, q3, q4, q5, q6⟩ := Y5.three) | (have X5 : Blk w5 w4.heap.size #[.bool false, .int .u64 0, .int .u64 0] 26 := Blk.via hb5 (Blk.new w4 #[.bool false, .int .u64 0, .int .u64 0] 26) rfl; obtain ⟨p0, p1, p2, p3, p4, p5, p6⟩ := X5.three) | skip)
          go_wp2_with fail
          refine hK.out _ _ ?hSn5086 (fun hHeld2 => ?rest5086)
          case hSn5086 => (first | with_reducible exact R0.drew | with_reducible exact (R0.alloc _).drew | with_reducible exact ((R0.alloc _).alloc _).drew | with_reducible exact hHeld.below hb4 | with_reducible exact hHeld.below hb5 | with_reducible exact hHeld.alloc _ | with_reducible exact hHeld.far (by omega) _ _ _ | with_reducible exact K5.alloc _ | with_reducible exact (K5.alloc _).alloc _ | with_reducible exact (K5.alloc _).far (by omega) _ _ _ | with_reducible exact (K5.far (by omega) _ _ _).alloc _ | with_reducible exact ((K5.alloc _).alloc _).far (by omega) _ _ _)
          clear hK K hHeld
          have hHeld := hHeld2
          clear hHeld2
          try simp only [Act.put, List.setIfInBounds_toArray, List.set_cons_zero, List.set_cons_succ]
          refine wpAnyH_ready (rs := [4]) (by kernel_rfl) (by simp) ?rdy5087
          refine (AllReadyH.cons (List.getElem?_toArray.trans rfl) (fun K hK => ?stp5087_4) AllReadyH.nil)
          case stp5087_4 =>
            go_simp
            go_wp2_with fail
            refine hK.out _ _ ?hSn5088 (fun hHeld2 => ?rest5088)
            case hSn5088 => (first | with_reducible exact R0.drew | with_reducible exact (R0.alloc _).drew | with_reducible exact ((R0.alloc _).alloc _).drew | with_reducible exact hHeld.below hb4 | with_reducible exact hHeld.below hb5 | with_reducible exact hHeld.alloc _ | with_reducible exact hHeld.far (by omega) _ _ _ | with_reducible exact K5.alloc _ | with_reducible exact (K5.alloc _).alloc _ | with_reducible exact (K5.alloc _).far (by omega) _ _ _ | with_reducible exact (K5.far (by omega) _ _ _).alloc _ | with_reducible exact ((K5.alloc _).alloc _).far (by omega) _ _ _)
            clear hK K hHeld
            have hHeld := hHeld2
            clear hHeld2
            try simp only [Act.put, List.setIfInBounds_toArray, List.set_cons_zero, List.set_cons_succ]
            refine wpAnyH_ready (rs := [6]) (by kernel_rfl) (by simp) ?rdy5089
            refine (AllReadyH.cons (List.getElem?_toArray.trans rfl) (fun K hK => ?stp5089_6) AllReadyH.nil)
            case stp5089_6 =>
              go_simp
              go_wp2_with fail
              refine hK.out _ _ ?hSn5090 (fun hHeld2 => ?rest5090)
              case hSn5090 => (first | with_reducible exact R0.drew | with_reducible exact (R0.alloc _).drew | with_reducible exact ((R0.alloc _).alloc _).drew | with_reducible exact hHeld.below hb4 | with_reducible exact hHeld.below hb5 | with_reducible exact hHeld.alloc _ | with_reducible exact hHeld.far (by omega) _ _ _ | with_reducible exact K5.alloc _ | with_reducible exact (K5.alloc _).alloc _ | with_reducible exact (K5.alloc _).far (by omega) _ _ _ | with_reducible exact (K5.far (by omega) _ _ _).alloc _ | with_reducible exact ((K5.alloc _).alloc _).far (by omega) _ _ _)
              clear hK K hHeld
              have hHeld := hHeld2
              clear hHeld2
              try simp only [Act.put, List.setIfInBounds_toArray, List.set_cons_zero, List.set_cons_succ]
              refine wpAnyH_ready (rs := [7]) (by kernel_rfl) (by simp) ?rdy5091
              refine (AllReadyH.cons (List.getElem?_toArray.trans rfl) (fun K hK => ?stp5091_7) AllReadyH.nil)
              case stp5091_7 =>
                go_simp
                go_wp2_with fail
                refine hK.out _ _ ?hSn5092 (fun hHeld2 => ?rest5092)
                case hSn5092 => (first | with_reducible exact R0.drew | with_reducible exact (R0.alloc _).drew | with_reducible exact ((R0.alloc _).alloc _).drew | with_reducible exact hHeld.below hb4 | with_reducible exact hHeld.below hb5 | with_reducible exact hHeld.alloc _ | with_reducible exact hHeld.far (by omega) _ _ _ | with_reducible exact K5.alloc _ | with_reducible exact (K5.alloc _).alloc _ | with_reducible exact (K5.alloc _).far (by omega) _ _ _ | with_reducible exact (K5.far (by omega) _ _ _).alloc _ | with_reducible exact ((K5.alloc _).alloc _).far (by omega) _ _ _)
                clear hK K hHeld
                have hHeld := hHeld2
                clear hHeld2
                try simp only [Act.put, List.setIfInBounds_toArray, List.set_cons_zero, List.set_cons_succ]
                refine wpAnyH_done (by kernel_rfl) ?_ _
                go_wp2_with fail
                go_meet
                case rel => exact ⟨_, _, rfl, rfl, (by (repeat (first | with_reducible exact Blk.new _ _ _ | with_reducible exact Blk.newB _ _ _ _ | with_reducible exact Blk.news3 _ _ _ _ _ _ _ _ _ | with_reducible exact U5 | with_reducible exact V5 | with_reducible exact X5 | with_reducible exact Y5 | with_reducible refine Blk.put3 (x := .bool false) (y := .int .u64 0) (z := .int .u64 0) ?_ _ _ _ | with_reducible refine Blk.far3 ?_ (by omega) _ _ _ | with_reducible refine Blk.alloc ?_ _))), (by (repeat (first | with_reducible exact Blk.new _ _ _ | with_reducible exact Blk.newB _ _ _ _ | with_reducible exact Blk.news3 _ _ _ _ _ _ _ _ _ | with_reducible exact U5 | with_reducible exact V5 | with_reducible exact X5 | with_reducible exact Y5 | with_reducible refine Blk.put3 (x := .bool false) (y := .int .u64 0) (z := .int .u64 0) ?_ _ _ _ | with_reducible refine Blk.far3 ?_ (by omega) _ _ _ | with_reducible refine Blk.alloc ?_ _))), hHeld⟩
        case stp5085_4 =>
          go_simp
          go_wp2_with fail
          refine hK.out _ _ ?hSn5093 (fun hHeld2 => ?rest5093)
          case hSn5093 => (first | with_reducible exact R0.drew | with_reducible exact (R0.alloc _).drew | with_reducible exact ((R0.alloc _).alloc _).drew | with_reducible exact hHeld.below hb4 | with_reducible exact hHeld.below hb5 | with_reducible exact hHeld.alloc _ | with_reducible exact hHeld.far (by omega) _ _ _ | with_reducible exact K5.alloc _ | with_reducible exact (K5.alloc _).alloc _ | with_reducible exact (K5.alloc _).far (by omega) _ _ _ | with_reducible exact (K5.far (by omega) _ _ _).alloc _ | with_reducible exact ((K5.alloc _).alloc _).far (by omega) _ _ _)
          clear hK K hHeld
          have hHeld := hHeld2
          clear hHeld2
          try simp only [Act.put, List.setIfInBounds_toArray, List.set_cons_zero, List.set_cons_succ]
          refine wpAnyH_ready (rs := [3]) (by kernel_rfl) (by simp) ?rdy5094
          refine (AllReadyH.cons (List.getElem?_toArray.trans rfl) (fun K hK => ?stp5094_3) AllReadyH.nil)
          case stp5094_3 =>
            go_simp
            go_wp2_with fail
            (refine (CL.out _).mono ?_; rintro e w5 ⟨rfl, hb5⟩; have K5 := hHeld.below hb5; have s5 : w4.heap.size ≤ w5.heap.size := (by have := hb5.size; first | exact this | (simp at this; omega)); (first | (have U5 := U4.below hb5; obtain ⟨a0, a1, a2, a3, a4, a5, a6⟩ := U5.three) | (have U5 := Blk.via hb5 (U4.alloc (.cells #[.bool false, .int .u64 0, .int .u64 0] 26)) rfl; obtain ⟨a0, a1, a2, a3, a4, a5, a6⟩ := U5.three) | (have U5 := Blk.via hb5 ((U4.alloc (.cells #[.bool false, .int .u64 0, .int .u64 0] 26)).alloc (.cells #[.bool false, .int .u64 0, .int .u64 0] 26)) rfl; obtain ⟨a0, a1, a2, a3, a4, a5, a6⟩ := U5.three) | skip); (first | (have V5 := V4.below hb5; obtain ⟨b0, b1, b2, b3, b4, b5, b6⟩ := V5.three) | (have V5 := Blk.via hb5 (V4.alloc (.cells #[.bool false, .int .u64 0, .int .u64 0] 26)) rfl; obtain ⟨b0, b1, b2, b3, b4, b5, b6⟩ := V5.three) | (have V5 := Blk.via hb5 ((V4.alloc (.cells #[.bool false, .int .u64 0, .int .u64 0] 26)).alloc (.cells #[.bool false, .int .u64 0, .int .u64 0] 26)) rfl; obtain ⟨b0, b1, b2, b3, b4, b5, b6⟩ := V5.three) | skip); first | (have X5 : Blk w5 w4.heap.size #[.bool false, .int .u64 0, .int .u64 0] 26 := Blk.via hb5 ((Blk.new w4 #[.bool false, .int .u64 0, .int .u64 0] 26).alloc (.cells #[.bool false, .int .u64 0, .int .u64 0] 26)) rfl; have Y5 : Blk w5 (w4.heap.size + 1) #[.bool false, .int .u64 0, .int .u64 0] 26 := Blk.via hb5 (Blk.newB w4 (.cells #[.bool false, .int .u64 0, .int .u64 0] 26) #[.bool false, .int .u64 0, .int .u64 0] 26) rfl; obtain ⟨p0, p1, p2, p3, p4, p5, p6⟩ := X5.three; obtain ⟨q0, q1, q2, q3, q4, q5, q6⟩ := Y5.three) | (have X5 : Blk w5 w4.heap.size #[.bool false, .int .u64 0, .int .u64 0] 26 := Blk.via hb5 (Blk.new w4 #[.bool false, .int .u64 0, .int .u64 0] 26) rfl; obtain ⟨p0, p1, p2, p3, p4, p5, p6⟩ := X5.three) | skip)
            go_wp2_with fail
            refine hK.out _ _ ?hSn5095 (fun hHeld2 => ?rest5095)
            case hSn5095 => (first | with_reducible exact R0.drew | with_reducible exact (R0.alloc _).drew | with_reducible exact ((R0.alloc _).alloc _).drew | with_reducible exact hHeld.below hb4 | with_reducible exact hHeld.below hb5 | with_reducible exact hHeld.alloc _ | with_reducible exact hHeld.far (by omega) _ _ _ | with_reducible exact K5.alloc _ | with_reducible exact (K5.alloc _).alloc _ | with_reducible exact (K5.alloc _).far (by omega) _ _ _ | with_reducible exact (K5.far (by omega) _ _ _).alloc _ | with_reducible exact ((K5.alloc _).alloc _).far (by omega) _ _ _)
            clear hK K hHeld
            have hHeld := hHeld2
            clear hHeld2
            try simp only [Act.put, List.setIfInBounds_toArray, List.set_cons_zero, List.set_cons_succ]
            refine wpAnyH_ready (rs := [6]) (by kernel_rfl) (by simp) ?rdy5096
            refine (AllReadyH.cons (List.getElem?_toArray.trans rfl) (fun K hK => ?stp5096_6) AllReadyH.nil)
            case stp5096_6 =>
              go_simp
              go_wp2_with fail
              refine hK.out _ _ ?hSn5097 (fun hHeld2 => ?rest5097)
              case hSn5097 => (first | with_reducible exact R0.drew | with_reducible exact (R0.alloc _).drew | with_reducible exact ((R0.alloc _).alloc _).drew | with_reducible exact hHeld.below hb4 | with_reducible exact hHeld.below hb5 | with_reducible exact hHeld.alloc _ | with_reducible exact hHeld.far (by omega) _ _ _ | with_reducible exact K5.alloc _ | with_reducible exact (K5.alloc _).alloc _ | with_reducible exact (K5.alloc _).far (by omega) _ _ _ | with_reducible exact (K5.far (by omega) _ _ _).alloc _ | with_reducible exact ((K5.alloc _).alloc _).far (by omega) _ _ _)
              clear hK K hHeld
              have hHeld := hHeld2
              clear hHeld2
              try simp only [Act.put, List.setIfInBounds_toArray, List.set_cons_zero, List.set_cons_succ]
              refine wpAnyH_ready (rs := [7]) (by kernel_rfl) (by simp) ?rdy5098
              refine (AllReadyH.cons (List.getElem?_toArray.trans rfl) (fun K hK => ?stp5098_7) AllReadyH.nil)
              case stp5098_7 =>
                go_simp
                go_wp2_with fail
                refine hK.out _ _ ?hSn5099 (fun hHeld2 => ?rest5099)
                case hSn5099 => (first | with_reducible exact R0.drew | with_reducible exact (R0.alloc _).drew | with_reducible exact ((R0.alloc _).alloc _).drew | with_reducible exact hHeld.below hb4 | with_reducible exact hHeld.below hb5 | with_reducible exact hHeld.alloc _ | with_reducible exact hHeld.far (by omega) _ _ _ | with_reducible exact K5.alloc _ | with_reducible exact (K5.alloc _).alloc _ | with_reducible exact (K5.alloc _).far (by omega) _ _ _ | with_reducible exact (K5.far (by omega) _ _ _).alloc _ | with_reducible exact ((K5.alloc _).alloc _).far (by omega) _ _ _)
                clear hK K hHeld
                have hHeld := hHeld2
                clear hHeld2
                try simp only [Act.put, List.setIfInBounds_toArray, List.set_cons_zero, List.set_cons_succ]
                refine wpAnyH_done (by kernel_rfl) ?_ _
                go_wp2_with fail
                go_meet
                case rel => exact ⟨_, _, rfl, rfl, (by (repeat (first | with_reducible exact Blk.new _ _ _ | with_reducible exact Blk.newB _ _ _ _ | with_reducible exact Blk.news3 _ _ _ _ _ _ _ _ _ | with_reducible exact U5 | with_reducible exact V5 | with_reducible exact X5 | with_reducible exact Y5 | with_reducible refine Blk.put3 (x := .bool false) (y := .int .u64 0) (z := .int .u64 0) ?_ _ _ _ | with_reducible refine Blk.far3 ?_ (by omega) _ _ _ | with_reducible refine Blk.alloc ?_ _))), (by (repeat (first | with_reducible exact Blk.new _ _ _ | with_reducible exact Blk.newB _ _ _ _ | with_reducible exact Blk.news3 _ _ _ _ _ _ _ _ _ | with_reducible exact U5 | with_reducible exact V5 | with_reducible exact X5 | with_reducible exact Y5 | with_reducible refine Blk.put3 (x := .bool false) (y := .int .u64 0) (z := .int .u64 0) ?_ _ _ _ | with_reducible refine Blk.far3 ?_ (by omega) _ _ _ | with_reducible refine Blk.alloc ?_ _))), hHeld⟩
      case stp5083_4 =>
        go_simp
        go_wp2_with fail
        refine hK.out _ _ ?hSn5100 (fun hHeld2 => ?rest5100)
        case hSn5100 => (first | with_reducible exact R0.drew | with_reducible exact (R0.alloc _).drew | with_reducible exact ((R0.alloc _).alloc _).drew | with_reducible exact hHeld.below hb4 | with_reducible exact hHeld.below hb5 | with_reducible exact hHeld.alloc _ | with_reducible exact hHeld.far (by omega) _ _ _ | with_reducible exact K5.alloc _ | with_reducible exact (K5.alloc _).alloc _ | with_reducible exact (K5.alloc _).far (by omega) _ _ _ | with_reducible exact (K5.far (by omega) _ _ _).alloc _ | with_reducible exact ((K5.alloc _).alloc _).far (by omega) _ _ _)
        clear hK K hHeld
        have hHeld := hHeld2
        clear hHeld2
        try simp only [Act.put, List.setIfInBounds_toArray, List.set_cons_zero, List.set_cons_succ]
        refine wpAnyH_ready (rs := [1]) (by kernel_rfl) (by simp) ?rdy5101
        refine (AllReadyH.cons (List.getElem?_toArray.trans rfl) (fun K hK => ?stp5101_1) AllReadyH.nil)
        case stp5101_1 =>
          go_simp
          go_wp2_with fail
          (refine (CF.out _).mono ?_; rintro e w4 ⟨rfl, hb4⟩; have s4 : w0.heap.size ≤ w4.heap.size := (by have := hb4.size; first | exact this | (simp at this; omega)); first | (have U4 : Blk w4 w0.heap.size #[.bool false, .int .u64 0, .int .u64 0] 26 := Blk.via hb4 ((Blk.new w0 #[.bool false, .int .u64 0, .int .u64 0] 26).alloc (.cells #[.bool false, .int .u64 0, .int .u64 0] 26)) rfl; have V4 : Blk w4 (w0.heap.size + 1) #[.bool false, .int .u64 0, .int .u64 0] 26 := Blk.via hb4 (Blk.newB w0 (.cells #[.bool false, .int .u64 0, .int .u64 0] 26) #[.bool false, .int .u64 0, .int .u64 0] 26) rfl; obtain ⟨u0, u1, u2, u3, u4, u5, u6⟩ := U4.three; obtain ⟨y0, y1, y2, y3, y4, y5, y6⟩ := V4.three) | (have U4 : Blk w4 w0.heap.size #[.bool false, .int .u64 0, .int .u64 0] 26 := Blk.via hb4 (Blk.new w0 #[.bool false, .int .u64 0, .int .u64 0] 26) rfl; obtain ⟨u0, u1, u2, u3, u4, u5, u6⟩ := U4.three) | skip)
          go_wp2_with fail
          refine hK.out _ _ ?hSn5102 (fun hHeld2 => ?rest5102)
          case hSn5102 => (first | with_reducible exact R0.drew | with_reducible exact (R0.alloc _).drew | with_reducible exact ((R0.alloc _).alloc _).drew | with_reducible exact hHeld.below hb4 | with_reducible exact hHeld.below hb5 | with_reducible exact hHeld.alloc _ | with_reducible exact hHeld.far (by omega) _ _ _ | with_reducible exact K5.alloc _ | with_reducible exact (K5.alloc _).alloc _ | with_reducible exact (K5.alloc _).far (by omega) _ _ _ | with_reducible exact (K5.far (by omega) _ _ _).alloc _ | with_reducible exact ((K5.alloc _).alloc _).far (by omega) _ _ _)
          clear hK K hHeld
          have hHeld := hHeld2
          clear hHeld2
          try simp only [Act.put, List.setIfInBounds_toArray, List.set_cons_zero, List.set_cons_succ]
          refine wpAnyH_ready (rs := [3]) (by kernel_rfl) (by simp) ?rdy5103
          refine (AllReadyH.cons (List.getElem?_toArray.trans rfl) (fun K hK => ?stp5103_3) AllReadyH.nil)
          case stp5103_3 =>
            go_simp
            go_wp2_with fail
            (refine (CL.out _).mono ?_; rintro e w5 ⟨rfl, hb5⟩; have K5 := hHeld.below hb5; have s5 : w4.heap.size ≤ w5.heap.size := (by have := hb5.size; first | exact this | (simp at this; omega)); (first | (have U5 := U4.below hb5; obtain ⟨a0, a1, a2, a3, a4, a5, a6⟩ := U5.three) | (have U5 := Blk.via hb5 (U4.alloc (.cells #[.bool false, .int .u64 0, .int .u64 0] 26)) rfl; obtain ⟨a0, a1, a2, a3, a4, a5, a6⟩ := U5.three) | (have U5 := Blk.via hb5 ((U4.alloc (.cells #[.bool false, .int .u64 0, .int .u64 0] 26)).alloc (.cells #[.bool false, .int .u64 0, .int .u64 0] 26)) rfl; obtain ⟨a0, a1, a2, a3, a4, a5, a6⟩ := U5.three) | skip); (first | (have V5 := V4.below hb5; obtain ⟨b0, b1, b2, b3, b4, b5, b6⟩ := V5.three) | (have V5 := Blk.via hb5 (V4.alloc (.cells #[.bool false, .int .u64 0, .int .u64 0] 26)) rfl; obtain ⟨b0, b1, b2, b3, b4, b5, b6⟩ := V5.three) | (have V5 := Blk.via hb5 ((V4.alloc (.cells #[.bool false, .int .u64 0, .int .u64 0] 26)).alloc (.cells #[.bool false, .int .u64 0, .int .u64 0] 26)) rfl; obtain ⟨b0, b1, b2, b3, b4, b5, b6⟩ := V5.three) | skip); first | (have X5 : Blk w5 w4.heap.size #[.bool false, .int .u64 0, .int .u64 0] 26 := Blk.via hb5 ((Blk.new w4 #[.bool false, .int .u64 0, .int .u64 0] 26).alloc (.cells #[.bool false, .int .u64 0, .int .u64 0] 26)) rfl; have Y5 : Blk w5 (w4.heap.size + 1) #[.bool false, .int .u64 0, .int .u64 0] 26 := Blk.via hb5 (Blk.newB w4 (.cells #[.bool false, .int .u64 0, .int .u64 0] 26) #[.bool false, .int .u64 0, .int .u64 0] 26) rfl; obtain ⟨p0, p1, p2, p3, p4, p5, p6⟩ := X5.three; obtain ⟨q0, q1, q2, q3, q4, q5, q6⟩ := Y5.three) | (have X5 : Blk w5 w4.heap.size #[.bool false, .int .u64 0, .int .u64 0] 26 := Blk.via hb5 (Blk.new w4 #[.bool false, .int .u64 0, .int .u64 0] 26) rfl; obtain ⟨p0, p1, p2, p3, p4, p5, p6⟩ := X5.three) | skip)
            go_wp2_with fail
            refine hK.out _ _ ?hSn5104 (fun hHeld2 => ?rest5104)
            case hSn5104 => (first | with_reducible exact R0.drew | with_reducible exact (R0.alloc _).drew | with_reducible exact ((R0.alloc _).alloc _).drew | with_reducible exact hHeld.below hb4 | with_reducible exact hHeld.below hb5 | with_reducible exact hHeld.alloc _ | with_reducible exact hHeld.far (by omega) _ _ _ | with_reducible exact K5.alloc _ | with_reducible exact (K5.alloc _).alloc _ | with_reducible exact (K5.alloc _).far (by omega) _ _ _ | with_reducible exact (K5.far (by omega) _ _ _).alloc _ | with_reducible exact ((K5.alloc _).alloc _).far (by omega) _ _ _)
            clear hK K hHeld
            have hHeld := hHeld2
            clear hHeld2
            try simp only [Act.put, List.setIfInBounds_toArray, List.set_cons_zero, List.set_cons_succ]
            refine wpAnyH_ready (rs := [6]) (by kernel_rfl) (by simp) ?rdy5105
            refine (AllReadyH.cons (List.getElem?_toArray.trans rfl) (fun K hK => ?stp5105_6) AllReadyH.nil)
            case stp5105_6 =>
              go_simp
              go_wp2_with fail
              refine hK.out _ _ ?hSn5106 (fun hHeld2 => ?rest5106)
              case hSn5106 => (first | with_reducible exact R0.drew | with_reducible exact (R0.alloc _).drew | with_reducible exact ((R0.alloc _).alloc _).drew | with_reducible exact hHeld.below hb4 | with_reducible exact hHeld.below hb5 | with_reducible exact hHeld.alloc _ | with_reducible exact hHeld.far (by omega) _ _ _ | with_reducible exact K5.alloc _ | with_reducible exact (K5.alloc _).alloc _ | with_reducible exact (K5.alloc _).far (by omega) _ _ _ | with_reducible exact (K5.far (by omega) _ _ _).alloc _ | with_reducible exact ((K5.alloc _).alloc _).far (by omega) _ _ _)
              clear hK K hHeld
              have hHeld := hHeld2
              clear hHeld2
              try simp only [Act.put, List.setIfInBounds_toArray, List.set_cons_zero, List.set_cons_succ]
              refine wpAnyH_ready (rs := [7]) (by kernel_rfl) (by simp) ?rdy5107
              refine (AllReadyH.cons (List.getElem?_toArray.trans rfl) (fun K hK => ?stp5107_7) AllReadyH.nil)
              case stp5107_7 =>
                go_simp
                go_wp2_with fail
                refine hK.out _ _ ?hSn5108 (fun hHeld2 => ?rest5108)
                case hSn5108 => (first | with_reducible exact R0.drew | with_reducible exact (R0.alloc _).drew | with_reducible exact ((R0.alloc _).alloc _).drew | with_reducible exact hHeld.below hb4 | with_reducible exact hHeld.below hb5 | with_reducible exact hHeld.alloc _ | with_reducible exact hHeld.far (by omega) _ _ _ | with_reducible exact K5.alloc _ | with_reducible exact (K5.alloc _).alloc _ | with_reducible exact (K5.alloc _).far (by omega) _ _ _ | with_reducible exact (K5.far (by omega) _ _ _).alloc _ | with_reducible exact ((K5.alloc _).alloc _).far (by omega) _ _ _)
                clear hK K hHeld
                have hHeld := hHeld2
                clear hHeld2
                try simp only [Act.put, List.setIfInBounds_toArray, List.set_cons_zero, List.set_cons_succ]
                refine wpAnyH_done (by kernel_rfl) ?_ _
                go_wp2_with fail
                go_meet
                case rel => exact ⟨_, _, rfl, rfl, (by (repeat (first | with_reducible exact Blk.new _ _ _ | with_reducible exact Blk.newB _ _ _ _ | with_reducible exact Blk.news3 _ _ _ _ _ _ _ _ _ | with_reducible exact U5 | with_reducible exact V5 | with_reducible exact X5 | with_reducible exact Y5 | with_reducible refine Blk.put3 (x := .bool false) (y := .int .u64 0) (z := .int .u64 0) ?_ _ _ _ | with_reducible refine Blk.far3 ?_ (by omega) _ _ _ | with_reducible refine Blk.alloc ?_ _))), (by (repeat (first | with_reducible exact Blk.new _ _ _ | with_reducible exact Blk.newB _ _ _ _ | with_reducible exact Blk.news3 _ _ _ _ _ _ _ _ _ | with_reducible exact U5 | with_reducible exact V5 | with_reducible exact X5 | with_reducible exact Y5 | with_reducible refine Blk.put3 (x := .bool false) (y := .int .u64 0) (z := .int .u64 0) ?_ _ _ _ | with_reducible refine Blk.far3 ?_ (by omega) _ _ _ | with_reducible refine Blk.alloc ?_ _))), hHeld⟩
  case rest =>
    obtain ⟨X, Y, rfl, rfl, KX, KY, RR⟩ := hcut
    have R := BT.of RR.2 KX KY
    clear R0 CF CL KX KY RR hs0
    rcases hcase.out with ⟨rfl, HC1⟩ | ⟨rfl, hcnt, ha1, ha2⟩ | ⟨rh, rl, L1, L2, rfl, hbW, hr, h1, h2, I10, I20⟩
    · have HC : Hid _ := HC1
      clear hcase HC1 HX C3 C4 hi hz0 hz1 hz2 HP
      have F := R.1
      go_wp2_with fail
      refine (C1.out _).mono ?_
      rintro e w1 ⟨m, rfl, hm, hb⟩
      replace R := R.below hb
      replace F := R.1
      clear hb C1
      rcases HC.out with c | ⟨c, d⟩
      · have hm' : m < 0 := by rw [hm.out, cmpI_neg]; omega
        have fin := SpOut.none (v := v) (W := W) HO.out R.2.1.2.2.2
        clear hm C2
        go_wp2
        go_ret
        exact ⟨_, rfl, fin⟩
      · have hm' : ¬ m < 0 := by rw [hm.out, cmpI_neg]; omega
        clear hm
        go_wp2_with fail
        refine (C2.out _).mono ?_
        rintro e w2 ⟨m2, rfl, hm2, hb⟩
        replace R := R.below hb
        replace F := R.1
        have hm2' : m2 < 0 := by rw [hm2.out, cmpI_neg]; omega
        have fin := SpOut.none (v := v) (W := W) HO.out R.2.1.2.2.2
        clear hb hm2 C2
        go_wp2
        go_ret
        exact ⟨_, rfl, fin⟩
    · have HC : Hid ((¬ lastN v n b < a) ∧ (¬ z < n) ∧ a ≤ n ∧ lastN v n b ≤ z) := by
        have p := pow_pos2 (behindP v b)
        show _ ∧ _
        unfold lastN at *
        omega
      have hown := HO.out
      clear hcase ha1 ha2 HP
      have F := R.1
      go_wp2_with fail
      refine (C1.out _).mono ?_
      rintro e w1 ⟨m, rfl, hm, hb⟩
      replace R := R.below hb
      replace F := R.1
      have hm' : ¬ m < 0 := by rw [hm.out, cmpI_neg]; have := HC.out; omega
      clear hb C1 hm
      go_wp2_with fail
      refine (C2.out _).mono ?_
      rintro e w2 ⟨m2, rfl, hm2, hb⟩
      replace R := R.below hb
      replace F := R.1
      have hm2' : ¬ m2 < 0 := by rw [hm2.out, cmpI_neg]; have := HC.out; omega
      clear hb C2 hm2
      go_wp2_with fail
      refine (C3.out _).mono ?_
      rintro e w3 ⟨m3, rfl, hm3, hb⟩
      replace R := R.below hb
      replace F := R.1
      have hm3' : m3 ≤ 0 := by rw [hm3.out, cmpI_le]; have := HC.out; omega
      clear hb C3 hm3
      go_wp2_with fail
      refine (C4.out _).mono ?_
      rintro e w4 ⟨m4, rfl, hm4, hb⟩
      replace R := R.below hb
      replace F := R.1
      have hm4' : m4 ≤ 0 := by rw [hm4.out, cmpI_le]; have := HC.out; omega
      clear hb C4 hm4
      have hb4 := R.2.1.2.2.2
      have hown4 := own_kept hown hb4
      have hs4 := hb4.size
      have N4 := four_new w4 (.bool v) (.int .u64 h) (.int .u64 l) (.int .i64 b) 28
      have hone : ∀ u ∈ [Value.bool v, .int .u64 h, .int .u64 l, .int .i64 b], u.oneCell' = true := by
        intro u hu
        simp at hu
        rcases hu with rfl | rfl | rfl | rfl <;> rfl
      go_wp2_with (first | (at_builtin; refine wpList_append_own_at _ rfl _ _ 64 rfl B 28 i0 (.agg #[.bool false, .int .u64 0, .int .u64 0, .int .i64 0]) 4 32 Tryz.underlying64 hi hz0 hz1 hz2 rfl (by decide) _ _ _ rfl (hown4.alloc _) ⟨w4.heap.size, 0, none⟩ 1 1 [.bool v, .int .u64 h, .int .u64 l, .int .i64 b] rfl rfl N4 hone ?c3 ?c4 ?c5 ?_))
      case c3 => unfold maxLen; omega
      case c4 => omega
      case c5 => simp; omega
      intro v' w5 hown5 hgrow _ hat
      have hf : SpOut B v W w val cnt xs [(n, behindP v b)] v' w5 := by
        refine ⟨?_, grown_after (hb4.alloc hs4 _) hgrow, ?_⟩
        · rw [HX.out]; exact hown5
        · rcases hat with q | q
          · exact Or.inl q
          · exact Or.inr ⟨_, q, by first | omega | (simp; omega)⟩
      clear R F N4 hone hown4 hown5 hgrow hat hown HX HC HO
      go_wp2
      go_ret
      exact ⟨_, rfl, hf⟩
    · have HC : Hid ((¬ lastN v n b < a) ∧ (¬ z < n) ∧ ¬ (a ≤ n ∧ lastN v n b ≤ z)) := ⟨fun q => h1 (Or.inl q), fun q => h1 (Or.inr q), h2⟩
      have CH : Hid (∀ w', Calls Tryz.prog 12 #[pv v h l b] w' fun e w1 => e = .returned (.tuple #[pv v h l (b + 1), pv v rh rl (b + 1), .int .i64 0]) ∧ Below w'.heap.size w' w1) := fun w' => half_ok HP.out.1 HP.out.2 hbW hr w'
      have I1 : Hid _ := I10
      have I2 : Hid _ := I20
      clear hcase HX hi hz0 hz1 hz2 hbW hr h1 h2 I10 I20 HP
      have F := R.1
      go_wp2_with fail
      refine (C1.out _).mono ?_
      rintro e w1 ⟨m, rfl, hm, hb⟩
      replace R := R.below hb
      replace F := R.1
      have hm' : ¬ m < 0 := by rw [hm.out, cmpI_neg]; have := HC.out; omega
      clear hb C1 hm
      go_wp2_with fail
      refine (C2.out _).mono ?_
      rintro e w2 ⟨m2, rfl, hm2, hb⟩
      replace R := R.below hb
      replace F := R.1
      have hm2' : ¬ m2 < 0 := by rw [hm2.out, cmpI_neg]; have := HC.out; omega
      clear hb C2 hm2
      go_wp2_with fail
      refine (C3.out _).mono ?_
      rintro e w3 ⟨m3, rfl, hm3, hb⟩
      replace R := R.below hb
      replace F := R.1
      clear hb C3
      by_cases c3 : a ≤ n
      · have hm3' : m3 ≤ 0 := by rw [hm3.out, cmpI_le]; omega
        clear hm3
        go_wp2_with fail
        refine (C4.out _).mono ?_
        rintro e w4 ⟨m4, rfl, hm4, hb⟩
        replace R := R.below hb
        replace F := R.1
        have hm4' : ¬ m4 ≤ 0 := by rw [hm4.out, cmpI_le]; have := HC.out; omega
        clear hb C4 hm4
        go_wp2_with fail
        refine (CH.out _).mono ?_
        rintro e w6 ⟨rfl, hb⟩
        have R6 := R.below hb
        have Q6 : K3 w v h l b ah al zh zl ((w6.alloc (.cells #[.bool v, .int .u64 h, .int .u64 l, .int .i64 (b + 1)] 28)).alloc (.cells #[.bool v, .int .u64 rh, .int .u64 rl, .int .i64 (b + 1)] 28)) := (R6.2.1.alloc _).alloc _
        have Y6 : Blk ((w6.alloc (.cells #[.bool v, .int .u64 h, .int .u64 l, .int .i64 (b + 1)] 28)).alloc (.cells #[.bool v, .int .u64 rh, .int .u64 rl, .int .i64 (b + 1)] 28)) (w6.heap.size + 1) #[.bool v, .int .u64 rh, .int .u64 rl, .int .i64 (b + 1)] 28 := Blk.newB _ _ _ _
        have z6 := R6.2.1.2.2.1.lt
        have R7 := (R6.alloc (.cells #[.bool v, .int .u64 h, .int .u64 l, .int .i64 (b + 1)] 28)).alloc (.cells #[.bool v, .int .u64 rh, .int .u64 rl, .int .i64 (b + 1)] 28)
        replace F := R7.1
        have B6 := Q6.2.2.2
        have O6 := own_kept HO.out B6
        have J1 := I1.out _ O6 (Nat.le_trans hB B6.size)
        clear hb CH R O6 I1
        go_wp2_with fail
        refine J1.mono ?_
        rintro e w8 ⟨val1, rfl, hS⟩
        have nb : ∀ x, w.heap.size ≤ x → some x ≠ val.ownBlock := fun x hx e => by
          have := (HO.out.lt x e.symm).2
          omega
        have G := hS.2.1
        have A8 := Q6.2.1.grown G (nb _ (by omega))
        have Z8 := Q6.2.2.1.grown G (nb _ (by omega))
        have Y8 := Y6.grown G (nb _ (by omega))
        have F8 : U3 w (w6.heap.size + 1) v rh rl (b + 1) ah al zh zl w8 := ⟨A8.cell 0, A8.cell 1, A8.cell 2, Z8.cell 0, Z8.cell 1, Z8.cell 2, Y8.cell 0, Y8.cell 1, Y8.cell 2, Y8.cell 3⟩
        have J2 := I2.out val1 w8 hS.1 (Nat.le_trans hB (Nat.le_trans B6.size G.size))
        have HS : Hid _ := hS
        have HB6 : Hid _ := B6
        unfold U3 at F8
        clear hS G A8 Z8 Y8 Y6 Q6 B6 F R6 R7 nb J1 I2
        go_wp2_with fail
        refine J2.mono ?_
        rintro e w9 ⟨val2, rfl, hS2⟩
        have fin := SpOut.trans HB6.out HS.out hS2
        clear hS2 HS HB6 F8 J2
        go_wp2
        go_ret
        exact ⟨_, rfl, fin⟩
      · have hm3' : ¬ m3 ≤ 0 := by rw [hm3.out, cmpI_le]; omega
        clear hm3 C4
        go_wp2_with fail
        refine (CH.out _).mono ?_
        rintro e w6 ⟨rfl, hb⟩
        have R6 := R.below hb
        have Q6 : K3 w v h l b ah al zh zl ((w6.alloc (.cells #[.bool v, .int .u64 h, .int .u64 l, .int .i64 (b + 1)] 28)).alloc (.cells #[.bool v, .int .u64 rh, .int .u64 rl, .int .i64 (b + 1)] 28)) := (R6.2.1.alloc _).alloc _
        have Y6 : Blk ((w6.alloc (.cells #[.bool v, .int .u64 h, .int .u64 l, .int .i64 (b + 1)] 28)).alloc (.cells #[.bool v, .int .u64 rh, .int .u64 rl, .int .i64 (b + 1)] 28)) (w6.heap.size + 1) #[.bool v, .int .u64 rh, .int .u64 rl, .int .i64 (b + 1)] 28 := Blk.newB _ _ _ _
        have z6 := R6.2.1.2.2.1.lt
        have R7 := (R6.alloc (.cells #[.bool v, .int .u64 h, .int .u64 l, .int .i64 (b + 1)] 28)).alloc (.cells #[.bool v, .int .u64 rh, .int .u64 rl, .int .i64 (b + 1)] 28)
        replace F := R7.1
        have B6 := Q6.2.2.2
        have O6 := own_kept HO.out B6
        have J1 := I1.out _ O6 (Nat.le_trans hB B6.size)
        clear hb CH R O6 I1
        go_wp2_with fail
        refine J1.mono ?_
        rintro e w8 ⟨val1, rfl, hS⟩
        have nb : ∀ x, w.heap.size ≤ x → some x ≠ val.ownBlock := fun x hx e => by
          have := (HO.out.lt x e.symm).2
          omega
        have G := hS.2.1
        have A8 := Q6.2.1.grown G (nb _ (by omega))
        have Z8 := Q6.2.2.1.grown G (nb _ (by omega))
        have Y8 := Y6.grown G (nb _ (by omega))
        have F8 : U3 w (w6.heap.size + 1) v rh rl (b + 1) ah al zh zl w8 := ⟨A8.cell 0, A8.cell 1, A8.cell 2, Z8.cell 0, Z8.cell 1, Z8.cell 2, Y8.cell 0, Y8.cell 1, Y8.cell 2, Y8.cell 3⟩
        have J2 := I2.out val1 w8 hS.1 (Nat.le_trans hB (Nat.le_trans B6.size G.size))
        have HS : Hid _ := hS
        have HB6 : Hid _ := B6
        unfold U3 at F8
        clear hS G A8 Z8 Y8 Y6 Q6 B6 F R6 R7 nb J1 I2
        go_wp2_with fail
        refine J2.mono ?_
        rintro e w9 ⟨val2, rfl, hS2⟩
        have fin := SpOut.trans HB6.out HS.out hS2
        clear hS2 HS HB6 F8 J2
        go_wp2
        go_ret
        exact ⟨_, rfl, fin⟩

theorem between_c {v : Bool} {ah al zh zl : Int} {a z W : Nat} (hW : widthA v = (W : Nat)) (ha : IsNum ah al a) (hz : IsNum zh zl z) (B : Nat) : ∀ (k n : Nat) (h l b : Int) (val : Value) (cnt : Nat) (xs : List Value) (w : World), IsNum h l n → okP v n b = true → behindP v b = k → w.ownsRow B 28 4 val cnt xs → B ≤ w.heap.size → cnt + (spL a z k n).length < 1000000 →
    Calls Tryz.prog 85 #[val, pv v h l b, av v ah al, av v zh zl] w fun e w' => ∃ val', e = .returned val' ∧ SpOut B v W w val cnt xs (spL a z k n) val' w' := by
  intro k
  induction k with
  | zero =>
    intro n h l b val cnt xs w hp hk hbk hown hB hcnt
    have el : lastN v n b = n := by unfold lastN; rw [hbk]; simp
    by_cases c : n < a ∨ z < n
    · rw [sp_none (k := 0) (by simpa using c)]
      exact between_step hW hp ha hz hk B val cnt xs w hown hB (Or.inl ⟨rfl, by rw [el]; omega⟩)
    · have e1 : spL a z 0 n = [(n, behindP v b)] := by rw [hbk]; exact sp_all (by omega) (by simp; omega)
      rw [e1] at hcnt ⊢
      simp at hcnt
      exact between_step hW hp ha hz hk B val cnt xs w hown hB (Or.inr (Or.inl ⟨rfl, by omega, by omega, by rw [el]; omega⟩))
  | succ k ih =>
    intro n h l b val cnt xs w hp hk hbk hown hB hcnt
    have el : lastN v n b = n + (2 ^ (k + 1) - 1) := by unfold lastN; rw [hbk]
    have pp := pow_pos2 (k + 1)
    by_cases c : n + (2 ^ (k + 1) - 1) < a ∨ z < n
    · rw [sp_none c]
      exact between_step hW hp ha hz hk B val cnt xs w hown hB (Or.inl ⟨rfl, by rw [el]; omega⟩)
    · by_cases d : a ≤ n ∧ n + (2 ^ (k + 1) - 1) ≤ z
      · have e1 : spL a z (k + 1) n = [(n, behindP v b)] := by rw [hbk]; exact sp_all d.1 d.2
        rw [e1] at hcnt ⊢
        simp at hcnt
        exact between_step hW hp ha hz hk B val cnt xs w hown hB (Or.inr (Or.inl ⟨rfl, by omega, d.1, by rw [el]; exact d.2⟩))
      · have hbW : b < widthA v := by unfold behindP at hbk; omega
        obtain ⟨o1, o2, o3, o4⟩ := high_ok hk hbW hp.lt
        have up := behindP_up hbW
        have ek : behindP v (b + 1) = k := by omega
        have e2 : behindP v b - 1 = k := by omega
        obtain ⟨rh, rl, hr⟩ := IsNum.ex (n := n + 2 ^ (behindP v b - 1)) (Nat.lt_of_le_of_lt o4 (lastN_small hk hp.lt).1)
        rw [sp_part c d] at hcnt ⊢
        rw [List.length_append] at hcnt
        refine between_step hW hp ha hz hk B val cnt xs w hown hB (Or.inr (Or.inr ⟨rh, rl, _, _, rfl, hbW, hr, by rw [el]; exact c, by rw [el]; exact d, ?_, ?_⟩))
        · intro w1 ho hB1
          exact ih n h l (b + 1) val cnt xs w1 hp o1 ek ho hB1 (by omega)
        · intro val1 w1 ho hB1
          exact ih (n + 2 ^ k) rh rl (b + 1) val1 (cnt + (spL a z k n).length) (xs ++ cellsL v W (spL a z k n)) w1 (hr.cast (by rw [e2])) (by rw [← e2]; exact o2) ek ho hB1 (by omega)

/-- What Spread keeps. -/
def KA (w : World) (v : Bool) (ah al : Int) (u : Bool) (zh zl : Int) (W : World) : Prop :=
  (W.cell? ⟨w.heap.size, 0, none⟩ = some (.bool v) ∧ W.cell? ⟨w.heap.size, 1, none⟩ = some (.int .u64 ah) ∧ W.cell? ⟨w.heap.size, 2, none⟩ = some (.int .u64 al) ∧ W.cell? ⟨w.heap.size + 1, 0, none⟩ = some (.bool u) ∧ W.cell? ⟨w.heap.size + 1, 1, none⟩ = some (.int .u64 zh) ∧ W.cell? ⟨w.heap.size + 1, 2, none⟩ = some (.int .u64 zl)) ∧ Blk W w.heap.size #[.bool v, .int .u64 ah, .int .u64 al] 26 ∧ Blk W (w.heap.size + 1) #[.bool u, .int .u64 zh, .int .u64 zl] 26 ∧ Below w.heap.size w W

theorem KA.of {w W : World} {v : Bool} {ah al : Int} {u : Bool} {zh zl : Int} (x : Blk W w.heap.size #[.bool v, .int .u64 ah, .int .u64 al] 26) (y : Blk W (w.heap.size + 1) #[.bool u, .int .u64 zh, .int .u64 zl] 26) (z : Below w.heap.size w W) : KA w v ah al u zh zl W :=
  ⟨⟨x.cell 0, x.cell 1, x.cell 2, y.cell 0, y.cell 1, y.cell 2⟩, x, y, z⟩

theorem KA.start (w : World) (v : Bool) (ah al : Int) (u : Bool) (zh zl : Int) : KA w v ah al u zh zl ((w.alloc (.cells #[.bool v, .int .u64 ah, .int .u64 al] 26)).alloc (.cells #[.bool u, .int .u64 zh, .int .u64 zl] 26)) :=
  KA.of ((Blk.new _ _ _).alloc _) (Blk.newB _ _ _ _) (by repeat (first | with_reducible exact Below.refl _ _ | with_reducible refine Below.drew ?_ | with_reducible refine Below.alloc ?_ (by first | omega | (simp <;> omega)) _ | with_reducible refine Below.setCell ?_ (by first | omega | (simp <;> omega)) _))

theorem KA.below {w W w1 : World} {v : Bool} {ah al : Int} {u : Bool} {zh zl : Int} (s : KA w v ah al u zh zl W) (hb : Below W.heap.size W w1) : KA w v ah al u zh zl w1 := KA.of (s.2.1.below hb) (s.2.2.1.below hb) (s.2.2.2.trans (hb.mono s.2.2.2.size))

theorem KA.alloc {w W : World} {v : Bool} {ah al : Int} {u : Bool} {zh zl : Int} (s : KA w v ah al u zh zl W) (o : Obj) : KA w v ah al u zh zl (W.alloc o) := KA.of (s.2.1.alloc o) (s.2.2.1.alloc o) (s.2.2.2.alloc (Nat.le_of_lt s.2.1.lt) o)

set_option maxRecDepth 100000 in
set_option maxHeartbeats 800000 in
theorem spread_no {v u : Bool} {ah al zh zl : Int} {a z : Nat} (ha : IsNum ah al a) (hz : IsNum zh zl z) (hc : ¬ (okA v a = true ∧ okA u z = true ∧ v = u ∧ a ≤ z)) (w : World) :
    Calls Tryz.prog 45 #[av v ah al, av u zh zl] w fun e w' => e = .returned (.tuple #[.slice none 0 0, .int .i64 1]) ∧ Below w.heap.size w w' := by
  obtain ⟨dh, dl, c, hm, hcne⟩ : ∃ dh dl c : Int, MinusIs u v z a dh dl c ∧ ¬ c = 0 := by
    by_cases h : okA u z = true ∧ okA v a = true ∧ u = v
    · have : ¬ a ≤ z := fun q => hc ⟨h.2.1, h.1, h.2.2.symm, q⟩
      exact ⟨0, 0, 11, Or.inr (Or.inl ⟨h, by omega, rfl, rfl, rfl⟩), by decide⟩
    · exact ⟨0, 0, 1, Or.inl ⟨h, rfl, rfl, rfl⟩, by decide⟩
  have M : Hid (∀ w', Calls Tryz.prog 84 #[av u zh zl, av v ah al] w' fun e w1 => e = .returned (.tuple #[nv dh dl, .int .i64 c]) ∧ Below w'.heap.size w' w1) := fun w' => minus_is hz ha hm w'
  have K0 := KA.start w v ah al u zh zl
  clear ha hz hc hm
  go_enter Tryz.func45, Tryz.ntmps45
  go_wp2_with fail
  refine (M.out _).mono ?_
  rintro e w1 ⟨rfl, hb1⟩
  have B1 := (K0.below hb1).2.2.2
  have z1 := (K0.below hb1).2.1.lt
  clear M K0 hb1
  go_wp2
  refine bodyPost_ret (v := .tuple #[.slice none 0 0, .int .i64 1]) (by simp [results, Tryz.results45, go_sem]) rfl ⟨rfl, by repeat (first | with_reducible exact Below.refl _ _ | with_reducible refine Below.drew ?_ | with_reducible refine Below.alloc ?_ (by first | omega | (simp <;> omega)) _ | with_reducible refine Below.setCell ?_ (by first | omega | (simp <;> omega)) _ | with_reducible refine Below.trans ?_ (Below.mono B1 (by first | omega | (simp <;> omega))))⟩

set_option maxRecDepth 100000 in
set_option maxHeartbeats 1600000 in
theorem spread_ok {v : Bool} {ah al zh zl : Int} {a z W : Nat} (hW : widthA v = (W : Nat)) (ha : IsNum ah al a) (hz : IsNum zh zl z) (oa : okA v a = true) (oz : okA v z = true) (haz : a ≤ z) (w : World) :
    Calls Tryz.prog 45 #[av v ah al, av v zh zl] w fun e w' => ∃ val, e = .returned (.tuple #[val, .int .i64 0]) ∧ w'.ownsRow w.heap.size 28 4 val (spL a z W 0).length (cellsL v W (spL a z W 0)) ∧ Below w.heap.size w w' := by
  obtain ⟨dh, dl, hd⟩ := IsNum.ex (n := z - a) (Nat.lt_of_le_of_lt (Nat.sub_le _ _) hz.lt)
  have M : Hid (∀ w', Calls Tryz.prog 84 #[av v zh zl, av v ah al] w' fun e w1 => e = .returned (.tuple #[nv dh dl, .int .i64 0]) ∧ Below w'.heap.size w' w1) := fun w' => minus_is hz ha (Or.inr (Or.inr ⟨⟨oz, oa, rfl⟩, haz, hd, rfl⟩)) w'
  have hb0 : behindP v 0 = W := by unfold behindP; omega
  have n0 : IsNum 0 0 0 := ⟨by omega, by omega, by omega, by omega, rfl⟩
  have hW2 := width_le v
  have f0 : fitsB v a 0 = true := by
    unfold fitsB; rw [oa, decide_eq_true (by omega : (0 : Int) ≤ 0), decide_eq_true (by omega : (0 : Int) ≤ widthA v)]; rfl
  have haW : a < 2 ^ W := by
    cases v
    · obtain rfl : W = 32 := by have : widthA false = 32 := rfl; omega
      simpa [okA] using oa
    · obtain rfl : W = 128 := by have : widthA true = 128 := rfl; omega
      simpa using ha.lt
  have e0 : ofN v a 0 = 0 := by unfold ofN; rw [hb0, Nat.div_eq_of_lt haW, Nat.zero_mul]
  have k0 : okP v 0 0 = true := by
    have o0 : okA v 0 = true := by cases v <;> rfl
    unfold okP fitsB; rw [o0, decide_eq_true (by omega : (0 : Int) ≤ 0), decide_eq_true (by omega : (0 : Int) ≤ widthA v), decide_eq_true (Nat.zero_mod _)]; rfl
  have O : Hid (∀ w', Calls Tryz.prog 48 #[av v ah al, .int .i64 0] w' fun e w1 => e = .returned (.tuple #[pv v 0 0 0, .int .i64 0]) ∧ Below w'.heap.size w' w1) := fun w' => of_ok ha f0 (n0.cast e0.symm) w'
  have ln := sp_length (a := a) (z := z) (k := W) (n := 0)
  have A : Hid (∀ w', w.heap.size ≤ w'.heap.size → Calls Tryz.prog 85 #[.slice none 0 0, pv v 0 0 0, av v ah al, av v zh zl] w' fun e w1 => ∃ val, e = .returned val ∧ SpOut w.heap.size v W w' (.slice none 0 0) 0 [] (spL a z W 0) val w1) := fun w' hs => between_c hW ha hz w.heap.size W 0 0 0 0 (.slice none 0 0) 0 [] w' n0 k0 hb0 (World.ownsRow_nil _ _ _ _) hs (by omega)
  have K0 := KA.start w v ah al v zh zl
  clear ha hz oa oz haz hd hb0 n0 hW2 f0 haW e0 k0 ln hW
  go_enter Tryz.func45, Tryz.ntmps45
  go_wp2_with fail
  refine (M.out _).mono ?_
  rintro e w1 ⟨rfl, hb1⟩
  have K1 := (K0.below hb1).alloc (.cells #[.int .u64 dh, .int .u64 dl] 24)
  have F := K1.1
  clear M K0 hb1
  go_wp2_with fail
  refine (O.out _).mono ?_
  rintro e w2 ⟨rfl, hb2⟩
  have K2 := (K1.below hb2).alloc (.cells #[.bool v, .int .u64 0, .int .u64 0, .int .i64 0] 28)
  replace F := K2.1
  have B2 := K2.2.2.2
  have J := A.out _ B2.size
  clear O K1 hb2 A
  go_wp2_with fail
  refine J.mono ?_
  rintro e w3 ⟨val, rfl, hS⟩
  have hB : Below w.heap.size w w3 := B2.trans ⟨hS.2.1.os, hS.2.1.tape, hS.2.1.output, hS.2.1.size, fun k hk => hS.2.1.block k (Nat.lt_of_lt_of_le hk B2.size) (by simp [Value.ownBlock])⟩
  have hO : w3.ownsRow w.heap.size 28 4 val (spL a z W 0).length (cellsL v W (spL a z W 0)) := by simpa using hS.1
  have HB : Hid _ := hB
  have HO : Hid _ := hO
  clear J hS F K2 B2 hB hO
  go_wp2
  refine bodyPost_ret (v := .tuple #[val, .int .i64 0]) (by simp [results, Tryz.results45, go_sem]) rfl ⟨_, rfl, HO.out, HB.out⟩
end Go.Proofs.YtmhnfgfdggjdhaaGreatDoor
