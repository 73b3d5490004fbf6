/-
  A disk in memory: its head, its map, its files' heads and rows; what becomes of them.
-/
import Derived.Test.YtoppmpodiofhhaaProg
import Derived.Test.YtoppmpodiofhhaaBlk
import Derived.Test.YtoppmpodiofhhaaDkM
import Derived.Laws.AppendOwn
import Derived.Maps.OwnSet
import Derived.Lib.SlKeysI
namespace Go.Proofs.Ytoppmpodiofhhaa
open Go.ChangeShapes Go.WideShapes Go.ChangeAt Go.RowKit
set_option linter.unusedVariables false
set_option linter.unusedSimpArgs false

/-- What has turned: blocks of X, and new ones. -/
structure Ch (X : Nat → Prop) (w w' : World) : Prop where
  os : w'.os = w.os
  tape : w'.tape = w.tape
  output : w'.output = w.output
  size : w.heap.size ≤ w'.heap.size
  block : ∀ k, k < w.heap.size → ¬ X k → w'.heap[k]? = w.heap[k]?

theorem Ch.refl (X : Nat → Prop) (w : World) : Ch X w w := ⟨rfl, rfl, rfl, Nat.le_refl _, fun _ _ _ => rfl⟩

theorem Ch.trans {X : Nat → Prop} {a b c : World} (h : Ch X a b) (k : Ch X b c) : Ch X a c :=
  ⟨k.os.trans h.os, k.tape.trans h.tape, k.output.trans h.output, Nat.le_trans h.size k.size, fun i hi hn => (k.block i (Nat.lt_of_lt_of_le hi h.size) hn).trans (h.block i hi hn)⟩

theorem Ch.mono {X Y : Nat → Prop} {a b : World} (h : Ch X a b) (hs : ∀ k, k < a.heap.size → X k → Y k) : Ch Y a b :=
  ⟨h.os, h.tape, h.output, h.size, fun i hi hn => h.block i hi (fun c => hn (hs i hi c))⟩

theorem Ch.below {X : Nat → Prop} {a b : World} (h : Below a.heap.size a b) : Ch X a b := ⟨h.os, h.tape, h.output, h.size, fun i hi _ => h.block i hi⟩

theorem Ch.grown {a b : World} {row : Option Nat} (h : a.grownBy b row) : Ch (fun k => some k = row) a b := ⟨h.os, h.tape, h.output, h.size, fun i hi hn => h.block i hi hn⟩

theorem Ch.cell (W : World) (b i : Nat) (v : Value) : Ch (fun k => k = b) W (W.setCell ⟨b, i, none⟩ v) :=
  ⟨rfl, rfl, rfl, by simp, fun k _ hn => Deep.blk_setCell_other _ ⟨b, i, none⟩ _ k hn⟩

theorem Ch.blk {X : Nat → Prop} {w w' : World} (h : Ch X w w') {b : Nat} {cs : Array Value} {t : TypeId} (k : Blk w b cs t) (hn : ¬ X b) : Blk w' b cs t := (h.block b k.lt hn).trans k

theorem Ch.row {X : Nat → Prop} {w w' : World} (h : Ch X w w') {base : Nat} {e : TypeId} {size : Nat} {v : Value} {n : Nat} {xs : List Value} (k : w.ownsRow base e size v n xs) (hn : ∀ b, v.ownBlock = some b → ¬ X b) : w'.ownsRow base e size v n xs := by
  refine ⟨k.1, ?_⟩
  rcases k.2 with hh | ⟨g, cap, cur, rfl, hb, hgg, rest⟩
  · exact .inl hh
  · exact .inr ⟨g, cap, cur, rfl, hb, (h.block g (Array.getElem?_eq_some_iff.1 hgg).1 (hn g rfl)).trans hgg, rest⟩

theorem Ch.map {X : Nat → Prop} {w w' : World} (h : Ch X w w') {H : Type} {P : Program} {kt : TypeId} {R : Value → Option (DataW H × List MemPlace)} {b n : Nat} {D : DataW H} (k : w.ownsMap P kt R b n D) (hn : ¬ X b) : w'.ownsMap P kt R b n D := by
  have hlt := k.lt
  obtain ⟨es, clock, hb, F, hs, hD⟩ := k
  exact ⟨es, clock, (h.block b hlt hn).trans hb, F, hs, hD⟩

/-- Cells that are none of a disk's. -/
def Alien (W : World) (k : Nat) : Prop := ∃ cs t fl, W.heap[k]? = some (.cells cs t fl) ∧ t ≠ 51 ∧ t ≠ 58 ∧ t ≠ 5

/-- What a call on a disk may turn: blocks from B on that may be a disk's. -/
def Mine (B : Nat) (W : World) (k : Nat) : Prop := B ≤ k ∧ ¬ Alien W k

theorem Ch.next {B : Nat} {a b c : World} (h : Ch (Mine B a) a b) (k : Ch (Mine B b) b c) : Ch (Mine B a) a c := by
  refine ⟨k.os.trans h.os, k.tape.trans h.tape, k.output.trans h.output, Nat.le_trans h.size k.size, fun i hi hn => ?_⟩
  refine (k.block i (Nat.lt_of_lt_of_le hi h.size) (fun c => ?_)).trans (h.block i hi hn)
  refine hn ⟨c.1, fun al => c.2 ?_⟩
  obtain ⟨cs, t, fl, e, r⟩ := al
  exact ⟨cs, t, fl, (h.block i hi hn).trans e, r⟩

theorem Ch.bel {B : Nat} {w a b : World} (h : Below B w a) (k : Ch (Mine B a) a b) (hB : B ≤ w.heap.size) : Below B w b := by
  refine ⟨k.os.trans h.os, k.tape.trans h.tape, k.output.trans h.output, Nat.le_trans h.size k.size, fun i hi => ?_⟩
  refine (k.block i ?_ (fun c => ?_)).trans (h.block i hi)
  · have := h.size; omega
  · have := c.1; omega

theorem Ch.far {B : Nat} {a b : World} (k : Ch (Mine B a) a b) {x : Nat} {cs : Array Value} {t : TypeId} (h : Blk a x cs t) (ht : t ≠ 51 ∧ t ≠ 58 ∧ t ≠ 5) : Blk b x cs t :=
  k.blk h (fun c => c.2 ⟨cs, t, (0, 0), h, ht⟩)

/-- A pointer as a map's element. -/
def ptrElem : Value → Option (DataW Unit × List MemPlace)
  | .pointer none => some (.nil, [])
  | .pointer (some ⟨b, 0, none⟩) => some (.lit (.int .i64 (b : Int)), [])
  | _ => none

theorem ptrElem_ptr {v : Value} {b : Nat} {ps : List MemPlace} (h : ptrElem v = some (.lit (.int .i64 (b : Int)), ps)) : v = .pointer (some ⟨b, 0, none⟩) := by
  unfold ptrElem at h
  split at h
  · simp at h
  · rename_i c
    simp at h
    have e : c = b := by omega
    rw [e]
  · simp at h

theorem ptrElem_nil {v : Value} {ps : List MemPlace} (h : ptrElem v = some (.nil, ps)) : v = .pointer none := by
  unfold ptrElem at h
  split at h
  · rfl
  · simp at h
  · simp at h

def entL (f : Fl) : Lit × DataW Unit := (.int .i64 f.no, .lit (.int .i64 (f.p : Int)))
/-- What a disk's map reads as. -/
def mapL (l : List Fl) : DataW Unit := .map (l.map entL)

theorem mapL_at (l : List Fl) (n : Int) (z : DataW Unit) : (mapL l).atKey (.int .i64 n) z = match getL l n with | some f => .lit (.int .i64 (f.p : Int)) | none => z := by
  unfold mapL DataW.atKey getL
  simp only [List.find?_map]
  have e : ((fun p : Lit × DataW Unit => p.1.sameKey (.int .i64 n)) ∘ entL) = (fun f : Fl => f.no == n) := by
    funext f
    simp only [Function.comp, entL, Lit.sameKey]
    by_cases h : f.no = n <;> simp [h]
  rw [e]
  cases List.find? (fun f : Fl => f.no == n) l <;> rfl

theorem ins_ent (x : Fl) : ∀ l : List Fl, DataW.insert (entL x) (l.map entL) = (insL x l).map entL
  | [] => rfl
  | y :: r => by
    simp only [List.map_cons, DataW.insert, insL]
    by_cases e : x.no < y.no
    · rw [if_pos (show (entL x).1.before (entL y).1 = true from decide_eq_true e), if_pos e]
      rfl
    · rw [if_neg (show ¬ (entL x).1.before (entL y).1 = true from fun c => e (of_decide_eq_true c)), if_neg e, ins_ent x r]
      rfl

theorem filter_ent (l : List Fl) (n : Int) : (l.map entL).filter (fun p => !p.1.sameKey (.int .i64 n)) = (delL l n).map entL := by
  unfold delL
  rw [List.filter_map]
  congr 2
  funext f
  simp only [Function.comp, entL, Lit.sameKey]
  by_cases h : f.no = n <;> simp [h]

theorem delL_none {l : List Fl} {n : Int} (h : ∀ f, f ∈ l → f.no ≠ n) : delL l n = l := by
  unfold delL
  exact List.filter_eq_self.2 (fun f hf => by simpa using h f hf)

theorem mapL_new {l : List Fl} {x : Fl} (h : ∀ f, f ∈ l → f.no ≠ x.no) : (mapL l).put (.int .i64 x.no) (.lit (.int .i64 (x.p : Int))) = mapL (insL x l) := by
  unfold mapL DataW.put
  simp only [filter_ent, delL_none h]
  rw [← ins_ent x l]
  rfl

theorem mapL_del (l : List Fl) (n : Int) : (mapL l).del (.int .i64 n) = mapL (delL l n) := by
  unfold mapL DataW.del
  simp only [filter_ent]

theorem ins_del {x : Fl} : ∀ {l : List Fl}, l.Pairwise Lies → x ∈ l → insL x (delL l x.no) = l
  | [], _, h => by cases h
  | y :: r, h, hx => by
    obtain ⟨h1, h2⟩ := List.pairwise_cons.1 h
    rcases List.mem_cons.1 hx with rfl | hx'
    · have e : delL (x :: r) x.no = r := by
        have q := delL_none (l := r) (n := x.no) (fun f hf => by have := (h1 f hf).1; omega)
        unfold delL at q ⊢
        simp [List.filter_cons, q]
      rw [e]
      cases r with
      | nil => rfl
      | cons z s =>
        have := (h1 z (by simp)).1
        simp only [insL]
        rw [if_pos this]
    · have l1 := (h1 x hx').1
      have e : delL (y :: r) x.no = y :: delL r x.no := by
        have : (y.no == x.no) = false := by simp; omega
        unfold delL
        simp [List.filter_cons, this]
      rw [e]
      simp only [insL]
      rw [if_neg (by omega), ins_del h2 hx']

theorem mapL_same {l : List Fl} {x : Fl} (h : l.Pairwise Lies) (hx : x ∈ l) : (mapL l).put (.int .i64 x.no) (.lit (.int .i64 (x.p : Int))) = mapL l := by
  unfold mapL DataW.put
  simp only [filter_ent]
  rw [show ((Lit.int IntKind.i64 x.no, DataW.lit (Lit.int IntKind.i64 (x.p : Int))) : Lit × DataW Unit) = entL x from rfl, ins_ent x, ins_del h hx]

theorem mapL_size (l : List Fl) : Maps.size (mapL l) = l.length := by simp [mapL, Maps.size]

theorem mapL_keys (l : List Fl) : intKeys (mapL l) = l.map Fl.no := by
  unfold mapL intKeys
  simp only [List.map_map]
  rfl

theorem mapL_setL (l : List Fl) (n : Int) (u : Fl → Fl) (hn : ∀ f, (u f).no = f.no) (hp : ∀ f, (u f).p = f.p) : mapL (setL l n u) = mapL l := by
  unfold mapL setL
  rw [List.map_map]
  congr 1
  refine List.map_congr_left (fun f hf => ?_)
  simp only [Function.comp]
  by_cases e : f.no = n
  · rw [if_pos e]; simp only [entL, hn, hp]
  · rw [if_neg e]

/-- A map's bound is how many entries it has. -/
theorem owns_tight {W : World} {P : Program} {kt : TypeId} {R : Value → Option (DataW Unit × List MemPlace)} {b n : Nat} {D : DataW Unit} (h : W.ownsMap P kt R b n D) : W.ownsMap P kt R b (Maps.size D) D := by
  obtain ⟨es, clock, hb, F, hs, hD⟩ := h
  refine ⟨es, clock, hb, F, ?_, hD⟩
  rw [hD]
  simp [Maps.size, length_sorted]

/-- A byte as a cell. -/
def bcell (b : UInt8) : Value := .int .u8 (b.toNat : Int)

/-- A file in memory. -/
structure FlAt (B : Nat) (W : World) (f : Fl) : Prop where
  hd : Blk W f.p #[f.v, .int .i64 (f.safe : Int)] 58
  row : W.ownsRow B 5 1 f.v f.bs.length (f.bs.map bcell)
  lo : B ≤ f.p
  no1 : 1 ≤ f.no
  no2 : f.no ≤ 1000000
  safe : f.safe ≤ f.bs.length
  len : f.bs.length ≤ 1048576

/-- A disk in memory. -/
structure DkAt (B d m : Nat) (l : List Fl) (fu : Int) (st : Nat) (on : Bool) (W : World) : Prop where
  hd : Blk W d #[.map (some m), .int .i64 fu, .int .i64 (st : Int), .bool on] 51
  map : W.ownsMap Try.prog 3 ptrElem m l.length (mapL l)
  fl : ∀ f, f ∈ l → FlAt B W f
  lies : l.Pairwise Lies
  dlo : B ≤ d
  mlo : B ≤ m
  len : l.length ≤ 110
  fu0 : 0 ≤ fu
  fu1 : fu ≤ 9223372036854775807

theorem row_block {W : World} {B : Nat} {v : Value} {n : Nat} {xs : List Value} {e : TypeId} (h : W.ownsRow B e 1 v n xs) {k : Nat} (hk : v.ownBlock = some k) : B ≤ k ∧ k < W.heap.size ∧ ∃ cur, W.heap[k]? = some (.cells cur e (0, 0)) := by
  rcases h.2 with ⟨rfl, _⟩ | ⟨g, cap, cur, rfl, hb, hg, _⟩
  · simp [Value.ownBlock] at hk
  · simp [Value.ownBlock] at hk
    subst hk
    exact ⟨hb, (Array.getElem?_eq_some_iff.1 hg).1, cur, hg⟩

theorem blk_ne {W : World} {a b : Nat} {cs ds : Array Value} {t u : TypeId} (h : Blk W a cs t) (k : Blk W b ds u) (hn : t ≠ u) : a ≠ b := by
  intro e
  subst e
  unfold Blk at h k
  rw [h] at k
  injection k with k
  injection k with _ k2
  exact hn k2

theorem blk_row_ne {W : World} {a B n : Nat} {cs : Array Value} {t e : TypeId} {v : Value} {xs : List Value} (h : Blk W a cs t) (k : W.ownsRow B e 1 v n xs) (hn : t ≠ e) : v.ownBlock ≠ some a := by
  intro c
  obtain ⟨_, _, cur, hc⟩ := row_block k c
  unfold Blk at h
  rw [h] at hc
  injection hc with hc
  injection hc with _ k2
  exact hn k2

theorem map_block {W : World} {P : Program} {kt : TypeId} {R : Value → Option (DataW Unit × List MemPlace)} {b n : Nat} {D : DataW Unit} (h : W.ownsMap P kt R b n D) : ∃ es clock, W.heap[b]? = some (.map es clock) := by
  obtain ⟨es, clock, hb, _⟩ := h
  exact ⟨es, clock, hb⟩

theorem map_blk_ne {W : World} {P : Program} {kt : TypeId} {R : Value → Option (DataW Unit × List MemPlace)} {b n : Nat} {D : DataW Unit} (h : W.ownsMap P kt R b n D) {a : Nat} {cs : Array Value} {t : TypeId} (k : Blk W a cs t) : b ≠ a := by
  intro e
  subst e
  obtain ⟨es, clock, hb⟩ := map_block h
  unfold Blk at k
  rw [k] at hb
  injection hb with hb
  cases hb

theorem map_row_ne {W : World} {P : Program} {kt : TypeId} {R : Value → Option (DataW Unit × List MemPlace)} {b n : Nat} {D : DataW Unit} (h : W.ownsMap P kt R b n D) {B k : Nat} {e : TypeId} {v : Value} {xs : List Value} (r : W.ownsRow B e 1 v k xs) : v.ownBlock ≠ some b := by
  intro c
  obtain ⟨es, clock, hb⟩ := map_block h
  obtain ⟨_, _, cur, hc⟩ := row_block r c
  rw [hb] at hc
  injection hc with hc
  cases hc

theorem FlAt.ch {B : Nat} {W W' : World} {f : Fl} (h : FlAt B W f) {X : Nat → Prop} (k : Ch X W W') (h1 : ¬ X f.p) (h2 : ∀ b, f.v.ownBlock = some b → ¬ X b) : FlAt B W' f :=
  ⟨k.blk h.hd h1, k.row h.row h2, h.lo, h.no1, h.no2, h.safe, h.len⟩

section
variable {B d m : Nat} {l : List Fl} {fu : Int} {st : Nat} {on : Bool} {W W' : World}

/-- Nothing of the disk's has turned. -/
theorem DkAt.below (S : DkAt B d m l fu st on W) (k : Below W.heap.size W W') : DkAt B d m l fu st on W' := by
  have c : Ch (fun _ => False) W W' := Ch.below k
  exact ⟨c.blk S.hd (fun h => h), c.map S.map (fun h => h), fun f hf => (S.fl f hf).ch c (fun h => h) (fun _ _ h => h), S.lies, S.dlo, S.mlo, S.len, S.fu0, S.fu1⟩

/-- Its blocks lie where nothing has turned. -/
theorem DkAt.ch (S : DkAt B d m l fu st on W) {X : Nat → Prop} (k : Ch X W W') (h1 : ∀ b, X b → Alien W b) : DkAt B d m l fu st on W' := by
  have na : ∀ {b : Nat} {cs : Array Value} {t : TypeId} {fl : Nat × Nat}, W.heap[b]? = some (.cells cs t fl) → (t = 51 ∨ t = 58 ∨ t = 5) → ¬ X b := by
    intro b cs t fl hb ht hX
    obtain ⟨cs', t', fl', e, n1, n2, n3⟩ := h1 b hX
    rw [hb] at e
    injection e with e
    injection e with _ e2
    subst e2
    rcases ht with q | q | q
    · exact n1 q
    · exact n2 q
    · exact n3 q
  refine ⟨k.blk S.hd (na S.hd (Or.inl rfl)), k.map S.map (fun hX => ?_), fun f hf => (S.fl f hf).ch k (na (S.fl f hf).hd (Or.inr (Or.inl rfl))) (fun b hb => ?_), S.lies, S.dlo, S.mlo, S.len, S.fu0, S.fu1⟩
  · obtain ⟨cs', t', fl', e, _⟩ := h1 m hX
    obtain ⟨es, clock, hb⟩ := map_block S.map
    rw [hb] at e
    injection e with e
    cases e
  · obtain ⟨_, _, cur, hc⟩ := row_block (S.fl f hf).row hb
    exact na hc (Or.inr (Or.inr rfl))

/-- The head is another. -/
theorem DkAt.head (S : DkAt B d m l fu st on W) {fu' : Int} {st' : Nat} {on' : Bool} (k : Ch (fun b => b = d) W W') (h : Blk W' d #[.map (some m), .int .i64 fu', .int .i64 (st' : Int), .bool on'] 51) (f0 : 0 ≤ fu') (f1 : fu' ≤ 9223372036854775807) : DkAt B d m l fu' st' on' W' := by
  refine ⟨h, k.map S.map (fun e => map_blk_ne S.map S.hd e), fun f hf => (S.fl f hf).ch k (fun e => blk_ne (S.fl f hf).hd S.hd (by decide) e) (fun b hb e => ?_), S.lies, S.dlo, S.mlo, S.len, f0, f1⟩
  subst e
  exact blk_row_ne S.hd (S.fl f hf).row (by decide) hb

theorem DkAt.mineHead (S : DkAt B d m l fu st on W) (k : Ch (fun b => b = d) W W') : Ch (Mine B W) W W' := by
  refine k.mono (fun b _ e => ?_)
  subst e
  refine ⟨S.dlo, ?_⟩
  rintro ⟨cs, t, fl, e, n1, _⟩
  have h := S.hd
  unfold Blk at h
  rw [h] at e
  injection e with e
  injection e with _ e2
  exact n1 e2.symm

/-- A file is another: its head, and its row. -/
theorem DkAt.file (S : DkAt B d m l fu st on W) {f : Fl} (hf : f ∈ l) {u : Fl → Fl} (hn : ∀ g, (u g).no = g.no) (hp : ∀ g, (u g).p = g.p)
    (k : Ch (fun b => b = f.p ∨ some b = f.v.ownBlock) W W') (h : FlAt B W' (u f)) (hv : ∀ b, (u f).v.ownBlock = some b → b < W.heap.size → f.v.ownBlock = some b) : DkAt B d m (setL l f.no u) fu st on W' := by
  have other : ∀ g, g ∈ l → g.no ≠ f.no → FlAt B W' g := by
    intro g hg e
    have q := lies_far S.lies hg hf e
    refine (S.fl g hg).ch k ?_ ?_
    · rintro (c | c)
      · exact q.1 c
      · exact blk_row_ne (S.fl g hg).hd (S.fl f hf).row (by decide) c.symm
    · rintro b hb (c | c)
      · subst c
        exact blk_row_ne (S.fl f hf).hd (S.fl g hg).row (by decide) hb
      · rcases q.2 with e2 | e2
        · rw [e2] at hb; cases hb
        · exact e2 (hb.trans c)
  refine ⟨k.blk S.hd ?_, ?_, ?_, ?_, S.dlo, S.mlo, ?_, S.fu0, S.fu1⟩
  · rintro (c | c)
    · exact blk_ne S.hd (S.fl f hf).hd (by decide) c
    · exact blk_row_ne S.hd (S.fl f hf).row (by decide) c.symm
  · rw [setL_length, mapL_setL l f.no u hn hp]
    refine k.map S.map ?_
    rintro (c | c)
    · exact map_blk_ne S.map (S.fl f hf).hd c
    · exact map_row_ne S.map (S.fl f hf).row c.symm
  · intro g hg
    rcases mem_setL hg with ⟨hg', e⟩ | ⟨g', hg', e, rfl⟩
    · exact other g hg' e
    · have : g' = f := lies_one S.lies hg' hf e
      rw [this]; exact h
  · refine setL_lies S.lies hn hp (fun g g' hg hg' e e' => ?_)
    have : g = f := lies_one S.lies hg hf e
    subst this
    have q := lies_far S.lies hf hg' (fun c => e' c.symm)
    refine ⟨by rw [hp]; exact q.1, ?_⟩
    cases hb : (u g).v.ownBlock with
    | none => exact Or.inl rfl
    | some b =>
      refine Or.inr (fun c => ?_)
      have hb' := row_block (S.fl g' hg').row c.symm
      have e1 := hv b hb hb'.2.1
      rcases q.2 with e2 | e2
      · rw [e2] at e1; cases e1
      · exact e2 (e1.trans c)
  · rw [setL_length]; exact S.len

theorem DkAt.mineFile (S : DkAt B d m l fu st on W) {f : Fl} (hf : f ∈ l) (k : Ch (fun b => b = f.p ∨ some b = f.v.ownBlock) W W') : Ch (Mine B W) W W' := by
  refine k.mono (fun b _ e => ?_)
  rcases e with rfl | e
  · refine ⟨(S.fl f hf).lo, ?_⟩
    rintro ⟨cs, t, fl, e, _, n1, _⟩
    have h := (S.fl f hf).hd
    unfold Blk at h
    rw [h] at e
    injection e with e
    injection e with _ e2
    exact n1 e2.symm
  · obtain ⟨h1, _, cur, hc⟩ := row_block (S.fl f hf).row e.symm
    refine ⟨h1, ?_⟩
    rintro ⟨cs, t, fl, e, _, _, n1⟩
    rw [hc] at e
    injection e with e
    injection e with _ e2
    exact n1 e2.symm

theorem DkAt.mineMap (S : DkAt B d m l fu st on W) (k : W.grownBy W' (some m)) : Ch (Mine B W) W W' := by
  refine (Ch.grown k).mono (fun b _ e => ?_)
  obtain rfl : b = m := by simpa using e
  refine ⟨S.mlo, ?_⟩
  rintro ⟨cs, t, fl, e, _⟩
  obtain ⟨es, clock, hb⟩ := map_block S.map
  rw [hb] at e
  injection e with e
  cases e

/-- The map is another, of the same files. -/
theorem DkAt.map_same (S : DkAt B d m l fu st on W) (k : W.grownBy W' (some m)) (h : W'.ownsMap Try.prog 3 ptrElem m (l.length + 1) (mapL l)) : DkAt B d m l fu st on W' := by
  have c := Ch.grown k
  have h2 := owns_tight h
  rw [mapL_size] at h2
  refine ⟨c.blk S.hd (fun e => ?_), h2, fun f hf => (S.fl f hf).ch c (fun e => ?_) (fun b hb e => ?_), S.lies, S.dlo, S.mlo, S.len, S.fu0, S.fu1⟩
  · exact map_blk_ne S.map S.hd (by simpa using e.symm)
  · exact map_blk_ne S.map (S.fl f hf).hd (by simpa using e.symm)
  · rw [e] at hb
    exact map_row_ne S.map (S.fl f hf).row hb

/-- One more file. -/
theorem DkAt.map_new (S : DkAt B d m l fu st on W) {x : Fl} (hx : FlAt B W x) (hno : ∀ g, g ∈ l → g.no ≠ x.no) (hfar : ∀ g, g ∈ l → Far x g) (hl : l.length < 110)
    (k : W.grownBy W' (some m)) (h : W'.ownsMap Try.prog 3 ptrElem m (l.length + 1) ((mapL l).put (.int .i64 x.no) (.lit (.int .i64 (x.p : Int))))) : DkAt B d m (insL x l) fu st on W' := by
  have c := Ch.grown k
  rw [mapL_new hno] at h
  refine ⟨c.blk S.hd (fun e => ?_), by rw [insL_length]; exact h, fun f hf => ?_, insL_lies S.lies (fun g hg => ⟨hno g hg, hfar g hg⟩), S.dlo, S.mlo, by rw [insL_length]; omega, S.fu0, S.fu1⟩
  · exact map_blk_ne S.map S.hd (by simpa using e.symm)
  · have all : ∀ g, FlAt B W g → FlAt B W' g := fun g hg => hg.ch c (fun e => map_blk_ne S.map hg.hd (by simpa using e.symm)) (fun b hb e => by rw [e] at hb; exact map_row_ne S.map hg.row hb)
    rcases mem_insL.1 hf with rfl | hf'
    · exact all _ hx
    · exact all _ (S.fl f hf')

/-- One file fewer. -/
theorem DkAt.map_del (S : DkAt B d m l fu st on W) (n : Int) (k : W.grownBy W' (some m)) (h : W'.ownsMap Try.prog 3 ptrElem m l.length ((mapL l).del (.int .i64 n))) : DkAt B d m (delL l n) fu st on W' := by
  have c := Ch.grown k
  rw [mapL_del] at h
  have h2 := owns_tight h
  rw [mapL_size] at h2
  have sub : ∀ g, g ∈ delL l n → g ∈ l := fun g hg => (List.mem_filter.1 hg).1
  have l1 : (delL l n).length ≤ l.length := List.length_filter_le _ _
  refine ⟨c.blk S.hd (fun e => ?_), h2, fun f hf => (S.fl f (sub f hf)).ch c (fun e => ?_) (fun b hb e => ?_), S.lies.filter _, S.dlo, S.mlo, by have := S.len; omega, S.fu0, S.fu1⟩
  · exact map_blk_ne S.map S.hd (by simpa using e.symm)
  · exact map_blk_ne S.map (S.fl f (sub f hf)).hd (by simpa using e.symm)
  · rw [e] at hb
    exact map_row_ne S.map (S.fl f (sub f hf)).row hb

end

/-- A disk that is what it is plainly. -/
def DkS (B d : Nat) (s : DS) (W : World) : Prop := ∃ m l, DkAt B d m l s.fuse s.steps s.on W ∧ l.map Fl.pf = s.fs

theorem DkS.below {B d : Nat} {s : DS} {W W' : World} (S : DkS B d s W) (k : Below W.heap.size W W') : DkS B d s W' := by
  obtain ⟨m, l, h, e⟩ := S
  exact ⟨m, l, h.below k, e⟩

theorem DkS.ch {B d : Nat} {s : DS} {W W' : World} (S : DkS B d s W) {X : Nat → Prop} (k : Ch X W W') (h1 : ∀ b, X b → Alien W b) : DkS B d s W' := by
  obtain ⟨m, l, h, e⟩ := S
  exact ⟨m, l, h.ch k h1, e⟩

end Go.Proofs.Ytoppmpodiofhhaa
