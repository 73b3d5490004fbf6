/-
  A disk of files, plainly: files by rising numbers, and what each call makes of them. No program in sight.
-/
import Derived.Test.YtoppmpodiofhhaaHd
namespace Go.Proofs.Ytoppmpodiofhhaa
set_option linter.unusedVariables false
set_option linter.unusedSimpArgs false

/-- A file in memory: its number, its block, its row, its bytes, how many of them are safe. -/
structure Fl where
  no : Int
  p : Nat
  v : Value
  bs : List UInt8
  safe : Nat

/-- A file, plainly. -/
structure Pf where
  no : Int
  bs : List UInt8
  safe : Nat

def Fl.pf (f : Fl) : Pf := ⟨f.no, f.bs, f.safe⟩

/-- A disk, plainly. -/
structure DS where
  fs : List Pf
  fuse : Int
  steps : Nat
  on : Bool

def getP (l : List Pf) (n : Int) : Option Pf := l.find? (fun f => f.no == n)
def getL (l : List Fl) (n : Int) : Option Fl := l.find? (fun f => f.no == n)
def setP (l : List Pf) (n : Int) (u : Pf → Pf) : List Pf := l.map (fun f => if f.no = n then u f else f)
def setL (l : List Fl) (n : Int) (u : Fl → Fl) : List Fl := l.map (fun f => if f.no = n then u f else f)
def insP (x : Pf) : List Pf → List Pf
  | [] => [x]
  | y :: r => if x.no < y.no then x :: y :: r else y :: insP x r
def insL (x : Fl) : List Fl → List Fl
  | [] => [x]
  | y :: r => if x.no < y.no then x :: y :: r else y :: insL x r
def delP (l : List Pf) (n : Int) : List Pf := l.filter (fun f => !(f.no == n))
def delL (l : List Fl) (n : Int) : List Fl := l.filter (fun f => !(f.no == n))

theorem getL_view (l : List Fl) (n : Int) : getP (l.map Fl.pf) n = (getL l n).map Fl.pf := by
  unfold getP getL
  rw [List.find?_map]
  rfl

theorem setL_view (l : List Fl) (n : Int) (u : Fl → Fl) (x : Pf → Pf) (h : ∀ f, f ∈ l → f.no = n → (u f).pf = x f.pf) : (setL l n u).map Fl.pf = setP (l.map Fl.pf) n x := by
  unfold setL setP
  rw [List.map_map, List.map_map]
  refine List.map_congr_left (fun f hf => ?_)
  simp only [Function.comp]
  by_cases e : f.no = n
  · rw [if_pos e, if_pos (show f.pf.no = n from e), h f hf e]
  · rw [if_neg e, if_neg (show ¬ f.pf.no = n from e)]

theorem insL_view (x : Fl) : ∀ l : List Fl, (insL x l).map Fl.pf = insP x.pf (l.map Fl.pf)
  | [] => rfl
  | y :: r => by
    simp only [insL, insP, List.map_cons]
    by_cases e : x.no < y.no
    · rw [if_pos e, if_pos (show x.pf.no < y.pf.no from e)]
      rfl
    · rw [if_neg e, if_neg (show ¬ x.pf.no < y.pf.no from e), List.map_cons, insL_view x r]

theorem delL_view (l : List Fl) (n : Int) : (delL l n).map Fl.pf = delP (l.map Fl.pf) n := by
  unfold delL delP
  rw [List.filter_map]
  rfl

theorem getL_mem {l : List Fl} {n : Int} {f : Fl} (h : getL l n = some f) : f ∈ l ∧ f.no = n :=
  ⟨List.mem_of_find?_eq_some h, by simpa using List.find?_some h⟩

theorem getL_none {l : List Fl} {n : Int} (h : getL l n = none) : ∀ f, f ∈ l → f.no ≠ n := by
  intro f hf e
  have := List.find?_eq_none.1 h f hf
  simp [e] at this

theorem mem_insL {x f : Fl} : ∀ {l : List Fl}, f ∈ insL x l ↔ f = x ∨ f ∈ l
  | [] => by simp [insL]
  | y :: r => by
    simp only [insL]
    by_cases e : x.no < y.no
    · rw [if_pos e, List.mem_cons]
    · rw [if_neg e, List.mem_cons, mem_insL, List.mem_cons]
      constructor
      · rintro (h | h | h)
        · exact Or.inr (Or.inl h)
        · exact Or.inl h
        · exact Or.inr (Or.inr h)
      · rintro (h | h | h)
        · exact Or.inr (Or.inl h)
        · exact Or.inl h
        · exact Or.inr (Or.inr h)

theorem insL_length (x : Fl) : ∀ l : List Fl, (insL x l).length = l.length + 1
  | [] => rfl
  | y :: r => by
    simp only [insL]
    by_cases e : x.no < y.no
    · rw [if_pos e]; rfl
    · rw [if_neg e, List.length_cons, insL_length x r, List.length_cons]

/-- How two files of a disk lie: by number, in blocks and rows of their own. -/
def Lies (f g : Fl) : Prop := f.no < g.no ∧ f.p ≠ g.p ∧ (f.v.ownBlock = none ∨ f.v.ownBlock ≠ g.v.ownBlock)

def Far (f g : Fl) : Prop := f.p ≠ g.p ∧ (f.v.ownBlock = none ∨ f.v.ownBlock ≠ g.v.ownBlock)

theorem Far.symm {f g : Fl} (h : Far f g) : Far g f := by
  refine ⟨h.1.symm, ?_⟩
  rcases h.2 with e | e
  · cases hg : g.v.ownBlock with
    | none => exact Or.inl rfl
    | some k => right; rw [e]; simp
  · exact Or.inr (fun e' => e e'.symm)

theorem lies_far {l : List Fl} (h : l.Pairwise Lies) {f g : Fl} (hf : f ∈ l) (hg : g ∈ l) (hn : f.no ≠ g.no) : Far f g := by
  induction h with
  | nil => cases hf
  | cons h1 _ ih =>
    rcases List.mem_cons.1 hf with rfl | hf'
    · rcases List.mem_cons.1 hg with rfl | hg'
      · exact absurd rfl hn
      · exact (h1 _ hg').2
    · rcases List.mem_cons.1 hg with rfl | hg'
      · exact Far.symm (h1 _ hf').2
      · exact ih hf' hg'

theorem lies_one {l : List Fl} (h : l.Pairwise Lies) {f g : Fl} (hf : f ∈ l) (hg : g ∈ l) (hn : f.no = g.no) : f = g := by
  induction h with
  | nil => cases hf
  | cons h1 _ ih =>
    rcases List.mem_cons.1 hf with rfl | hf'
    · rcases List.mem_cons.1 hg with rfl | hg'
      · rfl
      · have := (h1 _ hg').1; omega
    · rcases List.mem_cons.1 hg with rfl | hg'
      · have := (h1 _ hf').1; omega
      · exact ih hf' hg'

theorem insL_lies {x : Fl} : ∀ {l : List Fl}, l.Pairwise Lies → (∀ g, g ∈ l → g.no ≠ x.no ∧ Far x g) → (insL x l).Pairwise Lies
  | [], _, _ => by simp [insL]
  | y :: r, h, hx => by
    obtain ⟨h1, h2⟩ := List.pairwise_cons.1 h
    simp only [insL]
    by_cases e : x.no < y.no
    · rw [if_pos e]
      refine List.pairwise_cons.2 ⟨fun g hg => ?_, h⟩
      refine ⟨?_, (hx g hg).2⟩
      rcases List.mem_cons.1 hg with rfl | hg'
      · exact e
      · have := (h1 g hg').1; omega
    · rw [if_neg e]
      refine List.pairwise_cons.2 ⟨fun g hg => ?_, insL_lies h2 (fun g hg => hx g (by simp [hg]))⟩
      rcases mem_insL.1 hg with rfl | hg'
      · have q := hx y (by simp)
        exact ⟨by omega, Far.symm q.2⟩
      · exact h1 g hg'

theorem setL_lies {l : List Fl} {n : Int} {u : Fl → Fl} (h : l.Pairwise Lies) (hn : ∀ f, (u f).no = f.no) (hp : ∀ f, (u f).p = f.p) (hv : ∀ f g, f ∈ l → g ∈ l → f.no = n → g.no ≠ n → Far (u f) g) : (setL l n u).Pairwise Lies := by
  unfold setL
  rw [List.pairwise_map]
  refine h.imp_of_mem (fun {f g} hf hg hR => ?_)
  by_cases ef : f.no = n
  · by_cases eg : g.no = n
    · have := hR.1; omega
    · rw [if_pos ef, if_neg eg]
      exact ⟨by rw [hn]; exact hR.1, hv f g hf hg ef eg⟩
  · by_cases eg : g.no = n
    · rw [if_neg ef, if_pos eg]
      exact ⟨by rw [hn]; exact hR.1, Far.symm (hv g f hg hf eg ef)⟩
    · rw [if_neg ef, if_neg eg]
      exact hR

theorem mem_setL {l : List Fl} {n : Int} {u : Fl → Fl} {f : Fl} (h : f ∈ setL l n u) : (f ∈ l ∧ f.no ≠ n) ∨ ∃ g, g ∈ l ∧ g.no = n ∧ f = u g := by
  unfold setL at h
  obtain ⟨g, hg, rfl⟩ := List.mem_map.1 h
  by_cases e : g.no = n
  · rw [if_pos e]; exact Or.inr ⟨g, hg, e, rfl⟩
  · rw [if_neg e]; exact Or.inl ⟨hg, e⟩

theorem setL_length (l : List Fl) (n : Int) (u : Fl → Fl) : (setL l n u).length = l.length := by unfold setL; rw [List.length_map]

/-! ### what the calls answer, and make of it -/
def reachV (s : DS) (n : Int) : Int := if s.on = false then 6 else if n < 1 ∨ 1000000 < n then 1 else 0

def stepV (s : DS) : Int := if s.fuse = 1 then 6 else 0
def stepS (s : DS) : DS := if s.fuse = 1 then ⟨s.fs, 0, s.steps + 1, false⟩ else ⟨s.fs, max (s.fuse - 1) 0, s.steps + 1, s.on⟩

def apV (s : DS) (n : Int) (t : List UInt8) : Int :=
  if reachV s n ≠ 0 then reachV s n else
    match getP s.fs n with
    | some f => if 1048576 < f.bs.length + t.length then 5 else stepV s
    | none => if 1048576 < t.length then 5 else if s.fs.length = 110 then 9 else stepV s
def apF (s : DS) (n : Int) (t : List UInt8) : List Pf :=
  match getP s.fs n with
  | some _ => setP s.fs n (fun f => ⟨f.no, f.bs ++ t, f.safe⟩)
  | none => insP ⟨n, t, 0⟩ s.fs
def apS (s : DS) (n : Int) (t : List UInt8) : DS :=
  if reachV s n ≠ 0 then s else
    match getP s.fs n with
    | some f => if 1048576 < f.bs.length + t.length then s else stepS ⟨apF s n t, s.fuse, s.steps, s.on⟩
    | none => if 1048576 < t.length then s else if s.fs.length = 110 then s else stepS ⟨apF s n t, s.fuse, s.steps, s.on⟩

/-- Sync, Trim, Remove: what is bad of the file, and what becomes of the files. -/
def chV (s : DS) (n : Int) (bad : Pf → Bool) : Int :=
  if reachV s n ≠ 0 then reachV s n else
    match getP s.fs n with
    | none => 7
    | some f => if bad f = true then 1 else stepV s
def chS (s : DS) (n : Int) (bad : Pf → Bool) (u : List Pf → List Pf) : DS :=
  if reachV s n ≠ 0 then s else
    match getP s.fs n with
    | none => s
    | some f => if bad f = true then s else if s.fuse = 1 then stepS s else ⟨u s.fs, (stepS s).fuse, (stepS s).steps, (stepS s).on⟩

def syF (n : Int) (l : List Pf) : List Pf := setP l n (fun f => ⟨f.no, f.bs, f.bs.length⟩)
def trF (n z : Int) (l : List Pf) : List Pf := setP l n (fun f => ⟨f.no, f.bs.take z.toNat, min f.safe z.toNat⟩)
def trB (z : Int) (f : Pf) : Bool := decide (z < 0 ∨ (f.bs.length : Int) < z)
def rmF (n : Int) (l : List Pf) : List Pf := delP l n
def okB (_ : Pf) : Bool := false

def cutV (s : DS) : Int := if s.on = true then 0 else 6
def cutS (s : DS) : DS := if s.on = true then ⟨s.fs, 0, s.steps, false⟩ else s
def fuV (s : DS) : Int := if s.on = true then 0 else 6
def fuS (s : DS) (n : Int) : DS := if s.on = true then ⟨s.fs, max n 0, s.steps, s.on⟩ else s

def pickV (xs : List Int) (k : Nat) : Nat := if xs.length = 0 then 0 else (xs.getD (k % xs.length) 0).toNat
def keepN (xs : List Int) (f : Pf) (k : Nat) : Nat := f.safe + pickV xs k % (f.bs.length - f.safe + 1)
def startP (xs : List Int) : List Pf → Nat → List Pf
  | [], _ => []
  | f :: r, k => if f.bs.length = f.safe then f :: startP xs r k else ⟨f.no, f.bs.take (keepN xs f k), keepN xs f k⟩ :: startP xs r (k + 1)
def stV (s : DS) : Int := if s.on = true then 17 else 0
def stS (s : DS) (xs : List Int) : DS := if s.on = true then s else ⟨startP xs s.fs 0, s.fuse, s.steps, true⟩

/-! ### what a file is behind them -/
theorem getP_setP (l : List Pf) (n m : Int) (u : Pf → Pf) (hu : ∀ f, (u f).no = f.no) : getP (setP l n u) m = (getP l m).map (fun f => if f.no = n then u f else f) := by
  unfold getP setP
  rw [List.find?_map]
  congr 2
  funext f
  simp only [Function.comp]
  by_cases e : f.no = n
  · rw [if_pos e, hu]
  · rw [if_neg e]

theorem getP_mem {l : List Pf} {n : Int} {f : Pf} (h : getP l n = some f) : f ∈ l ∧ f.no = n :=
  ⟨List.mem_of_find?_eq_some h, by simpa using List.find?_some h⟩

theorem getP_insP (x : Pf) (m : Int) : ∀ l : List Pf, (∀ f, f ∈ l → f.no ≠ x.no) → getP (insP x l) m = if x.no = m then some x else getP l m
  | [], _ => by
    by_cases e : x.no = m
    · simp [insP, getP, e]
    · simp [insP, getP, e]
  | y :: r, h => by
    simp only [insP]
    by_cases e : x.no < y.no
    · rw [if_pos e]
      by_cases e2 : x.no = m
      · simp [getP, e2]
      · simp [getP, e2]
    · rw [if_neg e]
      have ih := getP_insP x m r (fun f hf => h f (by simp [hf]))
      have hy := h y (by simp)
      unfold getP at ih ⊢
      rw [List.find?_cons, List.find?_cons]
      by_cases e2 : y.no = m
      · have e3 : ¬ x.no = m := by omega
        simp [e2, e3]
      · have e4 : (y.no == m) = false := by simpa using e2
        rw [e4]
        exact ih

theorem getP_delP (l : List Pf) (n m : Int) (h : m ≠ n) : getP (delP l n) m = getP l m := by
  unfold getP delP
  rw [List.find?_filter]
  congr 1
  funext f
  by_cases e : f.no = m
  · subst e; simp [h]
  · simp [e]

theorem getP_startP (xs : List Int) (m : Int) : ∀ (l : List Pf) (k : Nat), (∀ f, f ∈ l → f.safe ≤ f.bs.length) →
    match getP l m with
    | none => getP (startP xs l k) m = none
    | some f => ∃ g, getP (startP xs l k) m = some g ∧ f.bs.take f.safe <+: g.bs.take g.safe
  | [], k, _ => by simp [getP, startP]
  | y :: r, k, h => by
    have hy := h y (by simp)
    simp only [startP]
    by_cases e : y.no = m
    · have q : getP (y :: r) m = some y := by simp [getP, e]
      rw [q]
      by_cases c : y.bs.length = y.safe
      · rw [if_pos c]
        exact ⟨y, by simp [getP, e], List.prefix_refl _⟩
      · rw [if_neg c]
        have l1 : y.safe ≤ keepN xs y k := by unfold keepN; omega
        refine ⟨⟨y.no, y.bs.take (keepN xs y k), keepN xs y k⟩, by simp [getP, e], ?_⟩
        show y.bs.take y.safe <+: (y.bs.take (keepN xs y k)).take (keepN xs y k)
        rw [List.take_take, Nat.min_self]
        exact List.take_prefix_take_left l1
    · have q : getP (y :: r) m = getP r m := by simp [getP, e]
      rw [q]
      by_cases c : y.bs.length = y.safe
      · rw [if_pos c]
        have ih := getP_startP xs m r k (fun f hf => h f (by simp [hf]))
        have q2 : getP (y :: startP xs r k) m = getP (startP xs r k) m := by simp [getP, e]
        rw [q2]
        exact ih
      · rw [if_neg c]
        have ih := getP_startP xs m r (k + 1) (fun f hf => h f (by simp [hf]))
        have q2 : getP (⟨y.no, y.bs.take (keepN xs y k), keepN xs y k⟩ :: startP xs r (k + 1)) m = getP (startP xs r (k + 1)) m := by simp [getP, e]
        rw [q2]
        exact ih

end Go.Proofs.Ytoppmpodiofhhaa
