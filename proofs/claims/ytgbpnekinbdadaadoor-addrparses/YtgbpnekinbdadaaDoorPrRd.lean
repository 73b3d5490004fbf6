/-
  What Print of package addr says is read back by its Parse: plain facts, no program.
-/
import Derived.Test.YtgbpnekinbdadaaDoorAParse
import Derived.Test.YtgbpnekinbdadaaDoorRPrA
namespace Go.Proofs.YtgbpnekinbdadaaDoor
open Go.ChangeShapes Go.WideShapes Go.ChangeAt Go.RowKit
set_option linter.unusedVariables false
set_option linter.unusedSimpArgs false

theorem cut1_at (c : UInt8) (Y : List UInt8) : ∀ X : List UInt8, c ∉ X → cutG [c] (X ++ c :: Y) = (X, Y, true)
  | [], _ => by simp [cutG, List.isPrefixOf]
  | b :: X, h => by
    have ih := cut1_at c Y X (fun m => h (List.mem_cons_of_mem _ m))
    have hb : (c == b) = false := by
      rw [beq_eq_false_iff_ne]
      exact fun e => h (by simp [e])
    show cutG [c] (b :: (X ++ c :: Y)) = _
    rw [cutG, if_neg (by simp [List.isPrefixOf, hb]), ih]

theorem cut1_no (c : UInt8) : ∀ X : List UInt8, c ∉ X → cutG [c] X = (X, [], false)
  | [], _ => rfl
  | b :: X, h => by
    have ih := cut1_no c X (fun m => h (List.mem_cons_of_mem _ m))
    have hb : (c == b) = false := by
      rw [beq_eq_false_iff_ne]
      exact fun e => h (by simp [e])
    rw [cutG, if_neg (by simp [List.isPrefixOf, hb]), ih]

/-- No two colons stand side by side. -/
def NoCC : List UInt8 → Bool
  | [] => true
  | a :: l => !(a == 58 && l.head? == some 58) && NoCC l

theorem pre2 (b : UInt8) (l : List UInt8) : ([58, 58] : List UInt8).isPrefixOf (b :: l) = (b == 58 && l.head? == some 58) := by
  have q : ∀ a : UInt8, ((58 : UInt8) == a) = (a == 58) := fun a => by
    rw [Bool.eq_iff_iff, beq_iff_eq, beq_iff_eq]
    exact eq_comm
  cases l with
  | nil =>
    show ((58 == b) && false) = (b == 58 && false)
    rw [Bool.and_false, Bool.and_false]
  | cons x r =>
    show ((58 == b) && ((58 == x) && true)) = (b == 58 && x == 58)
    rw [Bool.and_true, q, q]

theorem cut2_no : ∀ X : List UInt8, NoCC X = true → cutG [58, 58] X = (X, [], false)
  | [], _ => rfl
  | b :: X, h => by
    unfold NoCC at h
    rw [Bool.and_eq_true] at h
    have ih := cut2_no X h.2
    rw [cutG, if_neg (by rw [pre2, (Bool.not_eq_true' _).mp h.1]; exact Bool.false_ne_true), ih]

theorem cut2_at (Y : List UInt8) : ∀ X : List UInt8, NoCC (X ++ [58]) = true → cutG [58, 58] (X ++ 58 :: 58 :: Y) = (X, Y, true)
  | [], _ => by simp [cutG, List.isPrefixOf]
  | b :: X, h => by
    have h' : (!(b == 58 && (X ++ [58]).head? == some 58) && NoCC (X ++ [58])) = true := h
    rw [Bool.and_eq_true] at h'
    have ih := cut2_at Y X h'.2
    have e : (X ++ 58 :: 58 :: Y).head? = (X ++ [58]).head? := by cases X <;> rfl
    show cutG [58, 58] (b :: (X ++ 58 :: 58 :: Y)) = _
    rw [cutG, if_neg (by rw [pre2, e, (Bool.not_eq_true' _).mp h'.1]; exact Bool.false_ne_true), ih]

theorem noCC_skip (Z : List UInt8) : ∀ t : List UInt8, 58 ∉ t → NoCC (t ++ Z) = NoCC Z
  | [], _ => rfl
  | b :: t, h => by
    have ih := noCC_skip Z t (fun m => h (List.mem_cons_of_mem _ m))
    have hb : (b == 58) = false := by
      rw [beq_eq_false_iff_ne]
      exact fun e => h (by simp [e])
    show (!(b == 58 && (t ++ Z).head? == some 58) && NoCC (t ++ Z)) = _
    rw [hb, ih]
    rfl

theorem noCC_pre : ∀ (X Z : List UInt8), NoCC (X ++ Z) = true → NoCC X = true
  | [], _, _ => rfl
  | b :: X, Z, h => by
    have h' : (!(b == 58 && (X ++ Z).head? == some 58) && NoCC (X ++ Z)) = true := h
    rw [Bool.and_eq_true] at h'
    show (!(b == 58 && X.head? == some 58) && NoCC X) = true
    rw [noCC_pre X Z h'.2, Bool.and_true]
    cases X with
    | nil => simp
    | cons x r => exact h'.1

/-- The digits of base 16 of a number, as bytes. -/
abbrev hxL (n : Nat) : List UInt8 := (hexT n).data.toList

theorem hxL_is (n : Nat) : hxL n = (lowH n (hexLen n)).map fun x => UInt8.ofNat x.toNat := by
  unfold hxL hexT
  rw [strOfNums_data]

theorem dig_is : ∀ d : Fin 16, hexD (UInt8.ofNat (hexI ((d.val : Nat) : Int)).toNat).toNat = some d.val := by decide +kernel

theorem low_no (n : Nat) : ∀ j, (58 : UInt8) ∉ (lowH n j).map fun x => UInt8.ofNat x.toNat
  | 0 => by simp [lowH]
  | j + 1 => by
    have ih := low_no n j
    have h := dig_ne ⟨n / 16 ^ j % 16, Nat.mod_lt _ (by decide)⟩
    simp only [lowH, List.map_cons, List.mem_cons, not_or]
    exact ⟨fun e => h e.symm, ih⟩

theorem hx_no (n : Nat) : (58 : UInt8) ∉ hxL n := by rw [hxL_is]; exact low_no n _

theorem low_read (n : Nat) : ∀ (j acc : Nat), hexL acc ((lowH n j).map fun x => UInt8.ofNat x.toNat) = some (acc * 16 ^ j + n % 16 ^ j)
  | 0, acc => by simp [lowH, hexL, Nat.mod_one]
  | j + 1, acc => by
    have h := dig_is ⟨n / 16 ^ j % 16, Nat.mod_lt _ (by decide)⟩
    simp only [lowH, List.map_cons, hexL]
    simp only [] at h
    rw [h]
    simp only []
    rw [low_read n j, Nat.pow_succ, Nat.mod_mul]
    congr 1
    rw [Nat.add_mul, Nat.mul_assoc, Nat.mul_comm 16, Nat.mul_comm (16 ^ j) (n / 16 ^ j % 16)]
    omega

theorem hexLen_bd (n : Nat) : 1 ≤ hexLen n ∧ hexLen n ≤ 4 := by
  unfold hexLen
  split <;> try split <;> try split
  all_goals omega

theorem hexLen_lt {n : Nat} (h : n < 65536) : n < 16 ^ hexLen n := by
  unfold hexLen
  split
  · simpa using ‹n < 16›
  · split
    · simpa using ‹n < 256›
    · split
      · simpa using ‹n < 4096›
      · simpa using h

theorem hx_len (n : Nat) : (hxL n).length = hexLen n := by rw [hxL_is, List.length_map, lowH_length]

theorem hx_read {n : Nat} (h : n < 65536) : hexG (hxL n) = some n := by
  have b := hexLen_bd n
  have l := hx_len n
  unfold hexG
  rw [if_neg (by rw [l]; omega), hxL_is, low_read, Nat.mod_eq_of_lt (hexLen_lt h), Nat.zero_mul, Nat.zero_add]

theorem joinT_one (b : Int) (x : Nat) (sep : List UInt8) : joinT b [x] sep = (txtP b x).data.toList := by
  unfold joinT
  simp [Lib.join_cons, Lib.joinTail]

theorem joinT_two (b : Int) (x y : Nat) (r : List Nat) (c : UInt8) : joinT b (x :: y :: r) [c] = (txtP b x).data.toList ++ c :: joinT b (y :: r) [c] := by
  unfold joinT
  rw [List.map_cons, Lib.join_cons, List.map_cons, Lib.join_cons]
  simp [Lib.joinTail]

/-- The number that groups make behind a number. -/
def gval (n : Nat) (l : List Nat) : Nat := l.foldl (fun n v => n * 65536 + v) n

theorem gval_add : ∀ (l : List Nat) (n : Nat), gval n l = n * 65536 ^ l.length + gval 0 l
  | [], n => by simp [gval]
  | x :: l, n => by
    show gval (n * 65536 + x) l = _ + gval (0 * 65536 + x) l
    rw [gval_add l (n * 65536 + x), gval_add l (0 * 65536 + x), List.length_cons, Nat.pow_succ, Nat.zero_mul, Nat.zero_add, Nat.add_mul, Nat.mul_assoc, Nat.mul_comm 65536]
    omega

theorem gval_cons (n x : Nat) (l : List Nat) : gval n (x :: l) = gval (n * 65536 + x) l := by
  unfold gval
  rw [List.foldl_cons]

theorem gval_app (l m : List Nat) (n : Nat) : gval n (l ++ m) = gval (gval n l) m := by unfold gval; rw [List.foldl_append]

theorem gval_zero : ∀ m, gval 0 (List.replicate m 0) = 0
  | 0 => rfl
  | m + 1 => by
    show gval (0 * 65536 + 0) (List.replicate m 0) = 0
    exact gval_zero m

theorem join_long (ns : List Nat) : ns.length ≤ (joinT 16 ns [58]).length := by
  match ns with
  | [] => exact Nat.zero_le _
  | [x] =>
    rw [joinT_one, txt16]
    have := hexLen_bd x
    have l := hx_len x
    show 1 ≤ (hxL x).length
    omega
  | x :: y :: r =>
    have ih := join_long (y :: r)
    rw [joinT_two, List.length_append, List.length_cons]
    simp only [List.length_cons] at ih ⊢
    omega

theorem gr_join (last : Bool) : ∀ (ns : List Nat) (x f n c : Nat), (∀ y ∈ x :: ns, y < 65536) → ns.length < f → c + ns.length + 1 ≤ 8 → grF last f n c (joinT 16 (x :: ns) [58]) = some (gval n (x :: ns), c + ns.length + 1)
  | [], x, f + 1, n, c, h, _, hc => by
    rw [joinT_one, txt16, grF, cut1_no 58 _ (hx_no x)]
    have hx : hexG (hxL x) = some x := hx_read (h x (by simp))
    simp only [hx]
    simp only [List.length_nil] at hc
    rw [if_neg (by omega)]
    rfl
  | y :: r, x, f + 1, n, c, h, hf, hc => by
    have ih := gr_join last r y f (n * 65536 + x) (c + 1) (fun z hz => h z (by simp [List.mem_cons.1 hz])) (by simpa using hf) (by simp only [List.length_cons] at hc; omega)
    rw [joinT_two, txt16, grF, cut1_at 58 _ _ (hx_no x)]
    have hx : hexG (hxL x) = some x := hx_read (h x (by simp))
    simp only [hx]
    simp only [List.length_cons] at hc ⊢
    rw [if_neg (by omega), if_pos trivial, ih]
    rw [gval_cons n x (y :: r), show c + 1 + r.length + 1 = c + (r.length + 1) + 1 by omega]

theorem groups_join (last : Bool) (ns : List Nat) (h : ∀ y ∈ ns, y < 65536) (h8 : ns.length ≤ 8) : groupsF last (joinT 16 ns [58]) = some (gval 0 ns, ns.length) := by
  cases ns with
  | nil => rfl
  | cons x r =>
    have l := join_long (x :: r)
    simp only [List.length_cons] at l h8
    unfold groupsF
    rw [if_neg (by intro c; rw [c] at l; simp at l), gr_join last r x _ 0 0 h (by omega) (by omega), List.length_cons]
    congr 2
    omega

theorem join_cc : ∀ ns : List Nat, NoCC (joinT 16 ns [58] ++ [58]) = true
  | [] => rfl
  | [x] => by
    rw [joinT_one, txt16, noCC_skip _ _ (hx_no x)]
    rfl
  | x :: y :: r => by
    have ih := join_cc (y :: r)
    rw [joinT_two, txt16, List.append_assoc, noCC_skip _ _ (hx_no x), List.cons_append]
    show (!(58 == 58 && (joinT 16 (y :: r) [58] ++ [58]).head? == some 58) && NoCC (joinT 16 (y :: r) [58] ++ [58])) = true
    rw [ih, Bool.and_true]
    have hd : ∀ Z : List UInt8, (hxL y ++ Z).head? ≠ some 58 := by
      intro Z
      have l := hx_len y
      have b := hexLen_bd y
      have no := hx_no y
      cases e : hxL y with
      | nil => rw [e] at l; simp at l; omega
      | cons q t =>
        rw [e] at no
        simp only [List.cons_append, List.head?_cons]
        intro c
        exact no (by rw [← Option.some.inj c]; simp)
    have e : ∃ Z, joinT 16 (y :: r) [58] ++ [58] = hxL y ++ Z := by
      cases r with
      | nil => exact ⟨[58], by rw [joinT_one, txt16]⟩
      | cons z t => exact ⟨58 :: joinT 16 (z :: t) [58] ++ [58], by rw [joinT_two, txt16]; simp⟩
    obtain ⟨Z, hZ⟩ := e
    rw [hZ]
    have := hd Z
    simpa using this

theorem topP_val {a : Nat} (ha : a < 340282366920938463463374607431768211456) : ∀ k, k ≤ 8 → gval 0 (topP a 128 16 k) = a / 2 ^ (128 - 16 * k)
  | 0, _ => by
    show 0 = _
    exact (Nat.div_eq_of_lt ha).symm
  | k + 1, h => by
    have ih := topP_val ha k (by omega)
    rw [topP, gval_app, ih]
    show a / 2 ^ (128 - 16 * k) * 65536 + a / 2 ^ (128 - 16 * (k + 1)) % 2 ^ 16 = _
    have e : 2 ^ (128 - 16 * k) = 2 ^ (128 - 16 * (k + 1)) * 65536 := by rw [show 128 - 16 * k = (128 - 16 * (k + 1)) + 16 by omega, Nat.pow_add]
    rw [e, ← Nat.div_div_eq_div_mul]
    generalize a / 2 ^ (128 - 16 * (k + 1)) = A
    omega

theorem best_lead (gs : List Nat) : ∀ i, (bestR gs i).2 = 0 ∨ (bestR gs i).2 = lead (gs.drop (bestR gs i).1)
  | 0 => Or.inl rfl
  | i + 1 => by
    unfold bestR
    split
    · exact Or.inr rfl
    · exact best_lead gs i

/-- The value of eight groups of which a row of noughts is left out. -/
theorem gval_cut {gs : List Nat} {i m : Nat} (h : gs.length = 8) (him : i + m ≤ 8) (hz : m ≤ lead (gs.drop i)) : gval 0 gs = gval 0 (gs.take i) * 2 ^ (16 * (8 - i)) + gval 0 (gs.drop (i + m)) := by
  have e1 : (gs.drop i).take m = List.replicate m 0 := by
    rw [List.eq_replicate_iff]
    refine ⟨by rw [List.length_take, List.length_drop]; omega, fun b hb => ?_⟩
    obtain ⟨t, ht, rfl⟩ := List.mem_iff_getElem.1 hb
    rw [List.length_take] at ht
    have := (lead_at (gs.drop i) t (by omega)).1
    rw [List.getD_eq_getElem?_getD, List.getElem?_eq_getElem (by omega)] at this
    rw [List.getElem_take]
    exact this
  have e2 : gs = gs.take i ++ (List.replicate m 0 ++ gs.drop (i + m)) := by
    have a1 := List.take_append_drop i gs
    have a2 := List.take_append_drop m (gs.drop i)
    rw [e1, List.drop_drop] at a2
    rw [a2, a1]
  have e3 : gval 0 gs = gval 0 (gs.take i ++ (List.replicate m 0 ++ gs.drop (i + m))) := by rw [← e2]
  rw [e3, gval_app, gval_app, gval_add (gs.drop (i + m)), gval_add (List.replicate m 0), gval_zero, List.length_replicate, List.length_drop, h, Nat.add_zero, Nat.mul_assoc]
  congr 2
  rw [← Nat.pow_add, show (65536 : Nat) = 2 ^ 16 from rfl, ← Nat.pow_mul]
  congr 1
  omega

theorem long_read {a : Nat} (ha : a < 340282366920938463463374607431768211456) : longF (prL a).data.toList = some a := by
  have h8 : (topP a 128 16 8).length = 8 := topP_length a 128 16 8
  have hv := topP_val ha 8 (Nat.le_refl _)
  rw [show 128 - 16 * 8 = 0 from rfl, Nat.pow_zero, Nat.div_one] at hv
  have hlt := topP_lt a 128 16 (by decide) 8
  have bl := best_lo h8
  have be := best_le (topP a 128 16 8) 8 (by omega)
  have bd := best_lead (topP a 128 16 8) 8
  unfold prL
  generalize topP a 128 16 8 = gs at *
  by_cases c : (loR gs).1 = (loR gs).2
  · rw [if_pos c]
    show longF (joinT 16 gs [58]) = _
    unfold longF
    rw [cut2_no _ (noCC_pre _ [58] (join_cc gs)), if_neg (by simp), groups_join true gs hlt (by omega), hv, h8]
    rfl
  · rw [if_neg c]
    have m2 : 2 ≤ (bestR gs 8).2 := by
      apply Classical.byContradiction
      intro d
      exact c (bl.2 (by omega))
    have l := bl.1 m2
    rw [l]
    simp only []
    generalize hi : (bestR gs 8).1 = i at *
    generalize hm : (bestR gs 8).2 = m at *
    have hz : m ≤ lead (gs.drop i) := by omega
    show longF (joinT 16 (gs.take i) [58] ++ [58, 58] ++ joinT 16 (gs.drop (i + m)) [58]) = _
    have e : joinT 16 (gs.take i) [58] ++ [58, 58] ++ joinT 16 (gs.drop (i + m)) [58] = joinT 16 (gs.take i) [58] ++ 58 :: 58 :: joinT 16 (gs.drop (i + m)) [58] := by simp
    unfold longF
    rw [e, cut2_at _ _ (join_cc (gs.take i)), if_pos rfl]
    simp only []
    rw [groups_join false (gs.take i) (fun y hy => hlt y (List.mem_of_mem_take hy)) (by rw [List.length_take]; omega), groups_join true (gs.drop (i + m)) (fun y hy => hlt y (List.mem_of_mem_drop hy)) (by rw [List.length_drop]; omega)]
    simp only [List.length_take, List.length_drop]
    have li : min i gs.length = i := by omega
    rw [li, if_pos (by omega), ← gval_cut h8 (by omega) hz, hv]

theorem index_in : ∀ l : List UInt8, (58 : UInt8) ∈ l → 0 ≤ Lib.indexByte l 58
  | [], h => by cases h
  | b :: l, h => by
    unfold Lib.indexByte
    split
    · omega
    · rename_i hb
      have h2 : (58 : UInt8) ∈ l := by
        rcases List.mem_cons.1 h with e | e
        · exact absurd (by simp [e]) hb
        · exact e
      have ih := index_in l h2
      split
      · rename_i c
        simp at c
        omega
      · omega

theorem index_out : ∀ l : List UInt8, (58 : UInt8) ∉ l → Lib.indexByte l 58 = -1
  | [], _ => rfl
  | b :: l, h => by
    have ih := index_out l (fun m => h (List.mem_cons_of_mem _ m))
    have hb : b ≠ 58 := fun e => h (by simp [e])
    unfold Lib.indexByte
    rw [ih]
    simp [hb]

theorem join_colon (x y : Nat) (r : List Nat) : (58 : UInt8) ∈ joinT 16 (x :: y :: r) [58] := by rw [joinT_two]; simp

theorem long_colon (a : Nat) : colonF (prL a).data.toList = true := by
  have h8 : (topP a 128 16 8).length = 8 := topP_length a 128 16 8
  unfold colonF
  refine decide_eq_true (index_in _ ?_)
  unfold prL
  generalize topP a 128 16 8 = gs at *
  split
  · match gs, h8 with
    | x :: y :: r, _ => exact join_colon x y r
  · show (58 : UInt8) ∈ joinT 16 (gs.take (loR gs).1) [58] ++ [58, 58] ++ joinT 16 (gs.drop (loR gs).2) [58]
    simp

theorem dec_all : ∀ d : Fin 256, decV (txtP 10 d.val).data.toList = some d.val ∧ (46 : UInt8) ∉ (txtP 10 d.val).data.toList ∧ (58 : UInt8) ∉ (txtP 10 d.val).data.toList := by decide +kernel

theorem dec_at {n : Nat} (h : n < 2 ^ 8) : decV (txtP 10 n).data.toList = some n ∧ (46 : UInt8) ∉ (txtP 10 n).data.toList ∧ (58 : UInt8) ∉ (txtP 10 n).data.toList := dec_all ⟨n, h⟩

theorem top4 (a : Nat) : topP a 32 8 4 = [a / 2 ^ 24 % 2 ^ 8, a / 2 ^ 16 % 2 ^ 8, a / 2 ^ 8 % 2 ^ 8, a / 2 ^ 0 % 2 ^ 8] := rfl

theorem short_read {a : Nat} (ha : a < 4294967296) : shortF 3 0 (prS a).data.toList = some a ∧ colonF (prS a).data.toList = false := by
  have d0 := dec_at (n := a / 2 ^ 24 % 2 ^ 8) (Nat.mod_lt _ (by decide))
  have d1 := dec_at (n := a / 2 ^ 16 % 2 ^ 8) (Nat.mod_lt _ (by decide))
  have d2 := dec_at (n := a / 2 ^ 8 % 2 ^ 8) (Nat.mod_lt _ (by decide))
  have d3 := dec_at (n := a / 2 ^ 0 % 2 ^ 8) (Nat.mod_lt _ (by decide))
  have hv : (((0 * 256 + a / 2 ^ 24 % 2 ^ 8) * 256 + a / 2 ^ 16 % 2 ^ 8) * 256 + a / 2 ^ 8 % 2 ^ 8) * 256 + a / 2 ^ 0 % 2 ^ 8 = a := by
    simp only [Nat.pow_zero, Nat.div_one]
    omega
  unfold prS
  rw [top4]
  generalize a / 2 ^ 24 % 2 ^ 8 = x0 at *
  generalize a / 2 ^ 16 % 2 ^ 8 = x1 at *
  generalize a / 2 ^ 8 % 2 ^ 8 = x2 at *
  generalize a / 2 ^ 0 % 2 ^ 8 = x3 at *
  show shortF 3 0 (joinT 10 [x0, x1, x2, x3] [46]) = _ ∧ colonF (joinT 10 [x0, x1, x2, x3] [46]) = _
  rw [joinT_two, joinT_two, joinT_two, joinT_one]
  generalize (txtP 10 x0).data.toList = t0 at *
  generalize (txtP 10 x1).data.toList = t1 at *
  generalize (txtP 10 x2).data.toList = t2 at *
  generalize (txtP 10 x3).data.toList = t3 at *
  constructor
  · simp only [shortF, cut1_at 46 _ _ d0.2.1, cut1_at 46 _ _ d1.2.1, cut1_at 46 _ _ d2.2.1, cut1_no 46 _ d3.2.1, d0.1, d1.1, d2.1, d3.1, if_true, hv]
    simp [hv]
  · unfold colonF
    rw [index_out _ (by simp [d0.2.2, d1.2.2, d2.2.2, d3.2.2])]
    rfl

/-- What is printed is read. -/
theorem parse_print {v : Bool} {a : Nat} (ha : a < 340282366920938463463374607431768211456) (ok : okA v a = true) : parseF (prA v a).data.toList = some (v, a) := by
  cases v
  · have h4 : a < 4294967296 := by unfold okA at ok; simpa using ok
    have h := short_read h4
    have e : prA false a = prS a := by unfold prA; rw [if_pos ok]; rfl
    unfold parseF
    rw [e, h.2, if_neg (by simp), h.1]
    rfl
  · have e : prA true a = prL a := by unfold prA; rw [if_pos ok]; rfl
    unfold parseF
    rw [e, long_colon, if_pos rfl, long_read ha]
    rfl
end Go.Proofs.YtgbpnekinbdadaaDoor
