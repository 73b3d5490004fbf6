/-
  What readGroup, readShort and (groups).with of package addr return.
-/
import Derived.Test.YtbecaepagachpaaGreatDoorAddrA
import Derived.Test.YtbecaepagachpaaGreatDoorHex
import Derived.Test.YtbecaepagachpaaGreatDoorParse2
import Derived.Deep.RegionHeld
namespace Go.Proofs.YtbecaepagachpaaGreatDoor
open Go.ChangeShapes Go.WideShapes Go.ChangeAt Go.RowKit
set_option linter.unusedVariables false
set_option linter.unusedSimpArgs false

/-- A group: one to four digits of base 16. -/
def hexG (l : List UInt8) : Option Nat := if l.length = 0 ∨ 4 < l.length then none else hexL 0 l

set_option maxRecDepth 100000 in
set_option maxHeartbeats 800000 in
theorem pu16_empty (w : World) :
    Calls Tryz.prog 117 #[.string ⟨#[]⟩, .int .i64 16, .int .i64 16] w fun e w' => e = .returned (.tuple #[.int .u64 0, .iface 137 (.int .i64 2)]) ∧ w' = w := by
  go_enter Tryz.func117, Tryz.ntmps117
  go_wp2
  go_ret2
  exact ⟨rfl, rfl⟩

theorem pu16_c (t : ByteArray) (hmax : t.size ≤ 4) (w : World) :
    Calls Tryz.prog 117 #[.string t, .int .i64 16, .int .i64 16] w fun e w' =>
      ((∃ v : Nat, hexG t.data.toList = some v ∧ v < 65536 ∧ e = .returned (.tuple #[.int .u64 (v : Int), .nilIface])) ∨ (hexG t.data.toList = none ∧ e = .returned (.tuple #[.int .u64 0, .iface 137 (.int .i64 2)]))) ∧ Below w.heap.size w w' := by
  by_cases h0 : t.size = 0
  · have ht : t = ⟨#[]⟩ := by
      obtain ⟨⟨l⟩⟩ := t
      cases l with
      | nil => rfl
      | cons _ _ => simp [ByteArray.size] at h0
    subst ht
    refine (pu16_empty w).mono ?_
    rintro e w' ⟨rfl, rfl⟩
    exact ⟨Or.inr ⟨rfl, rfl⟩, Below.refl _ _⟩
  · have hl : t.data.toList.length = t.size := by simp
    have e : hexG t.data.toList = hexL 0 t.data.toList := by unfold hexG; rw [if_neg (by omega)]
    rw [e]
    exact pu16_w t h0 hmax w

set_option maxRecDepth 100000 in
set_option maxHeartbeats 800000 in
theorem toErr_c (fn s : ByteArray) (base bits : Int) (ev : Value) (w : World) (hlim : s.size ≤ 281474976710656) (hv : w.cell? ⟨4, 0, none⟩ = some ev) (hev : ev = .nilIface ∨ ∃ te pe, ev = .iface te pe) :
    Calls Tryz.prog 118 #[.string fn, .string s, .int .i64 base, .int .i64 bits, .iface 137 (.int .i64 2)] w fun e w' => ∃ N, e = .returned (.iface 139 (.pointer (some ⟨N, 0, none⟩))) ∧ w.heap.size ≤ N ∧ w'.heap[N]? = some (.cells #[.string fn, .string s, ev] 146 (0, 0)) ∧ Below w.heap.size w w' := by
  have heq : ∀ W, (binOp .eql 114 (.iface 137 (.int .i64 2)) (.iface 137 (.int .i64 2))).run Tryz.prog W = .ok (.bool true) W := fun W => by kernel_rfl
  go_enter Tryz.func118, Tryz.ntmps118
  go_wp2_with fail
  refine (Tryz.strconv_syntaxError fn s ev _ hlim hv hev).mono ?_
  rintro e w2 ⟨N, rfl, h1, h2, h3⟩
  go_wp2
  go_ret
  exact ⟨N, rfl, h1, h2, h3⟩

set_option maxHeartbeats 800000 in
theorem spu16_c (t : ByteArray) (hmax : t.size ≤ 4) (w : World) (hL : LW w) :
    Calls Tryz.prog 108 #[.string t, .int .i64 16, .int .i64 16] w fun e w' =>
      ((∃ (v : Nat) (x : Int), hexG t.data.toList = some v ∧ Hid (x = (v : Int)) ∧ 0 ≤ x ∧ x < 65536 ∧ e = .returned (.tuple #[.int .u64 x, .nilIface])) ∨ (∃ p, hexG t.data.toList = none ∧ e = .returned (.tuple #[.int .u64 0, .iface 139 p]))) ∧ Below w.heap.size w w' := by
  obtain ⟨G, hG⟩ : ∃ G, hexG t.data.toList = G := ⟨_, rfl⟩
  have pc := pu16_c t hmax w
  rw [hG] at pc ⊢
  clear hG
  have hz := hL.sz
  go_enter Tryz.func108, Tryz.ntmps108
  go_wp2_with fail
  refine pc.mono ?_
  rintro e w1 ⟨h | h, hb1⟩
  · obtain ⟨v, hv, hv2, rfl⟩ := h
    obtain ⟨x, hx⟩ : ∃ x : Int, x = (v : Int) := ⟨_, rfl⟩
    rw [← hx]
    have x0 : 0 ≤ x := by omega
    have x1 : x < 65536 := by omega
    have HX : Hid (x = (v : Int)) := hx
    have hv' : Hid (G = some v) := hv
    clear hx hv pc
    go_wp2
    go_ret2
    exact ⟨Or.inl ⟨v, x, hv'.out, HX, x0, x1, rfl⟩, hb1⟩
  · obtain ⟨hn, rfl⟩ := h
    have L1 := hL.of hb1 hz
    obtain ⟨ev, hev, hev2⟩ := L1.es
    have hn' : Hid (G = none) := hn
    clear hn pc
    go_wp2_with fail
    refine (toErr_c _ t 16 16 ev _ (by omega) hev hev2).mono ?_
    rintro e w2 ⟨N, rfl, _, _, hb2⟩
    have hs1 := hb1.size
    go_wp2
    go_ret2
    exact ⟨Or.inr ⟨_, hn'.out, rfl⟩, by repeat (first | with_reducible exact Below.refl _ _ | with_reducible refine Below.drew ?_ | with_reducible refine Below.alloc ?_ (by first | omega | (simp <;> omega)) _ | with_reducible refine Below.setCell ?_ (by first | omega | (simp <;> omega)) _ | with_reducible refine Below.trans ?_ (Below.mono hb2 (by first | omega | (simp <;> omega))) | with_reducible refine Below.trans ?_ (Below.mono hb1 (by first | omega | (simp <;> omega))))⟩

/-- What readGroup answers: h, l, and whether it is one. -/
def GroupIs (l : List UInt8) (x : Int) (ok : Bool) : Prop := (∃ v, hexG l = some v ∧ x = (v : Int) ∧ v < 65536 ∧ ok = true) ∨ (hexG l = none ∧ x = 0 ∧ ok = false)

set_option maxHeartbeats 800000 in
theorem readGroup_c (t : ByteArray) (w : World) (hL : LW w) :
    Calls Tryz.prog 96 #[.string t] w fun e w' => ∃ (x : Int) (ok : Bool), e = .returned (.tuple #[nv 0 x, .bool ok]) ∧ Hid (GroupIs t.data.toList x ok) ∧ Below w.heap.size w w' := by
  have hl : t.data.toList.length = t.size := by simp
  have hz := hL.sz
  by_cases h4 : 4 < t.size
  · have hn : Hid (GroupIs t.data.toList 0 false) := Or.inr ⟨by unfold hexG; rw [if_pos (by omega)], rfl, rfl⟩
    have h4' : (4 : Int) < (t.size : Int) := by omega
    clear hl
    go_enter Tryz.func96, Tryz.ntmps96
    go_wp2
    refine bodyPost_ret (v := .tuple #[nv 0 0, .bool false]) (by simp [results, Tryz.results96, go_sem]) rfl ⟨0, false, rfl, hn, by repeat (first | with_reducible exact Below.refl _ _ | with_reducible refine Below.drew ?_ | with_reducible refine Below.alloc ?_ (by first | omega | (simp <;> omega)) _ | with_reducible refine Below.setCell ?_ (by first | omega | (simp <;> omega)) _)⟩
  · have h4' : ¬ (4 : Int) < (t.size : Int) := by omega
    obtain ⟨G, hG⟩ : ∃ G, GroupIs t.data.toList = G := ⟨_, rfl⟩
    have pc := fun w' (hb : Below w.heap.size w w') => spu16_c t (by omega) w' (hL.of hb hz)
    have g1 : ∀ v : Nat, hexG t.data.toList = some v → v < 65536 → G (v : Int) true := by
      rw [← hG]
      exact fun v h1 h2 => Or.inl ⟨v, h1, rfl, h2, rfl⟩
    have g2 : hexG t.data.toList = none → G 0 false := by
      rw [← hG]
      exact fun h1 => Or.inr ⟨h1, rfl, rfl⟩
    rw [hG]
    clear hG hl hL
    go_enter Tryz.func96, Tryz.ntmps96
    go_wp2_with fail
    refine (pc _ (by repeat (first | with_reducible exact Below.refl _ _ | with_reducible refine Below.drew ?_ | with_reducible refine Below.alloc ?_ (by first | omega | (simp <;> omega)) _ | with_reducible refine Below.setCell ?_ (by first | omega | (simp <;> omega)) _))).mono ?_
    rintro e w1 ⟨h | h, hb1⟩
    · obtain ⟨v, x, hv, hx, x0, x1, rfl⟩ := h
      have gx : Hid (G x true) := by
        have := g1 v hv (by have := hx.out; omega)
        rw [← hx.out] at this
        exact this
      obtain ⟨hc1, hf1⟩ := bcell hb1
      have hz_w1_0 : w.heap.size < w1.heap.size   := (by have := hb1.size; first | omega | (simp at this; omega))
      clear g1 g2 hv hx pc
      go_wp2_with fail
      refine (of_w x _).mono ?_
      rintro e w2 ⟨rfl, hb2⟩
      obtain ⟨hc2, hf2⟩ := bcell hb2
      have hz_w2_0 : w.heap.size < w2.heap.size   := (by have := hb2.size; first | omega | (simp at this; omega))
      go_wp2
      refine bodyPost_ret (v := .tuple #[nv 0 x, .bool true]) (by simp [results, Tryz.results96, go_sem, *]) rfl ⟨x, true, rfl, gx, by repeat (first | with_reducible exact Below.refl _ _ | with_reducible refine Below.drew ?_ | with_reducible refine Below.alloc ?_ (by first | omega | (simp <;> omega)) _ | with_reducible refine Below.setCell ?_ (by first | omega | (simp <;> omega)) _ | with_reducible refine Below.trans ?_ (Below.mono hb2 (by first | omega | (simp <;> omega))) | with_reducible refine Below.trans ?_ (Below.mono hb1 (by first | omega | (simp <;> omega))))⟩
    · obtain ⟨p, hn, rfl⟩ := h
      have gx : Hid (G 0 false) := g2 hn
      obtain ⟨hc1, hf1⟩ := bcell hb1
      have hz_w1_0 : w.heap.size < w1.heap.size   := (by have := hb1.size; first | omega | (simp at this; omega))
      clear g1 g2 hn pc
      go_wp2
      refine bodyPost_ret (v := .tuple #[nv 0 0, .bool false]) (by simp [results, Tryz.results96, go_sem, *]) rfl ⟨0, false, rfl, gx, by repeat (first | with_reducible exact Below.refl _ _ | with_reducible refine Below.drew ?_ | with_reducible refine Below.alloc ?_ (by first | omega | (simp <;> omega)) _ | with_reducible refine Below.setCell ?_ (by first | omega | (simp <;> omega)) _ | with_reducible refine Below.trans ?_ (Below.mono hb1 (by first | omega | (simp <;> omega))))⟩

end Go.Proofs.YtbecaepagachpaaGreatDoor
