/-
  ROWS OF ELEMENTS OF ONE CELL, WHATEVER THEIR KIND: what a slice that came in, or one of the call's own, holds; what a store into it, an append onto it, a 'make' leaves. Condition: no more than 2^20 elements.
-/
import Derived.Test.YtebdlmjpgohngaaBut
namespace Go.Proofs.Ytebdlmjpgohngaa
open Go.RowKit

/-- A kind of elements: the slice's type, the element's, how a value is written, the zero, how many bytes. -/
structure Kind (α : Type) where
  s : TypeId
  e : TypeId
  enc : α → Value
  z : α
  b : Nat

structure Kind.Ok {α : Type} (K : Kind α) : Prop where
  under : Try.prog.underlying K.s = some (.slice K.e)
  info : (Try.prog.info? K.e).map (fun i => (i.zero, i.size, i.bytes)) = some (some (K.enc K.z), 1, K.b)
  bytes : K.b ≤ 32
  one : ∀ x, (K.enc x).oneCell' = true
  cz : (K.enc K.z).cells = #[K.enc K.z]

section
variable {α : Type}

/-- A block holds these elements from a place on, and they may be written. -/
structure Lst (K : Kind α) (g off : Nat) (l : List α) (w : World) : Prop where
  lt : g < w.heap.size
  cell : ∀ j, j < l.length → w.cell? ⟨g, off + j, none⟩ = some (K.enc (l.getD j K.z))
  frozen : ∀ j, j < l.length → w.frozen? ⟨g, off + j, none⟩ = false

variable {K : Kind α} {g off : Nat} {l : List α} {w w' : World}
theorem Lst.drewN (h : Lst K g off l w) (n : Nat) : Lst K g off l (w.drewN n) := ⟨h.lt, h.cell, h.frozen⟩
theorem Lst.drew (h : Lst K g off l w) : Lst K g off l w.drew := ⟨h.lt, h.cell, h.frozen⟩
theorem Lst.below {B : Nat} (h : Lst K g off l w) (hb : Go.RowKit.Below B w w') (hB : g < B) : Lst K g off l w' :=
  ⟨Nat.lt_of_lt_of_le h.lt hb.size, fun j hj => (hb.cell (by exact hB)).trans (h.cell j hj), fun j hj => (hb.frozen (by exact hB)).trans (h.frozen j hj)⟩
theorem Lst.but {b : Nat} (h : Lst K g off l w) (hb : But b w w') (hn : g ≠ b) : Lst K g off l w' :=
  ⟨Nat.lt_of_lt_of_le h.lt hb.size, fun j hj => (hb.cell (by exact h.lt) (by exact hn)).trans (h.cell j hj), fun j hj => (hb.frozen (by exact h.lt) (by exact hn)).trans (h.frozen j hj)⟩
theorem Lst.kept (h : Lst K g off l w) (hb : w'.heap[g]? = w.heap[g]?) : Lst K g off l w' := by
  refine ⟨?_, fun j hj => (World.cell?_of_block (w := w) hb).trans (h.cell j hj), fun j hj => (World.frozen?_of_block (w := w) hb).trans (h.frozen j hj)⟩
  rcases Nat.lt_or_ge g w'.heap.size with h' | h'
  · exact h'
  · rw [Array.getElem?_eq_none h', Array.getElem?_eq_getElem h.lt] at hb; cases hb
theorem Lst.set (h : Lst K g off l w) (i : Nat) (x : α) (hi : i < l.length) : Lst K g off (l.set i x) (w.setCell ⟨g, off + i, none⟩ (K.enc x)) := by
  refine ⟨by have := h.lt; simp [World.setCell]; omega, fun j hj => ?_, fun j hj => ?_⟩
  · simp at hj
    by_cases e : i = j
    · subst e
      rw [World.cell?_setCell_same _ _ _ (h.cell i hi)]
      simp [List.getD_eq_getElem?_getD, hi]
    · rw [World.cell?_setCell_other _ _ _ _ (by simp), h.cell j hj]
      simp [List.getD_eq_getElem?_getD, List.getElem?_set_ne e]
  · simp at hj
    rw [World.frozen?_setCell]; exact h.frozen j hj
theorem Lst.take (h : Lst K g off l w) (k : Nat) : Lst K g off (l.take k) w := by
  refine ⟨h.lt, fun j hj => ?_, fun j hj => h.frozen j (by simp at hj; omega)⟩
  simp at hj
  rw [h.cell j (by omega)]
  simp [List.getD_eq_getElem?_getD, show j < k by omega]
theorem Lst.drop (h : Lst K g off l w) (k : Nat) : Lst K g (off + k) (l.drop k) w := by
  refine ⟨h.lt, fun j hj => ?_, fun j hj => ?_⟩
  · simp at hj
    rw [Nat.add_assoc, h.cell (k + j) (by omega)]
    simp [List.getD_eq_getElem?_getD]
  · simp at hj
    rw [Nat.add_assoc]; exact h.frozen (k + j) (by omega)
theorem Lst.made (w : World) (l : List α) : Lst K w.heap.size 0 l (w.alloc (.cells (l.map K.enc).toArray K.e)) := by
  have hh : (w.alloc (.cells (l.map K.enc).toArray K.e)).heap[w.heap.size]? = some (.cells (l.map K.enc).toArray K.e) := by rw [World.alloc]; simp
  refine ⟨by simp, fun j hj => ?_, fun j hj => ?_⟩
  · unfold World.cell?
    simp only [hh]
    simp [hj]
  · unfold World.frozen?
    simp only [hh]
    simp

/-- These elements lie where a slice leads to. -/
def HoldsE (K : Kind α) (w : World) (a : Option Addr) (l : List α) : Prop := l = [] ∨ ∃ g off, a = some ⟨g, off, none⟩ ∧ g < w.heap.size ∧ ∀ j, j < l.length → w.cell? ⟨g, off + j, none⟩ = some (K.enc (l.getD j K.z))
theorem Lst.holds (h : Lst K g off l w) : HoldsE K w (some ⟨g, off, none⟩) l := .inr ⟨g, off, rfl, h.lt, h.cell⟩
theorem HoldsE.below {a : Option Addr} (h : HoldsE K w a l) (hb : Go.RowKit.Below w.heap.size w w') : HoldsE K w' a l := by
  rcases h with h | ⟨b, off, ha, hlt, hr⟩
  · exact .inl h
  · exact .inr ⟨b, off, ha, Nat.lt_of_lt_of_le hlt hb.size, fun j hj => (hb.cell (by exact hlt)).trans (hr j hj)⟩

/-- A row of the call's own holds these elements. -/
def Own (K : Kind α) (w : World) (B : Nat) (v : Value) (l : List α) : Prop := w.ownsRow B K.e 1 v l.length (l.map K.enc)
theorem Own.start (w : World) (B : Nat) (hB : B ≤ w.heap.size) : Own K (w.alloc (.cells #[] K.e)) B (.slice (some ⟨w.heap.size, 0, none⟩) 0 0) [] :=
  World.ownsRow_made w #[] 0 hB (Nat.zero_le _) rfl
theorem Own.alloc {B : Nat} {v : Value} (h : Own K w B v l) (o : Obj) : Own K (w.alloc o) B v l := World.ownsRow.alloc h o
theorem Own.drew {B : Nat} {v : Value} (h : Own K w B v l) : Own K w.drew B v l := h
theorem Own.drewN {B : Nat} {v : Value} (h : Own K w B v l) (n : Nat) : Own K (w.drewN n) B v l := h
theorem Own.lst {B : Nat} {v : Value} (h : Own K w B v l) : (v = .slice none 0 0 ∧ l = []) ∨ ∃ g cap, v = .slice (some ⟨g, 0, none⟩) l.length cap ∧ B ≤ g ∧ l.length ≤ cap ∧ cap ≤ maxLen ∧ Lst K g 0 l w := by
  obtain ⟨h1, ⟨rfl, h0⟩ | ⟨g, cap, cur, rfl, hB, hg, hc, hm, hs, ht⟩⟩ := h
  · exact .inl ⟨rfl, List.eq_nil_of_length_eq_zero h0⟩
  · refine .inr ⟨g, cap, rfl, hB, hc, hm, (Array.getElem?_eq_some_iff.1 hg).1, fun j hj => ?_, fun j hj => ?_⟩
    · have e : (cur.toList.take (l.length * 1))[j]? = (l.map K.enc)[j]? := by rw [ht]
      rw [List.getElem?_take] at e
      simp only [Nat.mul_one, hj, if_true, List.getElem?_map, Array.getElem?_toList] at e
      simp only [World.cell?, hg]
      simp [e, hj]
    · simp [World.frozen?, hg]
theorem Own.cut {B n cap k : Nat} (h : Own K w B (.slice (some ⟨g, 0, none⟩) n cap) l) (hk : k ≤ l.length) : Own K w B (.slice (some ⟨g, 0, none⟩) k cap) (l.take k) := by
  obtain ⟨h1, ⟨h0, _⟩ | ⟨g', cap', cur, e, hB, hg, hc, hm, hs, ht⟩⟩ := h
  · cases h0
  · injection e with e1 e2 e3
    injection e1 with e1
    injection e1 with e1
    subst e1 e3
    have hkl : (l.take k).length = k := by simp; omega
    refine ⟨by simp, .inr ⟨g, cap, cur, by rw [hkl], hB, hg, by omega, hm, hs, ?_⟩⟩
    rw [hkl, Nat.mul_one]
    rw [Nat.mul_one] at ht
    have : cur.toList.take k = (cur.toList.take l.length).take k := by rw [List.take_take]; congr 1; omega
    rw [this, ht, List.map_take]
theorem Own.kept {B n cap : Nat} (h : Own K w B (.slice (some ⟨g, 0, none⟩) n cap) l) (hb : w'.heap[g]? = w.heap[g]?) : Own K w' B (.slice (some ⟨g, 0, none⟩) n cap) l := by
  obtain ⟨h1, ⟨h0, _⟩ | ⟨g', cap', cur, e, hB, hg, hc, hm, hs, ht⟩⟩ := h
  · cases h0
  · injection e with e1 e2 e3
    injection e1 with e1
    injection e1 with e1
    subst e1 e3
    exact ⟨h1, .inr ⟨g, cap, cur, by rw [e2], hB, hb.trans hg, hc, hm, hs, ht⟩⟩

/-- What is appended: the elements that a slice leads to. -/
def CameE (K : Kind α) (w : World) (a : Option Addr) (n : Nat) (l : List α) : Prop := (∃ ad, a = some ad) ∧ l.length = n ∧ HoldsE K w a l
theorem CameE.new (x : α) : CameE K (w.alloc (.cells #[K.enc x] K.e)) (some ⟨w.heap.size, 0, none⟩) 1 [x] := ⟨⟨_, rfl⟩, rfl, (Lst.made w [x]).holds⟩
theorem CameE.drew {a : Option Addr} {n : Nat} (h : CameE K w a n l) : CameE K w.drew a n l := h

theorem app_wp (ok : K.Ok) {o : Oper} {a : Act} {KK : Act → World → Prop} {Q : Exit → Act → World → Prop} (s x : Operand)
    (ho : o.op = .call { callee := .builtin .append, args := #[s, x], argTypes := #[K.s, K.s] }) (B : Nat) (hB : B ≤ w.heap.size) (v : Value) (l : List α) (hs : a.eval s = v) (hown : Own K w B v l)
    (A : Option Addr) (m c : Nat) (k : List α) (hx : a.eval x = .slice A m c) (hk : CameE K w A m k) (hm : l.length + k.length ≤ 1048576) (hv : v ≠ .slice none 0 0)
    (h : ∀ v' w', Own K w' B v' (l ++ k) → w.grownBy w' v.ownBlock → v' ≠ .slice none 0 0 → KK (a.put o.dst v') w') : Oper.wp Try.prog o a w KK Q := by
  obtain ⟨i0, hi, hz0, hz1, hz2⟩ := info_parts ok.info
  have hb := ok.bytes
  obtain ⟨⟨ad, rfl⟩, hl, hr⟩ := hk
  refine wp_append_own w s x K.s ho B K.e i0 _ 1 K.b ok.under hi hz0 hz1 hz2 (by rw [ok.cz]; rfl) (by decide) v _ _ hs hown ad m c (k.map K.enc) hx (by simp [hl]) ?_ ?_ (by unfold maxLen; omega) (by have := Nat.mul_le_mul (show l.length + m ≤ 1048576 by omega) hb; omega) hB ?_
  · intro j u hu
    have hj : j < k.length := by
      rcases Nat.lt_or_ge j k.length with h' | h'
      · exact h'
      · rw [List.getElem?_eq_none (by simpa using h')] at hu; cases hu
    rcases hr with rfl | ⟨b, off, e, hb, hr⟩
    · simp at hj
    · obtain rfl := Option.some.inj e
      rw [Go.WideShapes.add_plain, hr j hj]
      simp [hj] at hu ⊢
      exact hu
  · intro u hu
    obtain ⟨z, _, rfl⟩ := List.mem_map.1 hu
    exact ok.one z
  · intro v' w' h2 h3 h4
    refine h v' w' ?_ h3 (fun h5 => hv (h4.1 h5).1)
    unfold Own
    rw [List.length_append, List.map_append, hl]; exact h2

/-- An append, outside a drawn region. -/
theorem app_e (ok : K.Ok) {ops : Array Oper} {rest : List Oper} {o : Oper} {a : Act} {Q : Exit → Act → World → Prop} (hw : Region.wanted o (yielded ops a.tmps) = true) (s x : Operand)
    (ho : o.op = .call { callee := .builtin .append, args := #[s, x], argTypes := #[K.s, K.s] }) (B : Nat) (hB : B ≤ w.heap.size) (v : Value) (l : List α) (hs : a.eval s = v) (hown : Own K w B v l)
    (A : Option Addr) (m c : Nat) (k : List α) (hx : a.eval x = .slice A m c) (hk : CameE K w A m k) (hm : l.length + k.length ≤ 1048576) (hv : v ≠ .slice none 0 0)
    (h : ∀ v' w', Own K w' B v' (l ++ k) → Go.RowKit.Below B w w' → v' ≠ .slice none 0 0 → wpList Try.prog ops Q rest (a.put o.dst v') w') : wpList Try.prog ops Q (o :: rest) a w := by
  refine wpList_step fun KK hK => ?_
  rw [if_pos hw]
  refine app_wp ok s x ho B hB v l hs hown A m c k hx hk hm hv fun v' w' h2 h3 h4 => hK _ _ (h v' w' h2 ?_ h4)
  exact (Go.RowKit.Below.refl B w).grown h3 hB (fun g hg => (World.ownsRow.lt hown g hg).1)

/-- An append, as a step of a drawn region. -/
theorem step_e (ok : K.Ok) {ops : Array Oper} {o : Oper} {a : Act} {KK : Act → World → Prop} {Q : Exit → Act → World → Prop} {E : Prop} (hw : Region.wanted o (yielded ops a.tmps) = true) (s x : Operand)
    (ho : o.op = .call { callee := .builtin .append, args := #[s, x], argTypes := #[K.s, K.s] }) (B : Nat) (hB : B ≤ w.heap.size) (v : Value) (l : List α) (hs : a.eval s = v) (hown : Own K w B v l)
    (A : Option Addr) (m c : Nat) (k : List α) (hx : a.eval x = .slice A m c) (hk : CameE K w A m k) (hm : l.length + k.length ≤ 1048576) (hv : v ≠ .slice none 0 0)
    (h : ∀ v' w', Own K w' B v' (l ++ k) → w.grownBy w' v.ownBlock → v' ≠ .slice none 0 0 → KK (a.put o.dst v') w') : if Region.wanted o (yielded ops a.tmps) = true then Oper.wp Try.prog o a w KK Q else E := by
  rw [if_pos hw]
  exact app_wp ok s x ho B hB v l hs hown A m c k hx hk hm hv h

set_option maxRecDepth 20000 in
/-- What 'make' leaves. -/
theorem run_madeE (ok : K.Ok) (w : World) (n : Nat) (hn : n ≤ 1048576) :
    (Instr.makeSlice K.s (.int .i64 (n : Int)) (.int .i64 (n : Int))).run Try.prog w = .ok (.slice (some ⟨w.heap.size, 0, none⟩) n n) (w.alloc (.cells ((List.replicate n K.z).map K.enc).toArray K.e)) := by
  obtain ⟨i0, hi, hz0, hz1, hz2⟩ := info_parts ok.info
  have hb := ok.bytes
  have hmul : (K.b : Int) * (n : Int) ≤ 281474976710656 := by
    have := Nat.mul_le_mul hb hn
    have e : ((K.b * n : Nat) : Int) ≤ 281474976710656 := by omega
    simpa using e
  have := run_make (P := Try.prog) w K.s K.e i0 (K.enc K.z) ok.under hi hz0 .i64 .i64 (n : Int) (n : Int) (by omega) (by omega) (by rw [hz2]; exact hmul) (by omega)
  rw [this, hz1]
  simp only [Int.toNat_natCast, Nat.mul_one]
  congr 3
  apply Array.ext
  · simp [madeCells]
  · intro k h1 h2
    simp [madeCells, ok.cz, Nat.mod_one]
end

/-- Numbers of 64 bits. -/
def KU : Kind Int := ⟨102, 99, .int .u64, 0, 8⟩
theorem okU : KU.Ok := ⟨Try.underlying102, by kernel_rfl, by decide, fun _ => rfl, rfl⟩
end Go.Proofs.Ytebdlmjpgohngaa
