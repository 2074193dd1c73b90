/-
  THE DOCUMENT'S ROWS OF DIGITS: the four of a number, the eight of a wide one, and the number of four. Condition: what is taken apart is of 64 bits, what is put together are digits.
-/
import Derived.Test.YtebdlmjpgohngaaDigNum
import Derived.Test.YtebdlmjpgohngaaRowu
import Derived.Deep.AppendLies
namespace Go.Proofs.Ytebdlmjpgohngaa
open Go.RowKit

/-- A block holds these numbers from its head on, and they may be written. -/
structure Nums (g : Nat) (l : List Int) (w : World) : Prop where
  lt : g < w.heap.size
  cell : ∀ j, j < l.length → w.cell? ⟨g, j, none⟩ = some (.int .u64 (l.getD j 0))
  frozen : ∀ j, j < l.length → w.frozen? ⟨g, j, none⟩ = false

theorem Nums.below {g : Nat} {l : List Int} {w w' : World} (h : Nums g l w) (hb : Below w.heap.size w w') : Nums g l w' :=
  ⟨Nat.lt_of_lt_of_le h.lt hb.size, fun j hj => (hb.cell (by exact h.lt)).trans (h.cell j hj), fun j hj => (hb.frozen (by exact h.lt)).trans (h.frozen j hj)⟩
theorem Nums.belowB {g B : Nat} {l : List Int} {w w' : World} (h : Nums g l w) (hb : Below B w w') (hB : g < B) : Nums g l w' :=
  ⟨Nat.lt_of_lt_of_le h.lt hb.size, fun j hj => (hb.cell (by exact hB)).trans (h.cell j hj), fun j hj => (hb.frozen (by exact hB)).trans (h.frozen j hj)⟩
theorem Nums.alloc {g : Nat} {l : List Int} {w : World} (h : Nums g l w) (o : Obj) : Nums g l (w.alloc o) := h.below (alloc_below w o)
theorem Nums.drewN {g : Nat} {l : List Int} {w : World} (h : Nums g l w) (n : Nat) : Nums g l (w.drewN n) := ⟨h.lt, h.cell, h.frozen⟩
theorem Nums.drew {g : Nat} {l : List Int} {w : World} (h : Nums g l w) : Nums g l w.drew := ⟨h.lt, h.cell, h.frozen⟩
theorem Nums.made (w : World) (l : List Int) : Nums w.heap.size l (w.alloc (.cells (l.map (Value.int .u64)).toArray 99)) := by
  have hh : (w.alloc (.cells (l.map (Value.int .u64)).toArray 99)).heap[w.heap.size]? = some (.cells (l.map (Value.int .u64)).toArray 99) := by rw [World.alloc]; simp
  refine ⟨by simp, fun j hj => ?_, fun j hj => ?_⟩
  · unfold World.cell?
    simp only [hh]
    simp [hj]
  · unfold World.frozen?
    simp only [hh]
    simp
theorem Nums.set {g : Nat} {l : List Int} {w : World} (h : Nums g l w) (i : Nat) (x : Int) (hi : i < l.length) : Nums g (l.set i x) (w.setCell ⟨g, i, none⟩ (.int .u64 x)) := by
  refine ⟨by have := h.lt; simp [World.setCell]; omega, fun j hj => ?_, fun j hj => ?_⟩
  · simp at hj
    by_cases e : i = j
    · subst e
      rw [World.cell?_setCell_same _ _ _ (h.cell i hi)]
      simp [List.getD_eq_getElem?_getD, hi]
    · rw [World.cell?_setCell_other _ _ _ _ (by simp), h.cell j hj]
      simp [List.getD_eq_getElem?_getD, List.getElem?_set_ne e]
  · simp at hj
    rw [World.frozen?_setCell]; exact h.frozen j hj
theorem Nums.other {g b : Nat} {l : List Int} {w : World} (h : Nums g l w) (hn : g ≠ b) (i : Nat) (v : Value) : Nums g l (w.setCell ⟨b, i, none⟩ v) := by
  refine ⟨by have := h.lt; simp [World.setCell]; omega, fun j hj => ?_, fun j hj => ?_⟩
  · rw [World.cell?_setCell_other _ _ _ _ (by simp), h.cell j hj]
  · rw [World.frozen?_setCell]; exact h.frozen j hj

theorem OwnRow.nums {w : World} {B : Nat} {v : Value} {l : List Int} (h : OwnRow w B v l) : (v = .slice none 0 0 ∧ l = []) ∨ ∃ g cap, v = .slice (some ⟨g, 0, none⟩) l.length cap ∧ B ≤ g ∧ l.length ≤ cap ∧ cap ≤ maxLen ∧ Nums g l w := by
  obtain ⟨h1, ⟨rfl, h0⟩ | ⟨g, cap, cur, rfl, hB, hg, hc, hm, hs, ht⟩⟩ := h
  · exact .inl ⟨rfl, List.eq_nil_of_length_eq_zero h0⟩
  · refine .inr ⟨g, cap, rfl, hB, hc, hm, (Array.getElem?_eq_some_iff.1 hg).1, fun j hj => ?_, fun j hj => ?_⟩
    · have e : (cur.toList.take (l.length * 1))[j]? = (l.map (Value.int .u64))[j]? := by rw [ht]
      rw [List.getElem?_take] at e
      simp only [Nat.mul_one, hj, if_true, List.getElem?_map, Array.getElem?_toList] at e
      simp only [World.cell?, hg]
      simp [e, hj]
    · simp [World.frozen?, hg]

theorem digits_at (n : Int) (h : Word n) (w : World) :
    Calls Try.prog 58 #[.int .u64 n] w fun e w' => e = .returned (.slice (some ⟨w.heap.size, 0, none⟩) 4 4) ∧ w.alloc (.cells ((digs n).map (Value.int .u64)).toArray 99) = w' := by
  obtain ⟨h0, h1⟩ := h
  go_enter Try.func58, Try.ntmps58
  go_wp2
  go_ret
  exact ⟨rfl, rfl⟩

theorem number_any (g off n cap : Nat) (l : List Int) (hd : Dig l) (ho : off + 3 < l.length) (hn : 4 ≤ n) (w : World) (h : Nums g l w) :
    Calls Try.prog 64 #[.slice (some ⟨g, off, none⟩) n cap] w fun e w' => e = .returned (.int .u64 (num4 l off)) ∧ ∃ k, w' = w.drewN k := by
  obtain ⟨x0, H0⟩ : ∃ x, Hid (l.getD off 0 = x) := ⟨_, rfl⟩
  obtain ⟨x1, H1⟩ : ∃ x, Hid (l.getD (off + 1) 0 = x) := ⟨_, rfl⟩
  obtain ⟨x2, H2⟩ : ∃ x, Hid (l.getD (off + 2) 0 = x) := ⟨_, rfl⟩
  obtain ⟨x3, H3⟩ : ∃ x, Hid (l.getD (off + 3) 0 = x) := ⟨_, rfl⟩
  have c0 := h.cell off (by omega)
  have c1 := h.cell (off + 1) (by omega)
  have c2 := h.cell (off + 2) (by omega)
  have c3 := h.cell (off + 3) (by omega)
  have d0 := hd off (by omega)
  have d1 := hd (off + 1) (by omega)
  have d2 := hd (off + 2) (by omega)
  have d3 := hd (off + 3) (by omega)
  have HR : Hid (num4 l off = x0 + x1 * 65536 + x2 * 4294967296 + x3 * 281474976710656) := by show _ = _; unfold num4; rw [H0.out, H1.out, H2.out, H3.out]
  rw [H0.out] at c0 d0
  rw [H1.out] at c1 d1
  rw [H2.out] at c2 d2
  rw [H3.out] at c3 d3
  have n0 : (0 : Int) < (n : Int) := by omega
  have n1 : (1 : Int) < (n : Int) := by omega
  have n2 : (2 : Int) < (n : Int) := by omega
  have n3 : (3 : Int) < (n : Int) := by omega
  have u1 : IntKind.u64.wrap (x1 * 65536) = x1 * 65536 := by rw [IntKind.wrap_u64]; omega
  have u2 : IntKind.u64.wrap (x2 * 4294967296) = x2 * 4294967296 := by rw [IntKind.wrap_u64]; omega
  have u3 : IntKind.u64.wrap (x3 * 281474976710656) = x3 * 281474976710656 := by rw [IntKind.wrap_u64]; omega
  have u4 : IntKind.u64.wrap (x0 + x1 * 65536) = x0 + x1 * 65536 := by rw [IntKind.wrap_u64]; omega
  have u5 : IntKind.u64.wrap (x0 + x1 * 65536 + x2 * 4294967296) = x0 + x1 * 65536 + x2 * 4294967296 := by rw [IntKind.wrap_u64]; omega
  have u6 : IntKind.u64.wrap (x0 + x1 * 65536 + x2 * 4294967296 + x3 * 281474976710656) = x0 + x1 * 65536 + x2 * 4294967296 + x3 * 281474976710656 := by rw [IntKind.wrap_u64]; omega
  clear d0 d1 d2 d3 h hd ho hn
  go_enter Try.func64, Try.ntmps64
  go_wp2_with fail
  go_quiet (fail)
  go_wp2_with fail
  go_ret
  exact ⟨by rw [HR.out]; rfl, nq, rfl⟩

/-- The four digits, as a row of the call's own. -/
theorem digs_own (w : World) (n : Int) (B : Nat) (hB : B ≤ w.heap.size) : OwnRow (w.alloc (.cells ((digs n).map (Value.int .u64)).toArray 99)) B (.slice (some ⟨w.heap.size, 0, none⟩) 4 4) (digs n) :=
  ⟨by simp, .inr ⟨w.heap.size, 4, ((digs n).map (Value.int .u64)).toArray, rfl, hB, by rw [World.alloc]; simp, Nat.le_refl 4, by decide, by simp [digs], by simp [digs]⟩⟩

theorem step_app {w : World} {ops : Array Oper} {o : Oper} {a : Act} {K : Act → World → Prop} {Q : Exit → Act → World → Prop} {E : Prop} (hgd : o.guard = none) (s x : Operand)
    (ho : o.op = .call { callee := .builtin .append, args := #[s, x], argTypes := #[102, 102] }) (B : Nat) (hB : B ≤ w.heap.size) (v : Value) (l : List Int) (hs : a.eval s = v) (hown : OwnRow w B v l)
    (nb m c : Nat) (k : List Int) (hx : a.eval x = .slice (some ⟨nb, 0, none⟩) m c) (hk : Nums nb k w) (hkm : k.length = m) (hpos : 0 < m) (hm : l.length + m ≤ 900)
    (h : ∀ g cap w', OwnRow w' B (.slice (some ⟨g, 0, none⟩) (l.length + m) cap) (l ++ k) → w.grownBy w' v.ownBlock → K (a.put o.dst (.slice (some ⟨g, 0, none⟩) (l.length + m) cap)) w') :
    if Region.wanted o (yielded ops a.tmps) = true then Oper.wp Try.prog o a w K Q else E := by
  obtain ⟨i0, hi, hz0, hz1, hz2⟩ := info_parts infoU64
  refine step_append_lies w hgd s x 102 ho B 99 i0 _ 1 8 Try.underlying102 hi hz0 hz1 hz2 rfl (by decide) v l.length (l.map (Value.int .u64)) hs hown ⟨nb, 0, none⟩ m c (k.map (Value.int .u64)) hx (by simp [hkm]) ?_ ?_ hpos (by unfold maxLen; omega) (by omega) hB w.heap.size rfl ?_
  · intro j u hu
    have hj : j < k.length := by
      rcases Nat.lt_or_ge j k.length with h' | h'
      · exact h'
      · rw [List.getElem?_eq_none (by simpa using h')] at hu; cases hu
    rw [Go.WideShapes.add_plain, Nat.zero_add, hk.cell j hj]
    simp [hj] at hu ⊢
    exact hu
  · intro u hu
    obtain ⟨z, _, rfl⟩ := List.mem_map.1 hu
    rfl
  · intro g cap w' h1 h2 _ _
    refine h g cap w' ?_ h2
    unfold OwnRow
    rw [List.length_append, List.map_append, hkm]
    exact h1

/-- A row of digits came back: of so many, that are such a number. -/
def Got (e : Ending) (w w' : World) (n : Nat) (v : Int) : Prop := ∃ g cap l, e = .returned (.slice (some ⟨g, 0, none⟩) n cap) ∧ n ≤ cap ∧ w.heap.size ≤ g ∧ l.length = n ∧ Dig l ∧ val l = v ∧ Nums g l w'

end Go.Proofs.Ytebdlmjpgohngaa
