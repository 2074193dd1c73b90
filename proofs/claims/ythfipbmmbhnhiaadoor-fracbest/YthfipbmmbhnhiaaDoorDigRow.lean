/-
  THE DOCUMENT'S ROWS OF DIGITS: the four of a number, the eight of a wide one, and the number of four. Condition: what is taken apart is of 64 bits, what is put together are digits.
-/
import Derived.Test.YthfipbmmbhnhiaaDoorDigNum
import Derived.Test.YthfipbmmbhnhiaaDoorRowu
import Derived.Deep.AppendLies
namespace Go.Proofs.YthfipbmmbhnhiaaDoor
open Go.RowKit

/-- A block holds these numbers from its head on, and they may be written. -/
structure Nums (g : Nat) (l : List Int) (w : World) : Prop where
  lt : g < w.heap.size
  cell : ∀ j, j < l.length → w.cell? ⟨g, j, none⟩ = some (.int .u64 (l.getD j 0))
  frozen : ∀ j, j < l.length → w.frozen? ⟨g, j, none⟩ = false

theorem Nums.below {g : Nat} {l : List Int} {w w' : World} (h : Nums g l w) (hb : Below w.heap.size w w') : Nums g l w' :=
  ⟨Nat.lt_of_lt_of_le h.lt hb.size, fun j hj => (hb.cell (by exact h.lt)).trans (h.cell j hj), fun j hj => (hb.frozen (by exact h.lt)).trans (h.frozen j hj)⟩
theorem Nums.belowB {g B : Nat} {l : List Int} {w w' : World} (h : Nums g l w) (hb : Below B w w') (hB : g < B) : Nums g l w' :=
  ⟨Nat.lt_of_lt_of_le h.lt hb.size, fun j hj => (hb.cell (by exact hB)).trans (h.cell j hj), fun j hj => (hb.frozen (by exact hB)).trans (h.frozen j hj)⟩
theorem Nums.alloc {g : Nat} {l : List Int} {w : World} (h : Nums g l w) (o : Obj) : Nums g l (w.alloc o) := h.below (alloc_below w o)
theorem Nums.drewN {g : Nat} {l : List Int} {w : World} (h : Nums g l w) (n : Nat) : Nums g l (w.drewN n) := ⟨h.lt, h.cell, h.frozen⟩
theorem Nums.drew {g : Nat} {l : List Int} {w : World} (h : Nums g l w) : Nums g l w.drew := ⟨h.lt, h.cell, h.frozen⟩
theorem Nums.made (w : World) (l : List Int) : Nums w.heap.size l (w.alloc (.cells (l.map (Value.int .u64)).toArray 22)) := by
  have hh : (w.alloc (.cells (l.map (Value.int .u64)).toArray 22)).heap[w.heap.size]? = some (.cells (l.map (Value.int .u64)).toArray 22) := by rw [World.alloc]; simp
  refine ⟨by simp, fun j hj => ?_, fun j hj => ?_⟩
  · unfold World.cell?
    simp only [hh]
    simp [hj]
  · unfold World.frozen?
    simp only [hh]
    simp
theorem Nums.set {g : Nat} {l : List Int} {w : World} (h : Nums g l w) (i : Nat) (x : Int) (hi : i < l.length) : Nums g (l.set i x) (w.setCell ⟨g, i, none⟩ (.int .u64 x)) := by
  refine ⟨by have := h.lt; simp [World.setCell]; omega, fun j hj => ?_, fun j hj => ?_⟩
  · simp at hj
    by_cases e : i = j
    · subst e
      rw [World.cell?_setCell_same _ _ _ (h.cell i hi)]
      simp [List.getD_eq_getElem?_getD, hi]
    · rw [World.cell?_setCell_other _ _ _ _ (by simp), h.cell j hj]
      simp [List.getD_eq_getElem?_getD, List.getElem?_set_ne e]
  · simp at hj
    rw [World.frozen?_setCell]; exact h.frozen j hj
theorem Nums.other {g b : Nat} {l : List Int} {w : World} (h : Nums g l w) (hn : g ≠ b) (i : Nat) (v : Value) : Nums g l (w.setCell ⟨b, i, none⟩ v) := by
  refine ⟨by have := h.lt; simp [World.setCell]; omega, fun j hj => ?_, fun j hj => ?_⟩
  · rw [World.cell?_setCell_other _ _ _ _ (by simp), h.cell j hj]
  · rw [World.frozen?_setCell]; exact h.frozen j hj

theorem OwnRow.nums {w : World} {B : Nat} {v : Value} {l : List Int} (h : OwnRow w B v l) : (v = .slice none 0 0 ∧ l = []) ∨ ∃ g cap, v = .slice (some ⟨g, 0, none⟩) l.length cap ∧ B ≤ g ∧ l.length ≤ cap ∧ cap ≤ maxLen ∧ Nums g l w := by
  obtain ⟨h1, ⟨rfl, h0⟩ | ⟨g, cap, cur, rfl, hB, hg, hc, hm, hs, ht⟩⟩ := h
  · exact .inl ⟨rfl, List.eq_nil_of_length_eq_zero h0⟩
  · refine .inr ⟨g, cap, rfl, hB, hc, hm, (Array.getElem?_eq_some_iff.1 hg).1, fun j hj => ?_, fun j hj => ?_⟩
    · have e : (cur.toList.take (l.length * 1))[j]? = (l.map (Value.int .u64))[j]? := by rw [ht]
      rw [List.getElem?_take] at e
      simp only [Nat.mul_one, hj, if_true, List.getElem?_map, Array.getElem?_toList] at e
      simp only [World.cell?, hg]
      simp [e, hj]
    · simp [World.frozen?, hg]

theorem digits_at (n : Int) (h : Word n) (w : World) :
    Calls Tryd.prog 25 #[.int .u64 n] w fun e w' => e = .returned (.slice (some ⟨w.heap.size, 0, none⟩) 4 4) ∧ w.alloc (.cells ((digs n).map (Value.int .u64)).toArray 22) = w' := by
  obtain ⟨h0, h1⟩ := h
  go_enter Tryd.func25, Tryd.ntmps25
  go_wp2
  go_ret
  exact ⟨rfl, rfl⟩

/-- The four digits, as a row of the call's own. -/
theorem digs_own (w : World) (n : Int) (B : Nat) (hB : B ≤ w.heap.size) : OwnRow (w.alloc (.cells ((digs n).map (Value.int .u64)).toArray 22)) B (.slice (some ⟨w.heap.size, 0, none⟩) 4 4) (digs n) :=
  ⟨by simp, .inr ⟨w.heap.size, 4, ((digs n).map (Value.int .u64)).toArray, rfl, hB, by rw [World.alloc]; simp, Nat.le_refl 4, by decide, by simp [digs], by simp [digs]⟩⟩

theorem step_app {w : World} {ops : Array Oper} {o : Oper} {a : Act} {K : Act → World → Prop} {Q : Exit → Act → World → Prop} {E : Prop} (hgd : o.guard = none) (s x : Operand)
    (ho : o.op = .call { callee := .builtin .append, args := #[s, x], argTypes := #[49, 49] }) (B : Nat) (hB : B ≤ w.heap.size) (v : Value) (l : List Int) (hs : a.eval s = v) (hown : OwnRow w B v l)
    (nb m c : Nat) (k : List Int) (hx : a.eval x = .slice (some ⟨nb, 0, none⟩) m c) (hk : Nums nb k w) (hkm : k.length = m) (hpos : 0 < m) (hm : l.length + m ≤ 900)
    (h : ∀ g cap w', OwnRow w' B (.slice (some ⟨g, 0, none⟩) (l.length + m) cap) (l ++ k) → w.grownBy w' v.ownBlock → K (a.put o.dst (.slice (some ⟨g, 0, none⟩) (l.length + m) cap)) w') :
    if Region.wanted o (yielded ops a.tmps) = true then Oper.wp Tryd.prog o a w K Q else E := by
  obtain ⟨i0, hi, hz0, hz1, hz2⟩ := info_parts infoU64
  refine step_append_lies w hgd s x 49 ho B 22 i0 _ 1 8 Tryd.underlying49 hi hz0 hz1 hz2 rfl (by decide) v l.length (l.map (Value.int .u64)) hs hown ⟨nb, 0, none⟩ m c (k.map (Value.int .u64)) hx (by simp [hkm]) ?_ ?_ hpos (by unfold maxLen; omega) (by omega) hB w.heap.size rfl ?_
  · intro j u hu
    have hj : j < k.length := by
      rcases Nat.lt_or_ge j k.length with h' | h'
      · exact h'
      · rw [List.getElem?_eq_none (by simpa using h')] at hu; cases hu
    rw [Go.WideShapes.add_plain, Nat.zero_add, hk.cell j hj]
    simp [hj] at hu ⊢
    exact hu
  · intro u hu
    obtain ⟨z, _, rfl⟩ := List.mem_map.1 hu
    rfl
  · intro g cap w' h1 h2 _ _
    refine h g cap w' ?_ h2
    unfold OwnRow
    rw [List.length_append, List.map_append, hkm]
    exact h1

/-- A row of digits came back: of so many, that are such a number. -/
def Got (e : Ending) (w w' : World) (n : Nat) (v : Int) : Prop := ∃ g cap l, e = .returned (.slice (some ⟨g, 0, none⟩) n cap) ∧ n ≤ cap ∧ w.heap.size ≤ g ∧ l.length = n ∧ Dig l ∧ val l = v ∧ Nums g l w'

set_option maxHeartbeats 1000000 in
theorem ofWide_any (h l : Int) (hh : Word h) (hl : Word l) (w : World) :
    Calls Tryd.prog 24 #[.agg #[.int .u64 h, .int .u64 l]] w fun e w' => Got e w w' 8 (h * 18446744073709551616 + l) ∧ Below w.heap.size w w' := by
  have bx := alloc_below w (.cells #[.int .u64 h, .int .u64 l] 24)
  have HO : Hid (OwnRow (((w.alloc (.cells #[.int .u64 h, .int .u64 l] 24)).alloc (.cells ((digs l).map (Value.int .u64)).toArray 22)).alloc (.cells ((digs h).map (Value.int .u64)).toArray 22)) w.heap.size (.slice (some ⟨w.heap.size + 1, 0, none⟩) 4 4) (digs l)) := by
    have := (digs_own (w.alloc (.cells #[.int .u64 h, .int .u64 l] 24)) l w.heap.size (by simp)).alloc (.cells ((digs h).map (Value.int .u64)).toArray 22)
    rw [show (w.alloc (.cells #[.int .u64 h, .int .u64 l] 24)).heap.size = w.heap.size + 1 by simp] at this
    exact this
  have HN : Hid (Nums (w.heap.size + 1 + 1) (digs h) (((w.alloc (.cells #[.int .u64 h, .int .u64 l] 24)).alloc (.cells ((digs l).map (Value.int .u64)).toArray 22)).alloc (.cells ((digs h).map (Value.int .u64)).toArray 22))) := by
    have := Nums.made ((w.alloc (.cells #[.int .u64 h, .int .u64 l] 24)).alloc (.cells ((digs l).map (Value.int .u64)).toArray 22)) (digs h)
    rw [show ((w.alloc (.cells #[.int .u64 h, .int .u64 l] 24)).alloc (.cells ((digs l).map (Value.int .u64)).toArray 22)).heap.size = w.heap.size + 1 + 1 by simp] at this
    exact this
  have HA : Hid (At2 w.heap.size h l (((w.alloc (.cells #[.int .u64 h, .int .u64 l] 24)).alloc (.cells ((digs l).map (Value.int .u64)).toArray 22)).alloc (.cells ((digs h).map (Value.int .u64)).toArray 22))) := ((At2.new w h l).alloc _).alloc _
  have HB := Lib.hid (more (more bx (.cells ((digs l).map (Value.int .u64)).toArray 22)) (.cells ((digs h).map (Value.int .u64)).toArray 22))
  have hdl : (digs l).length = 4 := rfl
  have hdh : (digs h).length = 4 := rfl
  go_enter Tryd.func24, Tryd.ntmps24
  go_wp2_with fail
  go_region_held3 (fun w' => w'.cell? ⟨w.heap.size, 0, none⟩ = some (.int .u64 h) ∧ w'.cell? ⟨w.heap.size, 1, none⟩ = some (.int .u64 l)) (first | exact kD | (simp [go_sem, World.cell?_alloc_past]; done))
    (first
      | (go_at_call 25; refine (digits_at _ (by assumption) _).mono ?_; rintro e w' ⟨rfl, rfl⟩)
      | (refine step_app (by rfl) _ _ (by rfl) w.heap.size HB.out.size (.slice (some ⟨w.heap.size + 1, 0, none⟩) 4 4) (digs l) (by rfl) HO.out (w.heap.size + 1 + 1) 4 4 (digs h) (by rfl) HN.out.drew hdh (by decide) (by rw [hdl]; decide) ?_
         intro g cap w5 own5 grow5
         have kD : w5.cell? ⟨w.heap.size, 0, none⟩ = some (.int .u64 h) ∧ w5.cell? ⟨w.heap.size, 1, none⟩ = some (.int .u64 l) :=
           ⟨World.grownBy.cell grow5 HA.out.c0 (by show some w.heap.size ≠ some (w.heap.size + 1); simp), World.grownBy.cell grow5 HA.out.c1 (by show some w.heap.size ≠ some (w.heap.size + 1); simp)⟩
         have b5 := HB.out.drew.grown grow5 HB.out.size (fun k hk => by cases hk; show w.heap.size ≤ w.heap.size + 1; omega)
         rw [hdl] at own5 ⊢))
  obtain ⟨h1, _⟩ | ⟨g', c', e1, hg, hc, _, hI⟩ := own5.nums
  · cases h1
  injection e1 with e1 e2 e3
  injection e1 with e1
  injection e1 with e1
  subst e1 e3
  clear e2 kD grow5
  have HG : Hid (Got (.returned (.slice (some ⟨g, 0, none⟩) (4 + 4) cap)) w w5 8 (h * 18446744073709551616 + l)) := ⟨g, cap, digs l ++ digs h, rfl, hc, hg, rfl, (digs_dig hl).append (digs_dig hh), wide_val h l, hI⟩
  clear own5 hI HO HN HA HB bx
  go_wp2_with fail
  go_ret
  exact ⟨HG.out, b5⟩
end Go.Proofs.YthfipbmmbhnhiaaDoor
