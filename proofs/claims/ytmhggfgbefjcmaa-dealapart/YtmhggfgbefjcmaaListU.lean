/-
  THE LAW'S OWN SOURCE, a list: it hands out its numbers, and then 0, and nothing but its own place turns. Condition: fewer than 2^62 are taken.
-/
import Derived.Test.YtmhggfgbefjcmaaSrc
import Derived.Test.YtmhggfgbefjcmaaRowu
import Derived.Deep.QuietTactic
import Derived.BigQuiet
namespace Go.Proofs.Ytmhggfgbefjcmaa
open Go.RowKit

/-- A list's numbers, and then 0. -/
def nums (l : List Int) (k : Nat) : Int := l.getD k 0

/-- These numbers lie where a slice leads to, in another block than b. -/
def Apart (w : World) (b : Nat) (a : Option Addr) (l : List Int) : Prop := l = [] ∨ ∃ g off, a = some ⟨g, off, none⟩ ∧ g < w.heap.size ∧ g ≠ b ∧ Row w g off l

theorem Apart.but {w w' : World} {b : Nat} {a : Option Addr} {l : List Int} (h : Apart w b a l) (hb : But b w w') : Apart w' b a l := by
  rcases h with h | ⟨g, off, ha, hlt, hn, hr⟩
  · exact .inl h
  · exact .inr ⟨g, off, ha, Nat.lt_of_lt_of_le hlt hb.size, hn, fun j hj => (hb.cell (by exact hlt) (by exact hn)).trans (hr j hj)⟩
theorem Apart.below {w w' : World} {b : Nat} {a : Option Addr} {l : List Int} (h : Apart w b a l) (hb : Below w.heap.size w w') : Apart w' b a l := h.but (But.of_below hb)

/-- A list lies at block b, of which k have been taken. -/
structure ListAt (b : Nat) (a : Option Addr) (cap : Nat) (l : List Int) (k : Nat) (w : World) : Prop where
  lt : b < w.heap.size
  c0 : w.cell? ⟨b, 0, none⟩ = some (.slice a l.length cap)
  c1 : w.cell? ⟨b, 1, none⟩ = some (.int .i64 k)
  f1 : w.frozen? ⟨b, 1, none⟩ = false
  row : Apart w b a l

theorem ListAt.below {b : Nat} {a : Option Addr} {cap : Nat} {l : List Int} {k : Nat} {w w' : World} (h : ListAt b a cap l k w) (hb : Below w.heap.size w w') : ListAt b a cap l k w' :=
  ⟨Nat.lt_of_lt_of_le h.lt hb.size, (hb.cell (by exact h.lt)).trans h.c0, (hb.cell (by exact h.lt)).trans h.c1, (hb.frozen (by exact h.lt)).trans h.f1, h.row.below hb⟩

theorem ListAt.next {b : Nat} {a : Option Addr} {cap : Nat} {l : List Int} {k : Nat} {w w' : World} (h : ListAt b a cap l k w) (e : w'.heap = (w.setCell ⟨b, 1, none⟩ (.int .i64 ((k : Int) + 1))).heap) (hb : But b w w') : ListAt b a cap l (k + 1) w' := by
  have hc : ∀ p, w'.cell? p = (w.setCell ⟨b, 1, none⟩ (.int .i64 ((k : Int) + 1))).cell? p := fun p => by unfold World.cell?; rw [e]
  have hf : ∀ p, w'.frozen? p = (w.setCell ⟨b, 1, none⟩ (.int .i64 ((k : Int) + 1))).frozen? p := fun p => by unfold World.frozen?; rw [e]
  refine ⟨Nat.lt_of_lt_of_le h.lt hb.size, ?_, ?_, ?_, h.row.but hb⟩
  · rw [hc, World.cell?_setCell_other _ _ _ _ (by simp)]; exact h.c0
  · rw [hc]; exact (World.cell?_setCell_same _ _ _ h.c1).trans (by simp)
  · rw [hf, World.frozen?_setCell]; exact h.f1

set_option maxHeartbeats 400000 in
theorem list_next (b : Nat) (a : Option Addr) (cap : Nat) (l : List Int) (k : Nat) (w : World) (hk : k < 4611686018427387904) (h : ListAt b a cap l k w) :
    Calls Try.prog 73 #[.pointer (some ⟨b, 0, none⟩)] w fun e w' => e = .returned (.int .u64 (nums l k)) ∧ ListAt b a cap l (k + 1) w' ∧ But b w w' := by
  have c0 := h.c0
  have c1 := h.c1
  have f1 := h.f1
  have hb1 := But.setCell b 1 w (.int .i64 ((k : Int) + 1))
  have HB : Hid (∀ m n, But b w (((w.setCell ⟨b, 1, none⟩ (.int .i64 ((k : Int) + 1))).drewN m).drewN n)) := fun m n => ⟨hb1.os, hb1.tape, hb1.output, hb1.size, hb1.block⟩
  have HN : Hid (∀ m n, ListAt b a cap l (k + 1) (((w.setCell ⟨b, 1, none⟩ (.int .i64 ((k : Int) + 1))).drewN m).drewN n)) := fun m n => h.next rfl (HB.out m n)
  have d0 : (w.setCell ⟨b, 1, none⟩ (.int .i64 ((k : Int) + 1))).cell? ⟨b, 0, none⟩ = some (.slice a l.length cap) := by rw [World.cell?_setCell_other _ _ _ _ (by simp)]; exact c0
  have d1 : (w.setCell ⟨b, 1, none⟩ (.int .i64 ((k : Int) + 1))).cell? ⟨b, 1, none⟩ = some (.int .i64 ((k : Int) + 1)) := (World.cell?_setCell_same _ _ _ c1).trans (by simp)
  by_cases hlt : k < l.length
  · obtain ⟨g, off, rfl, hg, hn, hr⟩ : ∃ g off, a = some ⟨g, off, none⟩ ∧ g < w.heap.size ∧ g ≠ b ∧ Row w g off l := by
      rcases h.row with rfl | h'
      · simp at hlt
      · exact h'
    obtain ⟨x, HX⟩ : ∃ x, Hid (nums l k = x) := ⟨_, rfl⟩
    have d2 : (w.setCell ⟨b, 1, none⟩ (.int .i64 ((k : Int) + 1))).cell? ⟨g, off + k, none⟩ = some (.int .u64 x) := by
      rw [← HX.out]; exact (hb1.cell (by exact hg) (by exact hn)).trans (hr k hlt)
    clear hr hb1 h
    go_enter Try.func73, Try.ntmps73
    go_wp2_with fail
    go_quiet (fail)
    go_wp2_with fail
    go_quiet (fail)
    go_wp2
    go_ret
    exact ⟨congrArg (fun x => Ending.returned (Value.int .u64 x)) HX.out.symm, HN.out _ _, HB.out _ _⟩
  · have HX : Hid (nums l k = 0) := by show nums l k = 0; unfold nums; rw [List.getD_eq_getElem?_getD, List.getElem?_eq_none (by omega)]; rfl
    go_enter Try.func73, Try.ntmps73
    go_wp2_with fail
    go_quiet (fail)
    go_wp2
    go_ret
    exact ⟨congrArg (fun x => Ending.returned (Value.int .u64 x)) HX.out.symm, HN.out _ 0, HB.out _ 0⟩

/-- Numbers of 64 bits. -/
def All64 (l : List Int) : Prop := ∀ x ∈ l, 0 ≤ x ∧ x < 18446744073709551616
theorem All64.nums {l : List Int} (h : All64 l) (k : Nat) : 0 ≤ nums l k ∧ nums l k < 18446744073709551616 := by
  unfold Proofs.Ytmhggfgbefjcmaa.nums
  rcases Nat.lt_or_ge k l.length with hk | hk
  · simp only [List.getD_eq_getElem?_getD, List.getElem?_eq_getElem hk, Option.getD_some]; exact h _ (List.getElem_mem hk)
  · simp [List.getElem?_eq_none hk]

theorem list_src (b : Nat) (a : Option Addr) (cap : Nat) (l : List Int) (hl : All64 l) : Src 25 (.pointer (some ⟨b, 0, none⟩)) 73 b 4611686018427387904 (ListAt b a cap l) (nums l) :=
  ⟨fun _ => by kernel_rfl, fun _ => by kernel_rfl, hl.nums, fun k w hk h => list_next b a cap l k w hk h⟩

/-- Below, of a list. -/
theorem below_list (b : Nat) (a : Option Addr) (cap : Nat) (l : List Int) (hl : All64 l) (n : Int) (h0 : 0 ≤ n) (h1 : n < 18446744073709551616) (k : Nat) (w : World) (ht : k < 1000000) (h : ListAt b a cap l k w) (y : Int) (j : Nat) (e : Int) (hd : draw (nums l) n k = (y, j, e)) :
    Calls Try.prog 34 #[.iface 25 (.pointer (some ⟨b, 0, none⟩)), .int .u64 n] w fun x w' => x = .returned (.tuple #[.int .u64 y, .int .i64 e]) ∧ ListAt b a cap l j w' ∧ But b w w' := by
  have := below_any _ _ _ b _ _ _ (list_src b a cap l hl) n h0 h1 k w (by omega) h
  rw [hd] at this
  exact this

theorem ListAt.made (w : World) (a : Option Addr) (cap : Nat) (l : List Int) (h : HoldsRow w a l) : ListAt w.heap.size a cap l 0 (w.alloc (.cells #[.slice a l.length cap, .int .i64 0] 27)) := by
  refine ⟨by simp, by simp, by simp, by simp, ?_⟩
  rcases h with h | ⟨g, off, ha, hlt, hr⟩
  · exact .inl h
  · refine .inr ⟨g, off, ha, by simp; omega, by omega, fun j hj => ?_⟩
    rw [World.cell?_alloc_past _ _ _ hlt]; exact hr j hj

theorem ListAt.made1 (w : World) (x : Int) : ListAt (w.heap.size + 1) (some ⟨w.heap.size, 0, none⟩) 1 [x] 0 ((w.alloc (.cells #[.int .u64 x] 38)).alloc (.cells #[.slice (some ⟨w.heap.size, 0, none⟩) 1 1, .int .i64 0] 27)) := by
  have := ListAt.made (w.alloc (.cells #[.int .u64 x] 38)) (some ⟨w.heap.size, 0, none⟩) 1 [x] (.inr ⟨w.heap.size, 0, rfl, by simp, fun j hj => by
    have : j = 0 := by simp at hj; omega
    subst this
    simp⟩)
  simpa using this
theorem ListAt.made2 (w : World) (x y : Int) : ListAt (w.heap.size + 1) (some ⟨w.heap.size, 0, none⟩) 2 [x, y] 0 ((w.alloc (.cells #[.int .u64 x, .int .u64 y] 38)).alloc (.cells #[.slice (some ⟨w.heap.size, 0, none⟩) 2 2, .int .i64 0] 27)) := by
  have := ListAt.made (w.alloc (.cells #[.int .u64 x, .int .u64 y] 38)) (some ⟨w.heap.size, 0, none⟩) 2 [x, y] (.inr ⟨w.heap.size, 0, rfl, by simp, fun j hj => by
    have : j = 0 ∨ j = 1 := by simp at hj; omega
    rcases this with rfl | rfl
    · simp
    · simp⟩)
  simpa using this

theorem But.past2 {w w' : World} {o o' : Obj} (h : But (w.heap.size + 1) ((w.alloc o).alloc o') w') : Below w.heap.size w w' :=
  (((Below.refl w.heap.size w).alloc (Nat.le_refl _) o).alloc (by simp) o').trans (h.below (by omega) (by simp; omega))
theorem But.past1 {w w' : World} {o : Obj} (h : But w.heap.size (w.alloc o) w') : Below w.heap.size w w' :=
  ((Below.refl w.heap.size w).alloc (Nat.le_refl _) o).trans (h.below (by omega) (by simp))
end Go.Proofs.Ytmhggfgbefjcmaa
