/-
  ROWS OF INTEGERS: what a slice of ints that came in, or one of the call's own, holds; what a store into it leaves; two such slices held against one another. No condition.
-/
import Derived.Test.YtmhggfgbefjcmaaListU
namespace Go.Proofs.Ytmhggfgbefjcmaa
open Go.RowKit

/-- Some cells, one behind the other, hold these integers. -/
def RowI (w : World) (b off : Nat) (zs : List Int) : Prop := ∀ j, j < zs.length → w.cell? ⟨b, off + j, none⟩ = some (.int .i64 (zs.getD j 0))

/-- These integers lie where a slice leads to. -/
def HoldsI (w : World) (a : Option Addr) (l : List Int) : Prop := l = [] ∨ ∃ b off, a = some ⟨b, off, none⟩ ∧ b < w.heap.size ∧ RowI w b off l

theorem HoldsI.below {w w' : World} {a : Option Addr} {l : List Int} (h : HoldsI w a l) (hb : Below w.heap.size w w') : HoldsI w' a l := by
  rcases h with h | ⟨b, off, ha, hlt, hr⟩
  · exact .inl h
  · exact .inr ⟨b, off, ha, Nat.lt_of_lt_of_le hlt hb.size, fun j hj => (hb.cell (by exact hlt)).trans (hr j hj)⟩

/-- A block holds these integers from its head on, and they may be written. -/
structure Ints (g : Nat) (l : List Int) (w : World) : Prop where
  lt : g < w.heap.size
  cell : ∀ j, j < l.length → w.cell? ⟨g, j, none⟩ = some (.int .i64 (l.getD j 0))
  frozen : ∀ j, j < l.length → w.frozen? ⟨g, j, none⟩ = false

theorem Ints.below {g B : Nat} {l : List Int} {w w' : World} (h : Ints g l w) (hb : Below B w w') (hB : g < B) : Ints g l w' :=
  ⟨Nat.lt_of_lt_of_le h.lt hb.size, fun j hj => (hb.cell (by exact hB)).trans (h.cell j hj), fun j hj => (hb.frozen (by exact hB)).trans (h.frozen j hj)⟩
theorem Ints.but {g b : Nat} {l : List Int} {w w' : World} (h : Ints g l w) (hb : But b w w') (hn : g ≠ b) : Ints g l w' :=
  ⟨Nat.lt_of_lt_of_le h.lt hb.size, fun j hj => (hb.cell (by exact h.lt) (by exact hn)).trans (h.cell j hj), fun j hj => (hb.frozen (by exact h.lt) (by exact hn)).trans (h.frozen j hj)⟩
theorem Ints.holds {g : Nat} {l : List Int} {w : World} (h : Ints g l w) : HoldsI w (some ⟨g, 0, none⟩) l :=
  .inr ⟨g, 0, rfl, h.lt, fun j hj => by rw [Nat.zero_add]; exact h.cell j hj⟩
theorem Ints.take {g : Nat} {l : List Int} {w : World} (h : Ints g l w) (k : Nat) : Ints g (l.take k) w := by
  refine ⟨h.lt, fun j hj => ?_, fun j hj => h.frozen j (by simp at hj; omega)⟩
  simp at hj
  rw [h.cell j (by omega)]
  simp [List.getD_eq_getElem?_getD, show j < k by omega]
theorem Ints.set {g : Nat} {l : List Int} {w : World} (h : Ints g l w) (i : Nat) (x : Int) (hi : i < l.length) : Ints g (l.set i x) (w.setCell ⟨g, i, none⟩ (.int .i64 x)) := by
  refine ⟨by have := h.lt; simp [World.setCell]; omega, fun j hj => ?_, fun j hj => ?_⟩
  · simp at hj
    by_cases e : i = j
    · subst e
      rw [World.cell?_setCell_same _ _ _ (h.cell i hi)]
      simp [List.getD_eq_getElem?_getD, hi]
    · rw [World.cell?_setCell_other _ _ _ _ (by simp), h.cell j hj]
      simp [List.getD_eq_getElem?_getD, List.getElem?_set_ne e]
  · simp at hj
    rw [World.frozen?_setCell]; exact h.frozen j hj

/-- A row of the call's own holds these integers. -/
def OwnI (w : World) (B : Nat) (v : Value) (l : List Int) : Prop := w.ownsRow B 3 1 v l.length (l.map (Value.int .i64))

theorem OwnI.ints {w : World} {B : Nat} {v : Value} {l : List Int} (h : OwnI w B v l) : (v = .slice none 0 0 ∧ l = []) ∨ ∃ g cap, v = .slice (some ⟨g, 0, none⟩) l.length cap ∧ B ≤ g ∧ l.length ≤ cap ∧ cap ≤ maxLen ∧ Ints g l w := by
  obtain ⟨h1, ⟨rfl, h0⟩ | ⟨g, cap, cur, rfl, hB, hg, hc, hm, hs, ht⟩⟩ := h
  · exact .inl ⟨rfl, List.eq_nil_of_length_eq_zero h0⟩
  · refine .inr ⟨g, cap, rfl, hB, hc, hm, (Array.getElem?_eq_some_iff.1 hg).1, fun j hj => ?_, fun j hj => ?_⟩
    · have e : (cur.toList.take (l.length * 1))[j]? = (l.map (Value.int .i64))[j]? := by rw [ht]
      rw [List.getElem?_take] at e
      simp only [Nat.mul_one, hj, if_true, List.getElem?_map, Array.getElem?_toList] at e
      simp only [World.cell?, hg]
      simp [e, hj]
    · simp [World.frozen?, hg]

theorem infoInt : (Try.prog.info? 3).map (fun i => (i.zero, i.size, i.bytes)) = some (some (.int .i64 0), 1, 8) := by kernel_rfl

/-- What 'make([]int, n)' leaves. -/
theorem Ints.made (w : World) (l : List Int) : Ints w.heap.size l (w.alloc (.cells (l.map (Value.int .i64)).toArray 3)) := by
  have hh : (w.alloc (.cells (l.map (Value.int .i64)).toArray 3)).heap[w.heap.size]? = some (.cells (l.map (Value.int .i64)).toArray 3) := by rw [World.alloc]; simp
  refine ⟨by simp, fun j hj => ?_, fun j hj => ?_⟩
  · unfold World.cell?
    simp only [hh]
    simp [hj]
  · unfold World.frozen?
    simp only [hh]
    simp

theorem run_made (w : World) (n : Nat) (hn : n ≤ 1048576) : (Instr.makeSlice 28 (.int .i64 (n : Int)) (.int .i64 (n : Int))).run Try.prog w = .ok (.slice (some ⟨w.heap.size, 0, none⟩) n n) (w.alloc (.cells ((List.replicate n (0 : Int)).map (Value.int .i64)).toArray 3)) := by
  obtain ⟨i0, hi, hz0, hz1, hz2⟩ := info_parts infoInt
  have := run_make (P := Try.prog) w 28 3 i0 (.int .i64 0) Try.underlying28 hi hz0 .i64 .i64 (n : Int) (n : Int) (by omega) (by omega) (by rw [hz2]; omega) (by omega)
  rw [this, hz1]
  simp only [Int.toNat_natCast, Nat.mul_one]
  congr 3
  apply Array.ext
  · simp [madeCells]
  · intro k h1 h2
    simp [madeCells, Value.cells, Nat.mod_one]

theorem eq_of_getD {l k : List Int} (h : l.length = k.length) (hj : ∀ j, j < l.length → l.getD j 0 = k.getD j 0) : l = k := by
  apply List.ext_getElem h
  intro j h1 h2
  have := hj j h1
  simpa [List.getD_eq_getElem?_getD, h1, h2] using this

set_option maxHeartbeats 400000 in
theorem same_any (a a2 : Option Addr) (cap cap2 : Nat) (l k : List Int) (hlen : l.length ≤ 1048576) (hlen2 : k.length ≤ 1048576) (w : World) (hr : HoldsI w a l) (hr2 : HoldsI w a2 k) :
    Calls Try.prog 13 #[.slice a l.length cap, .slice a2 k.length cap2] w fun e w' => e = .returned (.bool (decide (l = k))) ∧ Below w.heap.size w w' := by
  by_cases hn : l.length = k.length
  · have hnb : ((l.length : Int) == (k.length : Int)) = true := by simp [hn]
    go_enter Try.func13, Try.ntmps13
    go_wp2_with fail
    go_loopw [5] (fun i wr => ∃ j : Nat, j ≤ l.length ∧ i = .int .i64 j ∧ Below w.heap.size w wr ∧ Hid (∀ t, t < j → l.getD t 0 = k.getD t 0)) (fun i _ => l.length - (intOf i).toNat)
    case atStart => exact ⟨0, by omega, rfl, Below.refl _ _, fun t ht => by omega⟩
    case round =>
      obtain ⟨j, hj, rfl, hB, HE⟩ := hrel
      by_cases hlt : j < l.length
      · obtain ⟨g, off, rfl, hg, hrow⟩ : ∃ g off, a = some ⟨g, off, none⟩ ∧ g < w.heap.size ∧ RowI w g off l := by
          rcases hr with rfl | h'
          · simp at hlt
          · exact h'
        obtain ⟨g2, off2, rfl, hg2, hrow2⟩ : ∃ g off, a2 = some ⟨g, off, none⟩ ∧ g < w.heap.size ∧ RowI w g off k := by
          rcases hr2 with rfl | h'
          · exact absurd hlt (by rw [hn]; simp)
          · exact h'
        have hlt2 : j < k.length := by omega
        obtain ⟨x, HX⟩ : ∃ x, Hid (l.getD j 0 = x) := ⟨_, rfl⟩
        obtain ⟨y, HY⟩ : ∃ y, Hid (k.getD j 0 = y) := ⟨_, rfl⟩
        have c1 : wr.cell? ⟨g, off + j, none⟩ = some (.int .i64 x) := by rw [← HX.out]; exact (hB.cell (by exact hg)).trans (hrow j hlt)
        have c2 : wr.cell? ⟨g2, off2 + j, none⟩ = some (.int .i64 y) := by rw [← HY.out]; exact (hB.cell (by exact hg2)).trans (hrow2 j hlt2)
        have HB : Hid (∀ n, Below w.heap.size w (wr.drewN n)) := fun n => ⟨hB.os, hB.tape, hB.output, hB.size, hB.block⟩
        clear hr hr2 hrow hrow2 hB
        by_cases hxy : x = y
        · have HE2 : Hid (∀ t, t < j + 1 → l.getD t 0 = k.getD t 0) := fun t ht => by
            by_cases e : t = j
            · subst e; rw [HX.out, HY.out, hxy]
            · exact HE.out t (by omega)
          clear HE
          go_wp2_with fail
          go_quiet (fail)
          go_wp2_with fail
          go_roundw
          case rel => exact ⟨j + 1, by omega, by go_num, HB.out _, HE2⟩
          case measure => simp [intOf]; omega
        · have hne : decide (l = k) = false := decide_eq_false (fun h => hxy (by rw [← HX.out, ← HY.out, h]))
          go_wp2_with fail
          go_quiet (fail)
          go_wp2_with fail
          go_ret
          exact ⟨congrArg (fun b => Ending.returned (.bool b)) hne.symm, HB.out _⟩
      · have hj2 : j = l.length := by omega
        have hd : decide (l = k) = true := decide_eq_true (eq_of_getD hn (fun t ht => HE.out t (by omega)))
        go_wp2_with fail
        go_ret
        exact ⟨congrArg (fun b => Ending.returned (.bool b)) hd.symm, hB⟩
  · have hnb : ((l.length : Int) == (k.length : Int)) = false := by simp; omega
    have hne : decide (l = k) = false := decide_eq_false (fun h => hn (by rw [h]))
    go_enter Try.func13, Try.ntmps13
    go_wp2_with fail
    go_ret
    exact ⟨congrArg (fun b => Ending.returned (.bool b)) hne.symm, Below.refl _ _⟩
end Go.Proofs.Ytmhggfgbefjcmaa
