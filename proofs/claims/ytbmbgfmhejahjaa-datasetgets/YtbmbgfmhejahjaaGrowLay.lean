/-
  slices.Grow at bytes, laid at this program: a row of the call's own holds the same bytes behind it. Condition: no more than 2^20 bytes.
-/
import Derived.Test.YtbmbgfmhejahjaaApp0
import Derived.Shelf.Spec.SlicesGrow
namespace Go.Proofs.Ytbmbgfmhejahjaa
open Go.RowKit Go.Shelf

def laysGrow_ren : Go.Shelf.Ren := ⟨fun | 4 => 47 | n => n, fun | 0 => 0 | 3 => 3 | 4 => 4 | 9 => 9 | 20 => 20 | 22 => 30 | 25 => 5 | n => n, fun n => n⟩
theorem laysGrow : Lays8.n4 Try.prog laysGrow_ren := {
  mixed := by kernel_rfl
  f4 := ⟨Try.f47.name, by kernel_rfl, Try.func47.trans (congrArg some (by kernel_rfl))⟩
  t0 := Try.underlying0
  a0 := Try.isAgg0
  z0 := Try.sizeOf0
  v0 := Try.zeroValue0
  t3 := Try.underlying3
  a3 := Try.isAgg3
  z3 := Try.sizeOf3
  v3 := Try.zeroValue3
  t4 := Try.underlying4
  a4 := Try.isAgg4
  z4 := Try.sizeOf4
  v4 := Try.zeroValue4
  t9 := Try.underlying9
  a9 := Try.isAgg9
  z9 := Try.sizeOf9
  v9 := Try.zeroValue9
  t20 := Try.underlying20
  a20 := Try.isAgg20
  z20 := Try.sizeOf20
  v20 := Try.zeroValue20
  t22 := Try.underlying30
  a22 := Try.isAgg30
  z22 := Try.sizeOf30
  v22 := Try.zeroValue30 }

/-- A new row behind all that the elder one's array held. -/
theorem grown_own (w : World) (B need c : Nat) (hB : B ≤ w.heap.size) (l : List UInt8) (cs : List Value) (hcs : cs.length = c) (hc : c ≤ need) (hn : need ≤ 1048576) (hl : l.length ≤ c) (hm : cs.take l.length = l.map KB.enc) (z : Value) (hz : z.cells.size = 1) :
    Own KB (w.drew.alloc (.cells (cs.toArray ++ Builtin.zeroCells z.cells (need - c) ++ Builtin.zeroCells z.cells (grownCap w need c 5 - need)) 5)) B (.slice (some ⟨w.heap.size, 0, none⟩) l.length (grownCap w need c 5)) l := by
  have hgr := grownCap_ge w need c 5
  have hgm := grownCap_le_maxLen w need c 5 (by unfold maxLen; omega)
  refine ⟨by simp, .inr ⟨w.heap.size, _, cs.toArray ++ Builtin.zeroCells z.cells (need - c) ++ Builtin.zeroCells z.cells (grownCap w need c 5 - need), rfl, hB, ?_, by omega, hgm, ?_, ?_⟩⟩
  · exact heap_alloc_new w.drew _
  · simp [Builtin.zeroCells, hz, hcs]; omega
  · rw [Nat.mul_one, Array.toList_append, Array.toList_append, List.append_assoc, List.take_append_of_le_length (by simp [hcs]; omega)]
    exact hm

theorem grow_any (B n : Nat) (v : Value) (l : List UInt8) (w : World) (h : Own KB w B v l) (hB : B ≤ w.heap.size) (hn : l.length + n ≤ 1048576) :
    Calls Try.prog 47 #[v, .int .i64 (n : Int)] w fun e w' => ∃ v', e = .returned v' ∧ Own KB w' B v' l ∧ Go.RowKit.Below w.heap.size w w' := by
  have h0 := h
  have bel : ∀ o, Go.RowKit.Below w.heap.size w (w.drew.alloc o) := fun o => ((Go.RowKit.Below.refl w.heap.size w).drew).alloc (Nat.le_refl _) _
  obtain ⟨i0, hi, hz0, hz1, hz2⟩ := info_parts okB.info
  obtain ⟨h1, ⟨rfl, hl0⟩ | ⟨g, cap, cur, rfl, hg, hh, hc, hm, hs, ht⟩⟩ := h
  · obtain rfl := List.eq_nil_of_length_eq_zero hl0
    rcases Nat.eq_zero_or_pos n with rfl | hp
    · refine (Any8.slices_Grow_room laysGrow none 0 0 0 w (by omega) (by omega) (by omega) (by omega)).mono ?_
      rintro e w' ⟨rfl, rfl⟩
      exact ⟨_, rfl, h0, Go.RowKit.Below.refl _ _⟩
    · refine (Any8.slices_Grow_grow laysGrow i0 _ hi hz0 (by rw [hz1]; decide) none 0 0 n [] w (by omega) (by omega) (by rw [hz2]; show _ * 1 ≤ _; omega) (by omega) (by simp) (fun _ => rfl) (fun a h => by cases h)).mono ?_
      rintro e w' ⟨rfl, rfl⟩
      exact ⟨_, rfl, grown_own w B (0 + n) 0 hB [] [] rfl (by omega) (by simp at hn; omega) (by simp) rfl _ rfl, bel _⟩
  · rcases Nat.lt_or_ge cap (l.length + n) with hp | hp
    · refine (Any8.slices_Grow_grow laysGrow i0 _ hi hz0 (by rw [hz1]; decide) (some ⟨g, 0, none⟩) l.length cap n cur.toList w (by omega) (by omega) (by rw [hz2]; show _ * 1 ≤ _; omega) (by omega) (by simp [hs, hz1]) (fun h => by cases h) (fun a ha j v hj => ?_)).mono ?_
      · obtain rfl := Option.some.inj ha
        rw [Go.WideShapes.add_plain]
        simp only [World.cell?, hh]
        simpa using hj
      · rintro e w' ⟨rfl, rfl⟩
        exact ⟨_, rfl, grown_own w B (l.length + n) cap hB l cur.toList (by simp [hs]) (by omega) hn hc (by simpa using ht) _ rfl, bel _⟩
    · have := hm
      unfold maxLen at this
      refine (Any8.slices_Grow_room laysGrow (some ⟨g, 0, none⟩) l.length cap n w hc (by omega) (by omega) hp).mono ?_
      rintro e w' ⟨rfl, rfl⟩
      exact ⟨_, rfl, h0, Go.RowKit.Below.refl _ _⟩
end Go.Proofs.Ytbmbgfmhejahjaa
