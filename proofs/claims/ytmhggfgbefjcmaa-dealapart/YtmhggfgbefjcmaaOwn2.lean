/-
  DealApart's walk: for every twelve numbers the law answers true and turns no memory that was there. Conditions: the numbers are at least 0 and below 256.
-/
import Derived.Test.YtmhggfgbefjcmaaApartNum
import Derived.Deep.AppendLies
import Derived.Deep.RegionHeld3
namespace Go.Proofs.Ytmhggfgbefjcmaa
open Go.RowKit

theorem OwnRow.drew {w : World} {B : Nat} {v : Value} {l : List Int} (h : OwnRow w B v l) : OwnRow w.drew B v l := h
theorem OwnRow.far {w w' : World} {B : Nat} {v : Value} {l : List Int} {row : Option Nat} (h : OwnRow w B v l) (hg : w.grownBy w' row) (hne : ∀ g, v.ownBlock = some g → some g ≠ row) : OwnRow w' B v l := by
  obtain ⟨h1, ⟨rfl, h0⟩ | ⟨g, cap, cur, rfl, hB, hh, r⟩⟩ := h
  · exact ⟨h1, .inl ⟨rfl, h0⟩⟩
  · exact ⟨h1, .inr ⟨g, cap, cur, rfl, hB, (hg.block g (Array.getElem?_eq_some_iff.1 hh).1 (hne g rfl)).trans hh, r⟩⟩
theorem OwnRow.at {w : World} {B g n cap : Nat} {l : List Int} (h : OwnRow w B (.slice (some ⟨g, 0, none⟩) n cap) l) (j : Nat) (hj : j < l.length) : w.cell? ⟨g, j, none⟩ = some (.int .u64 (l.getD j 0)) := by
  obtain ⟨a, c, e, hr⟩ := h.slice
  injection e with e1 e2 e3
  subst e1
  rcases hr with rfl | ⟨g', off, e4, _, _, hr⟩
  · simp at hj
  · injection e4 with e4
    injection e4 with e5 e6
    subst e5 e6
    have := hr j hj
    rwa [Nat.zero_add] at this
theorem OwnRow.lt {w : World} {B : Nat} {v : Value} {l : List Int} (h : OwnRow w B v l) : ∀ g, v.ownBlock = some g → B ≤ g ∧ g < w.heap.size := fun g hg => World.ownsRow.lt h g hg

theorem step_u64 {w : World} {ops : Array Oper} {o : Oper} {a : Act} {K : Act → World → Prop} {Q : Exit → Act → World → Prop} {E : Prop} (hgd : o.guard = none) (s x : Operand)
    (ho : o.op = .call { callee := .builtin .append, args := #[s, x], argTypes := #[22, 22] }) (B : Nat) (hB : B ≤ w.heap.size) (v : Value) (l : List Int) (hs : a.eval s = v) (hown : OwnRow w B v l)
    (nb : Nat) (z : Int) (hx : a.eval x = .slice (some ⟨nb, 0, none⟩) 1 1) (hz : w.cell? ⟨nb, 0, none⟩ = some (.int .u64 z)) (hm : l.length ≤ 900)
    (h : ∀ g cap w', OwnRow w' B (.slice (some ⟨g, 0, none⟩) (l.length + 1) cap) (l ++ [z]) → w.grownBy w' v.ownBlock → (v.ownBlock = some g ∨ g = w.heap.size) → g < w'.heap.size → K (a.put o.dst (.slice (some ⟨g, 0, none⟩) (l.length + 1) cap)) w') :
    if Region.wanted o (yielded ops a.tmps) = true then Oper.wp Try.prog o a w K Q else E := by
  obtain ⟨i0, hi, hz0, hz1, hz2⟩ := info_parts infoU64
  refine step_append_lies w hgd s x 22 ho B 38 i0 _ 1 8 Try.underlying22 hi hz0 hz1 hz2 rfl (by decide) v l.length (l.map (Value.int .u64)) hs hown ⟨nb, 0, none⟩ 1 1 [.int .u64 z] hx rfl ?_ ?_ (by decide) (by unfold maxLen; omega) (by omega) hB w.heap.size rfl ?_
  · intro j u hu
    have : j = 0 := by
      rcases j with _ | j
      · rfl
      · simp at hu
    subst this
    rw [Go.WideShapes.add_plain]
    simp at hu
    rw [← hu]
    exact hz
  · intro u hu
    simp at hu
    rw [hu]; rfl
  · intro g cap w' h1 h2 h3 h4
    refine h g cap w' ?_ h2 h3 h4
    unfold OwnRow
    rw [List.length_append, List.map_append]
    exact h1

/-- Two rows of the call's own lie apart. -/
def Own2 (w : World) (B : Nat) (v u : Value) (l k : List Int) : Prop := OwnRow w B v l ∧ OwnRow w B u k ∧ ∀ g, v.ownBlock = some g → u.ownBlock ≠ some g
theorem Own2.symm {w : World} {B : Nat} {v u : Value} {l k : List Int} (h : Own2 w B v u l k) : Own2 w B u v k l := ⟨h.2.1, h.1, fun g h1 h2 => h.2.2 g h2 h1⟩

/-- Behind the one's append, and the other's: they lie apart still. -/
theorem Own2.both {w u1 w1 u2 w2 : World} {B : Nat} {v u : Value} {l k l' k' : List Int} {g1 n1 c1 g2 n2 c2 : Nat} (h : Own2 w B v u l k) (hu1 : w.heap.size ≤ u1.heap.size) (at1 : v.ownBlock = some g1 ∨ g1 = u1.heap.size)
    (lt1 : g1 < w1.heap.size) (o1 : OwnRow w1 B (.slice (some ⟨g1, 0, none⟩) n1 c1) l') (hu2 : w1.heap.size ≤ u2.heap.size) (k2 : u2.heap[g1]? = w1.heap[g1]?) (gr2 : u2.grownBy w2 u.ownBlock) (at2 : u.ownBlock = some g2 ∨ g2 = u2.heap.size)
    (o2 : OwnRow w2 B (.slice (some ⟨g2, 0, none⟩) n2 c2) k') : Own2 w2 B (.slice (some ⟨g1, 0, none⟩) n1 c1) (.slice (some ⟨g2, 0, none⟩) n2 c2) l' k' := by
  have hne : u.ownBlock ≠ some g1 := by
    rcases at1 with h1 | h1
    · exact h.2.2 g1 h1
    · intro h2
      have := (h.2.1.lt g1 h2).2
      omega
  have o3 : OwnRow u2 B (.slice (some ⟨g1, 0, none⟩) n1 c1) l' := by
    obtain ⟨h1, ⟨h0, _⟩ | ⟨g, cap, cur, e, hB, hh, r⟩⟩ := o1
    · cases h0
    · injection e with e1 e2 e3
      injection e1 with e1
      injection e1 with e1
      subst e1 e3
      exact ⟨h1, .inr ⟨g1, c1, cur, by rw [e2], hB, k2.trans hh, r⟩⟩
  refine ⟨o3.far gr2 (fun g hg => ?_), o2, fun g hg => ?_⟩
  · have : g1 = g := by simpa [Value.ownBlock] using hg
    subst this
    exact fun e => hne e.symm
  · have : g1 = g := by simpa [Value.ownBlock] using hg
    subst this
    intro e
    have : g2 = g1 := by simpa [Value.ownBlock] using e
    rcases at2 with h2 | h2
    · rw [this] at h2; exact hne h2
    · omega
end Go.Proofs.Ytmhggfgbefjcmaa
