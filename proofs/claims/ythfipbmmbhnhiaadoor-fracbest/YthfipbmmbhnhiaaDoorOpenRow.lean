/-
  A row of fractions that came in: they lie where the slice leads to, each number of 64 bits. No condition.
-/
import Derived.Test.YthfipbmmbhnhiaaDoorBestF
import Derived.Test.YthfipbmmbhnhiaaDoorOpenF
import Derived.Deep.Slices
import Derived.ChangeSame
namespace Go.Proofs.YthfipbmmbhnhiaaDoor
open Go.ChangeShapes Go.WideShapes Go.ChangeAt Go.RowKit

theorem plain_of {w : World} {a : Addr} {v : Value} (h : w.cell? a = some v) : ∃ b off, a = ⟨b, off, none⟩ ∧ b < w.heap.size := by
  obtain ⟨b, off, f⟩ := a
  cases f with
  | none =>
    refine ⟨b, off, rfl, ?_⟩
    rcases Nat.lt_or_ge b w.heap.size with h' | h'
    · exact h'
    · simp [World.cell?, Array.getElem?_eq_none h'] at h
  | some f => simp [World.cell?] at h; split at h <;> cases h

theorem open_fracs {H : Type} {enc : TypeId × Value → H} {W : World} {sp : Nat → Bool} {held : Bool} {a : Option Addr} {len cap : Nat} {d : DataW H} {p : List MemPlace}
    (h : DataW.Trod enc Tryd.prog W 0 sp held 36 (.slice a len cap) d p) : ∃ fh fl fd : Nat → Int, AllF len fh fl fd ∧ HoldsF a len fh fl fd W := by
  obtain ⟨fuel, hf⟩ := h
  rcases Go.Deep.open_slice Tryd.underlying36 hf with ⟨hcs, _⟩ | ⟨x, l, c, m, n, Dd, Pl, hcs, _, hl, hm, hmm, _, hx⟩
  · simp [Value.cells] at hcs
    obtain ⟨rfl, rfl, rfl⟩ := hcs
    exact ⟨fun _ => 0, fun _ => 0, fun _ => 0, fun j hj => by omega, .inl rfl⟩
  · simp [Value.cells] at hcs
    obtain ⟨rfl, rfl, rfl⟩ := hcs
    have hlm : len ≤ m := by rw [hmm]; split <;> omega
    have each : ∀ i, i < len → ∃ q : Int × Int × Int, (W.cell? (x.add (i * 3)) = some (.int .u64 q.1) ∧ W.cell? (x.add (i * 3 + 1)) = some (.int .u64 q.2.1) ∧ W.cell? (x.add (i * 3 + 2)) = some (.int .u64 q.2.2)) ∧ Word q.1 ∧ Word q.2.1 ∧ Word q.2.2 := by
      intro i hi
      obtain ⟨cs', h1, h2⟩ := hx i (by omega)
      rw [cellsFrac] at h1
      obtain ⟨_, hlen, hcell⟩ := World.cells?_some h1
      match cs', hlen with
      | [v0, v1, v2], _ =>
        obtain ⟨u, v, z, rfl, rfl, rfl, k⟩ := trod_frac h2
        have e0 := hcell 0 (by omega)
        have e1 := hcell 1 (by omega)
        have e2 := hcell 2 (by omega)
        rw [Go.Deep.add_add] at e0 e1 e2
        exact ⟨(u, v, z), ⟨by simpa using e0, by simpa using e1, by simpa using e2⟩, k⟩
    obtain ⟨q, hq⟩ := Go.Deep.choose_lt each
    refine ⟨fun i => (q i).1, fun i => (q i).2.1, fun i => (q i).2.2, fun j hj => (hq j hj).2, ?_⟩
    by_cases h0 : len = 0
    · exact .inl h0
    · obtain ⟨b, off, e, hb⟩ := plain_of (hq 0 (by omega)).1.1
      obtain ⟨b', off', f⟩ := x
      cases f with
      | some f => simp [Addr.add] at e
      | none =>
        have hb2 : b' < W.heap.size := by
          simp [Addr.add] at e
          omega
        refine .inr ⟨b', off', rfl, hb2, fun j hj => ?_⟩
        obtain ⟨k0, k1, k2⟩ := (hq j hj).1
        rw [Go.WideShapes.add_plain] at k0 k1 k2
        exact ⟨k0, k1, k2⟩
end Go.Proofs.YthfipbmmbhnhiaaDoor
