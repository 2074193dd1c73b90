/-
  LISTS OF LISTS OF VALUES, told by slices that lie in a row; the edges of all columns; bins as a matrix's cells (no walk). No condition.
-/
import Derived.Test.YtjaogmbeoldefaaBinC
import Derived.Test.YtjaogmbeoldefaaEdgeO
import Derived.Test.YtjaogmbeoldefaaCol11
namespace Go.Proofs.Ytjaogmbeoldefaa
open Go.RowKit

/-- A slice leads to these values. -/
def Hd (w : World) (h : Hdr) (E : List Nat) : Prop := h.2.1 = E.length ∧ HoldsE KF w h.1 E
/-- .. in another block than M. -/
def HdX (M : Nat) (w : World) (h : Hdr) (E : List Nat) : Prop := h.2.1 = E.length ∧ (E = [] ∨ ∃ g off, h.1 = some ⟨g, off, none⟩ ∧ g ≠ M ∧ g < w.heap.size ∧ ∀ j, j < E.length → w.cell? ⟨g, off + j, none⟩ = some (KF.enc (E.getD j KF.z)))
theorem Hd.below {w w' : World} {h : Hdr} {E : List Nat} (k : Hd w h E) (b : Below w.heap.size w w') : Hd w' h E := ⟨k.1, k.2.below b⟩
theorem HdX.hd {M : Nat} {w : World} {h : Hdr} {E : List Nat} (k : HdX M w h E) : Hd w h E := by
  refine ⟨k.1, ?_⟩
  rcases k.2 with k | ⟨g, off, h1, _, h3, h4⟩
  · exact .inl k
  · exact .inr ⟨g, off, h1, h3, h4⟩
theorem HdX.below {M : Nat} {w w' : World} {h : Hdr} {E : List Nat} (k : HdX M w h E) (b : Below w.heap.size w w') : HdX M w' h E := by
  refine ⟨k.1, ?_⟩
  rcases k.2 with k | ⟨g, off, h1, h2, h3, h4⟩
  · exact .inl k
  · exact .inr ⟨g, off, h1, h2, Nat.lt_of_lt_of_le h3 b.size, fun j hj => (b.cell (by exact h3)).trans (h4 j hj)⟩
theorem HdX.but {M : Nat} {w w' : World} {h : Hdr} {E : List Nat} (k : HdX M w h E) (b : But M w w') : HdX M w' h E := by
  refine ⟨k.1, ?_⟩
  rcases k.2 with k | ⟨g, off, h1, h2, h3, h4⟩
  · exact .inl k
  · exact .inr ⟨g, off, h1, h2, Nat.lt_of_lt_of_le h3 b.size, fun j hj => (b.cell h3 h2).trans (h4 j hj)⟩
theorem HdX.to {M M' : Nat} {w : World} {h : Hdr} {E : List Nat} (k : HdX M w h E) (hM : M' = M ∨ M' = w.heap.size) : HdX M' w h E := by
  refine ⟨k.1, ?_⟩
  rcases k.2 with k | ⟨g, off, h1, h2, h3, h4⟩
  · exact .inl k
  · exact .inr ⟨g, off, h1, by rcases hM with rfl | rfl; exact h2; omega, h3, h4⟩
theorem hdX_own {M B : Nat} {w : World} {v : Value} {E : List Nat} (k : Own KF w B v E) (hM : M < B) : ∃ h : Hdr, v = .slice h.1 h.2.1 h.2.2 ∧ HdX M w h E := by
  rcases k.lst with ⟨rfl, rfl⟩ | ⟨g, cap, rfl, hB, _, _, hl⟩
  · exact ⟨(none, 0, 0), rfl, rfl, .inl rfl⟩
  · exact ⟨(some ⟨g, 0, none⟩, E.length, cap), rfl, rfl, .inr ⟨g, 0, rfl, by omega, hl.lt, hl.cell⟩⟩

/-- Slices that lead to these lists. -/
def Hds (w : World) (hs : List Hdr) (L : List (List Nat)) : Prop := hs.length = L.length ∧ ∀ j, j < L.length → Hd w (hs.getD j (none, 0, 0)) (L.getD j [])
def HdsX (M : Nat) (w : World) (hs : List Hdr) (L : List (List Nat)) : Prop := hs.length = L.length ∧ ∀ j, j < L.length → HdX M w (hs.getD j (none, 0, 0)) (L.getD j [])
theorem Hds.below {w w' : World} {hs : List Hdr} {L : List (List Nat)} (k : Hds w hs L) (b : Below w.heap.size w w') : Hds w' hs L := ⟨k.1, fun j hj => (k.2 j hj).below b⟩
theorem HdsX.hds {M : Nat} {w : World} {hs : List Hdr} {L : List (List Nat)} (k : HdsX M w hs L) : Hds w hs L := ⟨k.1, fun j hj => (k.2 j hj).hd⟩
theorem HdsX.below {M : Nat} {w w' : World} {hs : List Hdr} {L : List (List Nat)} (k : HdsX M w hs L) (b : Below w.heap.size w w') : HdsX M w' hs L := ⟨k.1, fun j hj => (k.2 j hj).below b⟩
theorem HdsX.but {M : Nat} {w w' : World} {hs : List Hdr} {L : List (List Nat)} (k : HdsX M w hs L) (b : But M w w') : HdsX M w' hs L := ⟨k.1, fun j hj => (k.2 j hj).but b⟩
theorem HdsX.to {M M' : Nat} {w : World} {hs : List Hdr} {L : List (List Nat)} (k : HdsX M w hs L) (hM : M' = M ∨ M' = w.heap.size) : HdsX M' w hs L := ⟨k.1, fun j hj => (k.2 j hj).to hM⟩
theorem HdsX.nil (M : Nat) (w : World) : HdsX M w [] [] := ⟨rfl, fun j hj => by simp at hj⟩
theorem HdsX.push {M : Nat} {w : World} {hs : List Hdr} {L : List (List Nat)} {h : Hdr} {E : List Nat} (k : HdsX M w hs L) (kh : HdX M w h E) : HdsX M w (hs ++ [h]) (L ++ [E]) := by
  refine ⟨by simp [k.1], fun j hj => ?_⟩
  simp at hj
  have e := k.1
  by_cases hjl : j < L.length
  · have h1 : (hs ++ [h]).getD j (none, 0, 0) = hs.getD j (none, 0, 0) := by simp [List.getD_eq_getElem?_getD, List.getElem?_append_left (show j < hs.length by omega)]
    have h2 : (L ++ [E]).getD j [] = L.getD j [] := by simp [List.getD_eq_getElem?_getD, List.getElem?_append_left hjl]
    rw [h1, h2]
    exact k.2 j hjl
  · obtain rfl : j = L.length := by omega
    have h1 : (hs ++ [h]).getD L.length (none, 0, 0) = h := by rw [← e]; simp [List.getD_eq_getElem?_getD]
    have h2 : (L ++ [E]).getD L.length [] = E := by simp [List.getD_eq_getElem?_getD]
    rw [h1, h2]
    exact kh

/-- A slice of slices leads to these lists. -/
def HoldsR (w : World) (a : Option Addr) (L : List (List Nat)) : Prop := ∃ hs, Hds w hs L ∧ HoldsE KS w a hs
theorem HoldsR.below {w w' : World} {a : Option Addr} {L : List (List Nat)} (k : HoldsR w a L) (b : Below w.heap.size w w') : HoldsR w' a L := by
  obtain ⟨hs, h1, h2⟩ := k
  exact ⟨hs, h1.below b, h2.below b⟩
theorem HoldsR.at {w : World} {a : Option Addr} {L : List (List Nat)} (k : HoldsR w a L) {j : Nat} (hj : j < L.length) : ∃ g off a' c, a = some ⟨g, off, none⟩ ∧ g < w.heap.size ∧ w.cell? ⟨g, off + j, none⟩ = some (.slice a' (L.getD j []).length c) ∧ HoldsE KF w a' (L.getD j []) := by
  obtain ⟨hs, h1, h2⟩ := k
  obtain ⟨g, off, rfl, hg, hc⟩ := h2.at (show j < hs.length by rw [h1.1]; exact hj)
  obtain ⟨k1, k2⟩ := h1.2 j hj
  refine ⟨g, off, (hs.getD j (none, 0, 0)).1, (hs.getD j (none, 0, 0)).2.2, rfl, hg, ?_, k2⟩
  rw [hc j (by rw [h1.1]; exact hj), ← k1]
  rfl
/-- A slice of slices is handed back. -/
def GotL (e : Ending) (w : World) (n : Nat) (L : List (List Nat)) : Prop := ∃ a c, e = .returned (.slice a n c) ∧ L.length = n ∧ HoldsR w a L

/-- The edges of all columns. -/
def edgesA (V : List Nat) (r q : Nat) (b : Int) : List (List Nat) := (List.range q).map fun j => edgesL (colL V r j) b
theorem edgesA_len (V : List Nat) (r q : Nat) (b : Int) : (edgesA V r q b).length = q := by simp [edgesA]
theorem edgesA_at (V : List Nat) (r q : Nat) (b : Int) {j : Nat} (hj : j < q) : (edgesA V r q b).getD j [] = edgesL (colL V r j) b := by
  unfold edgesA
  rw [List.getD_eq_getElem?_getD, List.getElem?_map, List.getElem?_range hj]
  rfl
theorem edgesA_step (V : List Nat) (r q : Nat) (b : Int) {j : Nat} (hj : j < q) : (edgesA V r q b).take (j + 1) = (edgesA V r q b).take j ++ [edgesL (colL V r j) b] := by
  rw [← edgesA_at V r q b hj, List.take_add_one, List.getElem?_eq_getElem (by rw [edgesA_len]; exact hj)]
  simp [List.getD_eq_getElem?_getD, edgesA_len, hj]
theorem col_bits {V : List Nat} (h : Bits64 V) (r j : Nat) : Bits64 (colL V r j) := fun b hb => h b (List.mem_of_mem_drop (List.mem_of_mem_take hb))
theorem col_len {V : List Nat} {r q n j : Nat} (hV : V.length = n) (hrq : r * q = n) (hj : j < q) : (colL V r j).length = r := by
  have := (Nat.mul_le_mul_right r (show j + 1 ≤ q by omega))
  rw [Nat.add_mul, Nat.one_mul, Nat.mul_comm q r, hrq] at this
  unfold colL
  rw [List.length_take, List.length_drop]
  omega
theorem col_at {V : List Nat} {r j i : Nat} (hi : i < r) : (colL V r j).getD i 0 = V.getD (j * r + i) 0 := by
  unfold colL
  simp [List.getD_eq_getElem?_getD, hi]
/-- A value's bin as a cell. -/
def cellN (E : List Nat) (f : Nat) : Nat := min (binL E f) 65535
/-- All cells. -/
def cellsL (V : List Nat) (r : Nat) (L : List (List Nat)) : List Int := (List.range V.length).map fun t => ((cellN (L.getD (t / r) []) (V.getD t 0) : Nat) : Int)
theorem cellsL_len (V : List Nat) (r : Nat) (L : List (List Nat)) : (cellsL V r L).length = V.length := by simp [cellsL]
theorem cellsL_at (V : List Nat) (r : Nat) (L : List (List Nat)) {j i : Nat} (h : j * r + i < V.length) (hi : i < r) : (cellsL V r L).getD (j * r + i) 0 = ((cellN (L.getD j []) (V.getD (j * r + i) 0) : Nat) : Int) := by
  unfold cellsL
  rw [List.getD_eq_getElem?_getD, List.getElem?_map, List.getElem?_range h]
  have e : (j * r + i) / r = j := by
    rw [Nat.add_comm, Nat.add_mul_div_right _ _ (by omega), Nat.div_eq_of_lt hi, Nat.zero_add]
  rw [Option.map_some, Option.getD_some, e]
theorem cellsL_16 (V : List Nat) (r : Nat) (L : List (List Nat)) : In16 (cellsL V r L) := by
  intro x hx
  unfold cellsL at hx
  obtain ⟨t, _, rfl⟩ := List.mem_map.1 hx
  unfold cellN
  omega
theorem cells_step (V : List Nat) (r : Nat) (L : List (List Nat)) {j i : Nat} (h : j * r + i < V.length) (hi : i < r) : (cellsL V r L).take (j * r + (i + 1)) = (cellsL V r L).take (j * r + i) ++ [((cellN (L.getD j []) (V.getD (j * r + i) 0) : Nat) : Int)] := by
  have h' : j * r + i < (cellsL V r L).length := by rw [cellsL_len]; exact h
  rw [← cellsL_at V r L h hi, ← Nat.add_assoc, List.take_add_one, List.getElem?_eq_getElem h']
  simp [List.getD_eq_getElem?_getD, h']
end Go.Proofs.Ytjaogmbeoldefaa
