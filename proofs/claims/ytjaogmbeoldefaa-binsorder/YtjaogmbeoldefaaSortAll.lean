/-
  THE LIBRARY's slices.Sort AT []uint64: what was there, rising; nothing else that was there turns. Condition: at most 2^20 numbers.
-/
import Derived.Test.YtjaogmbeoldefaaSortTop
import Derived.Test.YtjaogmbeoldefaaRowE
namespace Go.Proofs.Ytjaogmbeoldefaa
open Go.RowKit Go.Sort

/-- Rising. -/
def sortI (l : List Int) : List Int := l.mergeSort fun x y => decide (x ≤ y)
theorem sortI_len (l : List Int) : (sortI l).length = l.length := List.length_mergeSort l
theorem sortI_perm (l : List Int) : (sortI l).Perm l := List.mergeSort_perm l _
theorem sortI_rising (l : List Int) : (sortI l).Pairwise (fun a b => a ≤ b) := by
  have := List.pairwise_mergeSort (le := fun x y : Int => decide (x ≤ y)) (fun a b c h1 h2 => by simp at h1 h2 ⊢; omega) (fun a b => by simp; omega) l
  exact this.imp (by simp)

theorem Lst.arr {g off : Nat} {l : List Int} {w : World} (h : Lst KU g off l w) : Arr g off l.toArray w :=
  ⟨h.lt, fun j hj => by
    have hj' : j < l.length := by simpa using hj
    rw [h.cell j hj']
    simp [el, KU, List.getD_eq_getElem?_getD, hj', getElem!_pos], fun j hj => h.frozen j (by simpa using hj)⟩
theorem Arr.lst {g off : Nat} {d : Array Int} {w : World} (h : Arr g off d w) : Lst KU g off d.toList w :=
  ⟨h.lt, fun j hj => by
    have hj' : j < d.size := by simpa using hj
    rw [h.cell j hj']
    simp [el, KU, List.getD_eq_getElem?_getD, hj', getElem!_pos], fun j hj => h.frozen j (by simpa using hj)⟩

theorem sort_any (g off cap n : Nat) (l : List Int) (hn : l.length = n) (hb : n ≤ 1048576) (w : World) (hL : Lst KU g off l w) :
    Calls Try.prog 51 #[.slice (some ⟨g, off, none⟩) n cap] w fun e w' => e = .returned (.tuple #[]) ∧ Lst KU g off (sortI l) w' ∧ But g w w' := by
  have hs : l.toArray.size = n := by simpa using hn
  have hk : bitsLen n ≤ 21 := by
    rcases Nat.eq_zero_or_pos n with h | h
    · subst h; decide
    · have := (len_room n h).2
      rcases Nat.lt_or_ge 21 (bitsLen n) with h' | h'
      · have : 2 ^ 22 ≤ 2 ^ bitsLen n := Nat.pow_le_pow_right (by decide) h'
        omega
      · exact h'
  have C := pdq_any (n + 1) g off cap 0 n (bitsLen n : Nat) l.toArray w (by omega) (by omega) (by omega) (by omega) (by omega) (by omega) (.inl rfl) hL.arr
  rw [hs] at C
  have C2 := len_any n (by omega) w
  go_enter Try.func51, Try.ntmps51
  go_wp2_with fail
  refine C2.mono ?_
  rintro e w1 ⟨rfl, rfl⟩
  go_wp2_with fail
  refine C.mono ?_
  rintro e w1 ⟨d', rfl, ⟨hP, hS⟩, hA, hB⟩
  have hu := sorted_unique_holds swo_ltInt (fun x y h1 h2 => by simp only [ltInt, decide_eq_false_iff_not] at h1 h2; omega) l.toArray d' (by rw [hs]; exact hP) (by rw [hs]; exact hS)
  have hu2 : d'.toList = sortI l := by
    rw [hu]
    unfold sortI
    show l.mergeSort _ = _
    congr 1
    funext x y
    simp only [ltInt]
    rw [← decide_not]
    exact decide_eq_decide.2 (by omega)
  go_wp2_with fail
  go_end0
  refine ⟨rfl, ?_, hB⟩
  rw [← hu2]
  exact hA.lst

end Go.Proofs.Ytjaogmbeoldefaa
