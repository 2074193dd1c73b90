/-
  DatasetParts: what the walk of the columns and rows keeps, and its numbers. Conditions: at most 1000 values; numbers of 64 bits.
-/
import Derived.Test.YtbmbgfmhejahjaaRowD
import Derived.Test.YtbmbgfmhejahjaaColumn
import Derived.Test.YtbmbgfmhejahjaaCutsW
import Derived.Test.YtbmbgfmhejahjaaDFix
import Derived.Test.YtbmbgfmhejahjaaPOf
import Derived.Test.YtbmbgfmhejahjaaByHand
namespace Go.Proofs.Ytbmbgfmhejahjaa
open Go.RowKit

section
variable {P : Program} {md : Region.Mode} {Q : Exit → Act → World → Prop} {S : World → Prop} {l : List Oper} {i fuel : Nat} {oi : Oper} {listed : Array Bool} {a : Act} {w : World}
/-- An operation that isn't wanted. -/
theorem skipQ (hi : l[i]? = some oi) (hs : Region.noSelect l.toArray = true) (hf : Region.free md l.toArray listed i = true) (hr : (Region.ready md l.toArray listed).contains i = true) (hQ : ∀ c a w, Q (.panic c) (a.put oi.dst undef) w → Q (.panic c) a w)
    (hw : Region.wanted oi (yielded l.toArray a.tmps) = false) (hS : S w)
    (h : wpAnyH P md l.toArray Q S fuel (listed.setIfInBounds i true) (a.put oi.dst undef) w) : wpAnyH P md l.toArray Q S (fuel + 1) listed a w :=
  wpAnyH_take (by simpa using hi) hs hf hr hQ (.inr ⟨hw, rfl⟩) hS h
end

theorem nums_back (V : List Int) (h : ∀ z ∈ V, 0 ≤ z ∧ z < 18446744073709551616) : nums (bitsOf V) = V := by
  induction V with
  | nil => rfl
  | cons z V ih =>
    have e := ih (fun y hy => h y (List.mem_cons_of_mem _ hy))
    have hz := (h z List.mem_cons_self).1
    show ((z.toNat : Nat) : Int) :: nums (bitsOf V) = z :: V
    rw [e, Int.toNat_of_nonneg hz]
theorem bits_at (V : List Int) (h : ∀ z ∈ V, 0 ≤ z ∧ z < 18446744073709551616) {j : Nat} (hj : j < V.length) : V.getD j 0 = (((bitsOf V).getD j 0 : Nat) : Int) := by
  have h1 : V.getD j 0 = V[j] := by simp [List.getD_eq_getElem?_getD, hj]
  have h2 : (bitsOf V).getD j 0 = (V[j]).toNat := by simp [bitsOf, List.getD_eq_getElem?_getD, hj]
  rw [h1, h2, Int.toNat_of_nonneg (h _ (List.getElem_mem hj)).1]
theorem rowL_at (V : List Nat) (r i : Nat) {t j : Nat} (h : j < t) : (rowL V r i t).getD j 0 = V.getD (i + j * r) 0 := by
  induction t with
  | zero => omega
  | succ t ih =>
    have hl := rowL_len V r i t
    by_cases e : j = t
    · subst e
      simp only [rowL]
      rw [List.getD_eq_getElem?_getD, List.getElem?_append_right (by omega), hl]
      simp
    · have := ih (by omega)
      simp only [rowL]
      rw [List.getD_eq_getElem?_getD, List.getElem?_append_left (by omega), ← List.getD_eq_getElem?_getD]
      exact this
theorem colL_len {V : List Nat} {r q j n : Nat} (hl : V.length = n) (hrq : r * q = n) (hj : j < q) : (colL V r j).length = r ∧ j * r + r ≤ n := by
  have h := Nat.mul_le_mul_right r (show j + 1 ≤ q by omega)
  rw [Nat.add_mul, Nat.one_mul, Nat.mul_comm q r, hrq] at h
  refine ⟨?_, h⟩
  unfold colL
  rw [List.length_take, List.length_drop, hl]
  omega

theorem col_nums {j r q n m1 m2 j1 : Nat} (hm1 : j * r = m1) (hm2 : m1 + r = m2) (hj1 : j + 1 = j1) (hle : m2 ≤ n) (hn : n ≤ 500) (hjq : j < q) (hq : q ≤ 1000) :
    wrap64 ((j : Int) * (r : Int)) = (m1 : Int) ∧ wrap64 ((j : Int) + 1) = (j1 : Int) ∧ wrap64 ((j1 : Int) * (r : Int)) = (m2 : Int) ∧ j1 ≤ q ∧ q - j1 < q - j :=
  ⟨wrap_s (by rw [← Int.natCast_mul, hm1]) (by omega), wrap_s (by omega) (by omega), wrap_s (by rw [← Int.natCast_mul, ← hj1, Nat.add_mul, Nat.one_mul, hm1, hm2]) (by omega), by omega, by omega⟩
theorem row_nums {i j r q n m1 m2 : Nat} (hm1 : j * r = m1) (hm2 : m1 + i = m2) (hle : m1 + r ≤ n) (hi : i < r) (hn : n ≤ 500) (hjq : j < q) (hq : q ≤ 1000) :
    m2 < n ∧ wrap64 ((j : Int) * (r : Int)) = (m1 : Int) ∧ wrap64 ((m1 : Int) + (i : Int)) = (m2 : Int) ∧ wrap64 ((j : Int) + 1) = ((j + 1 : Nat) : Int) ∧ j + 1 ≤ q ∧ q - (j + 1) < q - j :=
  ⟨by omega, wrap_s (by rw [← Int.natCast_mul, hm1]) (by omega), wrap_s (by omega) (by omega), wrap_s (by omega) (by omega), by omega, by omega⟩
theorem one_nums {i r : Nat} (hi : i < r) (hr : r ≤ 1000) : wrap64 ((i : Int) + 1) = ((i + 1 : Nat) : Int) ∧ i + 1 ≤ r ∧ r - (i + 1) < r - i :=
  ⟨wrap_s (by omega) (by omega), by omega, by omega⟩

/-- A row of the call's own, as a slice of a known form. -/
theorem Own.form {α : Type} {K : Kind α} {w : World} {B : Nat} {v : Value} {l : List α} (h : Own K w B v l) : ∃ a cap, v = .slice a l.length cap ∧ (a = none → cap = 0) ∧ l.length ≤ cap ∧ (∀ ad, a = some ad → ∃ g off, ad = ⟨g, off, none⟩) ∧ HoldsE K w a l ∧ (0 < l.length → ∃ g, a = some ⟨g, 0, none⟩ ∧ B ≤ g ∧ Lst K g 0 l w) := by
  rcases h.lst with ⟨rfl, rfl⟩ | ⟨g, cap, rfl, hB, hc, _, hL⟩
  · exact ⟨none, 0, rfl, (fun _ => rfl), Nat.le_refl _, (fun _ h => by cases h), .inl rfl, (fun h => absurd h (by simp))⟩
  · exact ⟨some ⟨g, 0, none⟩, cap, rfl, (fun h => by cases h), hc, (fun ad h => by injection h with h; exact ⟨g, 0, h.symm⟩), hL.holds, fun _ => ⟨g, rfl, hB, hL⟩⟩

/-- A part of a slice of values. -/
theorem part_run (a : Option Addr) (n cap m r m2 : Nat) (l : List Nat) (hl : l.length = n) (hle : m + r ≤ n) (hm2 : m + r = m2) (hc : n ≤ cap) (ha : a = none → cap = 0) (hfm : ∀ ad, a = some ad → ∃ g off, ad = ⟨g, off, none⟩) :
    ∃ a2 c2, (∀ w, (Instr.slice 34 (.slice a n cap) (some (.int .i64 (m : Int))) (some (.int .i64 (m2 : Int))) none).run Try.prog w = .ok (.slice a2 r c2) w) ∧ ∀ w, HoldsE KF w a l → HoldsE KF w a2 ((l.drop m).take r) := by
  subst hm2
  have hr : ((m : Int) + (r : Int)).toNat - m = r := by omega
  have hsz : ∀ w, (sizeOf 51).run Try.prog w = .ok 1 w := fun w => by go_simp
  have hel : Try.prog.elem 34 = 51 := by unfold Program.elem; rw [Try.underlying34]
  have hrun := fun w => run_slice_lh (P := Try.prog) (w := w) 34 a n cap (by rw [hel]; exact Try.underlying34) .i64 .i64 (m : Int) ((m + r : Nat) : Int) (by omega) (by omega) (by omega)
  rw [hel] at hrun
  cases a with
  | none =>
    have h0 := ha rfl
    refine ⟨none, cap - m, fun w => ?_, fun w h => ?_⟩
    · rw [hrun w, hsz w]
      simp [Result.andThen, sliced, hr]
    · rcases h with rfl | ⟨_, _, h, _⟩
      · exact .inl (by simp)
      · cases h
  | some ad =>
    obtain ⟨g, off, rfl⟩ := hfm ad rfl
    by_cases hcm : cap = m
    · refine ⟨some ⟨g, off, none⟩, cap - m, fun w => ?_, fun w h => .inl ?_⟩
      · rw [hrun w, hsz w]
        simp [Result.andThen, sliced, hr, hcm]
      · have : r = 0 := by omega
        subst this
        simp
    · refine ⟨some ⟨g, off + m, none⟩, cap - m, fun w => ?_, fun w h => ?_⟩
      · rw [hrun w, hsz w]
        simp [Result.andThen, sliced, hr, hcm, Addr.add]
      · exact h.part m r (by omega)

/-- What the walk keeps. -/
structure PaS (N M : Nat) (f1 f2 : Nat → Value) (A1 A2 A3 A4 : Option Addr) (V : List Int) (T : List Int) (w0 w : World) : Prop where
  a : Dat N f1 w
  b : Dat M f2 w
  u : HoldsE KU w A1 V
  s : HoldsE K64 w A2 T
  v : HoldsE KF w A3 (bitsOf V)
  t : HoldsE K64 w A4 T
  bel : Below w0.heap.size w0 w
theorem PaS.below {N M : Nat} {f1 f2 : Nat → Value} {A1 A2 A3 A4 : Option Addr} {V : List Int} {T : List Int} {w0 w w' : World} (h : PaS N M f1 f2 A1 A2 A3 A4 V T w0 w) (c : Below w.heap.size w w') : PaS N M f1 f2 A1 A2 A3 A4 V T w0 w' :=
  ⟨h.a.below c h.a.lt, h.b.below c h.b.lt, h.u.below c, h.s.below c, h.v.below c, h.t.below c, h.bel.trans (c.mono h.bel.size)⟩
end Go.Proofs.Ytbmbgfmhejahjaa
