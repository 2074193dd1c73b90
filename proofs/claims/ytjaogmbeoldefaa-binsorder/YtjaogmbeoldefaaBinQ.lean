/-
  What the laws ask of a dataset: is it more than is gone through; its matrix by any edges; what a walk's worlds hold. Condition: at most 500 values of 64 bits.
-/
import Derived.Test.YtjaogmbeoldefaaBinM
import Derived.Deep.DeepCutAuto
namespace Go.Proofs.Ytjaogmbeoldefaa
open Go.RowKit

theorem great9_any (k c b t d l p r q : Int) (aV aT : Option Addr) (nV cV nT cT : Nat) (w : World) :
    Calls Try.prog 8 #[ds k c b t d l p r q (.slice aV nV cV) (.slice aT nT cT)] w fun e w' => e = .returned (.bool (decide (500 < nV ∨ 200 < nT))) ∧ Below w.heap.size w w' := by
  have HB := Lib.hid (lay_below w 27 k c b t d l p r q (.slice aV nV cV) (.slice aT nT cT))
  unfold ds
  by_cases h1 : 500 < nV
  · have g1 : (500 : Int) < (nV : Int) := by omega
    rw [decide_eq_true (show 500 < nV ∨ 200 < nT from .inl h1)]
    clear h1
    go_enter Try.func8, Try.ntmps8
    go_wp2_with fail
    go_ret
    exact ⟨rfl, HB.out⟩
  · have g1 : ¬ (500 : Int) < (nV : Int) := by omega
    by_cases h2 : 200 < nT
    · have g2 : (200 : Int) < (nT : Int) := by omega
      rw [decide_eq_true (show 500 < nV ∨ 200 < nT from .inr h2)]
      clear h1 h2
      go_enter Try.func8, Try.ntmps8
      go_wp2_with fail
      go_ret
      exact ⟨rfl, HB.out⟩
    · have g2 : ¬ (200 : Int) < (nT : Int) := by omega
      rw [decide_eq_false (show ¬ (500 < nV ∨ 200 < nT) from fun h => h.elim h1 h2)]
      clear h1 h2
      go_enter Try.func8, Try.ntmps8
      go_wp2_with fail
      go_ret
      exact ⟨rfl, HB.out⟩

theorem own_form {α : Type} {K : Kind α} {w : World} {B : Nat} {v : Value} {l : List α} (h : Own K w B v l) : ∃ a n c, v = .slice a n c := by
  rcases h.lst with ⟨rfl, _⟩ | ⟨g, c, rfl, _⟩
  · exact ⟨_, _, _, rfl⟩
  · exact ⟨_, _, _, rfl⟩
/-- A row of the call's own as a slice: its parts. -/
theorem own_parts {α : Type} {K : Kind α} {w : World} {B : Nat} {v : Value} {l : List α} (h : Own K w B v l) : ∃ a c, v = .slice a l.length c ∧ (a = none → c = 0) ∧ l.length ≤ c ∧ (∀ ad, a = some ad → ∃ g off, ad = ⟨g, off, none⟩) ∧ HoldsE K w a l := by
  rcases h.lst with ⟨rfl, rfl⟩ | ⟨g, c, rfl, _, hc, _, hl⟩
  · exact ⟨none, 0, rfl, fun _ => rfl, Nat.le_refl _, fun _ h => (by cases h), .inl rfl⟩
  · exact ⟨_, c, rfl, fun h => (by cases h), hc, fun ad h => ⟨g, 0, (Option.some.inj h).symm⟩, hl.holds⟩
theorem got_m3 {w w' : World} {B X : Nat} {a : Option Addr} {D : List Int} {r q : Int} {u : Value} (h : D = [] ∨ ∃ g, a = some ⟨g, 0, none⟩ ∧ B ≤ g ∧ Lst KW g 0 D w) (Y : M3 X r q u w) (bt : But X w w') : HoldsE KW w' a D := by
  rcases h with h | ⟨g, h1, _, hL⟩
  · exact .inl h
  · cases D with
    | nil => exact .inl rfl
    | cons z D =>
      have hne : g ≠ X := by
        intro e
        subst e
        have h1 := hL.cell 0 (by simp)
        have h2 := Y.c0
        rw [Nat.zero_add] at h1
        rw [h1] at h2
        cases h2
      rw [h1]
      exact (hL.but bt hne).holds
theorem got_below {w w' : World} {B : Nat} {a : Option Addr} {D : List Int} (h : D = [] ∨ ∃ g, a = some ⟨g, 0, none⟩ ∧ B ≤ g ∧ Lst KW g 0 D w) (b : Below w.heap.size w w') : D = [] ∨ ∃ g, a = some ⟨g, 0, none⟩ ∧ B ≤ g ∧ Lst KW g 0 D w' := by
  rcases h with h | ⟨g, h1, h2, hL⟩
  · exact .inl h
  · exact .inr ⟨g, h1, h2, hL.below b hL.lt⟩
/-- What a walk's worlds hold of a dataset: its block, its values, and what was there ahead of all as it was. -/
structure DsS (M : Nat) (k c b t d l p r q : Int) (aV : Option Addr) (nV cV : Nat) (T : Value) (V : List Nat) (w0 w : World) : Prop where
  on : Dat M (dv k c b t d l p r q (.slice aV nV cV) T) w
  ho : HoldsE KF w aV V
  bel : Below w0.heap.size w0 w
theorem DsS.below {M : Nat} {k c b t d l p r q : Int} {aV : Option Addr} {nV cV : Nat} {T : Value} {V : List Nat} {w0 w w' : World} (h : DsS M k c b t d l p r q aV nV cV T V w0 w) (x : Below w.heap.size w w') : DsS M k c b t d l p r q aV nV cV T V w0 w' := ⟨h.on.on' x, h.ho.below x, h.bel.trans (x.mono h.bel.size)⟩
theorem edgesA_64 {V : List Nat} (h : Bits64 V) (r q : Nat) (b : Int) {E : List Nat} (hE : E ∈ edgesA V r q b) : E.length ≤ 1048576 ∧ Bits64 E := by
  unfold edgesA at hE
  obtain ⟨j, _, rfl⟩ := List.mem_map.1 hE
  exact ⟨by have := (edges_len (colL V r j) b).1; omega, fun e he => (edges_are (col_bits h r j) b).bits e he⟩
theorem binL_mono {E : List Nat} {f g : Nat} (hf : f < 18446744073709551616) (hg : g < 18446744073709551616) (h : key f ≤ key g) : binL E f ≤ binL E g := by
  by_cases hm : mis f
  · rw [binL_mis hm]; omega
  · have hm2 : ¬ mis g := fun m => by
      have := key_pos hm hf
      rw [(mis_key hg).1 m] at h
      omega
    rw [binL_is hm, binL_is hm2]
    have : E.countP (fun e => decide (key e ≤ key f)) ≤ E.countP (fun e => decide (key e ≤ key g)) := List.countP_mono_left fun e _ he => by simp at he ⊢; omega
    omega

theorem mul_nat_wrap {a b n : Nat} (h : a * b ≤ n) (hn : n ≤ 16777216) : wrap64 ((a : Int) * (b : Int)) = ((a * b : Nat) : Int) := by
  rw [← Int.natCast_mul]
  generalize a * b = m at *
  unfold wrap64
  omega
theorem add_nat_wrap {a b m : Nat} (h : a + b = m) (hn : m ≤ 16777216) : wrap64 ((a : Int) + (b : Int)) = (m : Int) := by
  unfold wrap64
  omega
theorem up_int {i i3 : Nat} (h : i + 1 = i3) (hb : i3 ≤ 16777216) : wrap64 ((i : Int) + 1) = (i3 : Int) := by unfold wrap64; omega
theorem rem_int {i3 r i2 : Nat} (h : i3 % r = i2) (hb : i3 ≤ 16777216) : wrap64 ((i3 : Int).tmod (r : Int)) = (i2 : Int) := by
  have e : (i3 : Int).tmod (r : Int) = (i2 : Int) := by rw [← h]; rfl
  have : i2 ≤ i3 := by rw [← h]; exact Nat.mod_le _ _
  rw [e]
  unfold wrap64
  omega
theorem wrap_i (x : Int) : IntKind.i64.wrap x = wrap64 x := by
  simp [IntKind.wrap, IntKind.bits, IntKind.signed, wrap64]
  split <;> omega
theorem rows_pos {i r : Nat} (h : i < r) : ¬ (r : Int) = 0 := by omega
theorem fit_nats {r q : Int} {n : Nat} (h : fitB r q n = true) : ∃ r' q' : Nat, r = (r' : Int) ∧ q = (q' : Int) ∧ r' * q' = n ∧ r' ≤ 16777216 ∧ q' ≤ 16777216 := by
  obtain ⟨k1, k2, k3⟩ := of_decide_eq_true h
  obtain ⟨r', rfl⟩ := Int.eq_ofNat_of_zero_le k1.1
  obtain ⟨q', rfl⟩ := Int.eq_ofNat_of_zero_le k2.1
  rw [← Int.natCast_mul] at k3
  exact ⟨r', q', rfl, rfl, by omega, by omega, by omega⟩
end Go.Proofs.Ytjaogmbeoldefaa
