/-
  DATASETS: Column: a column's values in a row of the call's own, or none. Conditions: at most 2^20 values; rows and columns of 64 bits with a sign.
-/
import Derived.Test.YtjaogmbeoldefaaFull11
namespace Go.Proofs.Ytjaogmbeoldefaa
open Go.RowKit

theorem cloneF_any (a : Option Addr) (n cap : Nat) (l : List Nat) (hl : l.length = n) (hm : n ≤ 1048570) (ha : a = none → cap = 0) (w : World) (h : HoldsE KF w a l) :
    Calls Try.prog 46 #[.slice a n cap] w fun e w' => (∃ v, e = .returned v ∧ Own KF w' w.heap.size v l) ∧ Below w.heap.size w w' := by
  have q : ∀ (w : World) (a : Option Addr) (n c n' c' : Nat), (binOp .eql 31 (.slice a n c) (.slice none n' c')).run Try.prog w = .ok (.bool a.isNone) w := fun w a n c n' c' => Lib.run_eql_slice_nil w _ _ a n c n' c' Try.underlying31
  cases a with
  | none =>
    obtain rfl := ha rfl
    obtain rfl : l = [] := by
      rcases h with h | ⟨_, _, h, _⟩
      · exact h
      · cases h
    obtain rfl : n = 0 := hl.symm
    go_enter Try.func46, Try.ntmps46
    go_wp2
    go_ret
    exact ⟨⟨_, rfl, Own.nil _ _⟩, Below.refl _ _⟩
  | some ad =>
    subst hl
    have o0 := Own.start (K := KF) w w.heap.size (Nat.le_refl _)
    have b0 := (Below.refl w.heap.size w).alloc (Nat.le_refl _) (.cells #[] 62)
    have h0 := h.below b0
    have sz := b0.size
    go_enter Try.func46, Try.ntmps46
    go_wp2_with (at_builtin; refine app_any okF rfl _ _ rfl w.heap.size sz (.slice (some ⟨w.heap.size, 0, none⟩) 0 0) [] rfl o0 (some ad) _ _ l rfl rfl (fun h => by cases h) h0 (by simp; omega) (by simp) (fun v' w' hv hb hn => ?_))
    go_ret
    exact ⟨⟨_, rfl, by simpa using hv⟩, b0.trans hb⟩

/-- A column's values. -/
def colL (V : List Nat) (r j : Nat) : List Nat := (V.drop (j * r)).take r
theorem HoldsE.part {α : Type} {K : Kind α} {w : World} {g off : Nat} {l : List α} (h : HoldsE K w (some ⟨g, off, none⟩) l) (k n : Nat) (hk : k + n ≤ l.length) : HoldsE K w (some ⟨g, off + k, none⟩) ((l.drop k).take n) := by
  rcases h with rfl | ⟨g', off', e, h2, h3⟩
  · exact .inl (by simp)
  · injection e with e
    injection e with e1 e2
    subst e1 e2
    refine .inr ⟨g, off + k, rfl, h2, fun j hj => ?_⟩
    have hjn : j < n := by simp at hj; omega
    rw [Nat.add_assoc, h3 (k + j) (by omega)]
    simp [List.getD_eq_getElem?_getD, hjn]

set_option maxHeartbeats 4000000 in
theorem column_no (k c b t d l p r q x : Int) (aV : Option Addr) (nV cV : Nat) (T : Value) (hr : -9223372036854775808 ≤ r ∧ r ≤ 9223372036854775807) (hq : -9223372036854775808 ≤ q ∧ q ≤ 9223372036854775807) (hn : nV ≤ 1048576) (hx : x < 0 ∨ q ≤ x ∨ fullB r q nV = false) (w : World) :
    Calls Try.prog 31 #[ds k c b t d l p r q (.slice aV nV cV) T, .int .i64 x] w fun e w' => e = .returned (.slice none 0 0) ∧ Below w.heap.size w w' := by
  have D0 := lay_dat w 33 k c b t d l p r q (.slice aV nV cV) T
  have b0 := lay_below w 33 k c b t d l p r q (.slice aV nV cV) T
  have hf := full_any k c b t d l p r q aV nV cV T hr hq hn
  unfold ds at *
  by_cases h1 : x < 0
  · have g1 : decide (x < 0) = true := decide_eq_true h1
    have HB := Lib.hid b0
    clear hr hq hx D0 hf b0 h1
    go_enter Try.func31, Try.ntmps31
    go_wp2_with fail
    go_ret
    exact ⟨rfl, HB.out⟩
  have g1 : decide (x < 0) = false := decide_eq_false h1
  by_cases h2 : q ≤ x
  · have g2 : decide (x ≥ q) = true := decide_eq_true h2
    have HB := Lib.hid b0
    clear hr hq hx D0 hf b0 h1 h2
    go_enter Try.func31, Try.ntmps31
    go_wp2_with fail
    go_ret
    exact ⟨rfl, HB.out⟩
  have g2 : decide (x ≥ q) = false := decide_eq_false h2
  have h3 : fullB r q nV = false := by rcases hx with h | h | h; exact absurd h h1; exact absurd h h2; exact h
  rw [h3] at hf
  clear hr hq hx h1 h2 h3
  go_enter Try.func31, Try.ntmps31
  go_wp2_with fail
  change Calls Try.prog _ _ (lay w 33 k c b t d l p r q (.slice aV nV cV) T) _
  generalize lay w 33 k c b t d l p r q (.slice aV nV cV) T = w0 at *
  refine (hf _).mono ?_
  rintro e w1 ⟨rfl, b1⟩
  have HB := Lib.hid (b0.trans (b1.mono b0.size))
  clear hf b0 b1 D0
  go_wp2_with fail
  go_ret
  exact ⟨rfl, HB.out⟩

theorem wrap_s {m : Nat} {x : Int} (h : x = (m : Int)) (hm : m ≤ 1048576) : wrap64 x = (m : Int) := by subst h; unfold wrap64; omega
set_option maxRecDepth 20000 in
set_option maxHeartbeats 4000000 in
theorem column_ok (k c b t d l p : Int) (r q j : Nat) (aV : Option Addr) (nV cV : Nat) (T : Value) (V : List Nat) (hVl : V.length = nV) (hn : nV ≤ 1000) (hrq : r * q = nV) (hj : j < q) (hq : q ≤ 1000) (hr : r ≤ 1000) (hc : nV ≤ cV) (ha : aV = none → cV = 0) (hfm : ∀ ad, aV = some ad → ∃ g off, ad = ⟨g, off, none⟩) (w : World) (hV : HoldsE KF w aV V) :
    Calls Try.prog 31 #[ds k c b t d l p r q (.slice aV nV cV) T, .int .i64 (j : Int)] w fun e w' => (∃ v, e = .returned v ∧ Own KF w' w.heap.size v (colL V r j)) ∧ Below w.heap.size w w' := by
  have D0 := lay_dat w 33 k c b t d l p r q (.slice aV nV cV) T
  have b0 := lay_below w 33 k c b t d l p r q (.slice aV nV cV) T
  have hf := full_any k c b t d l p r q aV nV cV T (by omega) (by omega) (by omega)
  have h3 : fullB r q nV = true := decide_eq_true ⟨by omega, by omega, by rw [← Int.natCast_mul, hrq]⟩
  rw [h3] at hf
  have g1 : decide ((j : Int) < 0) = false := decide_eq_false (by omega)
  have g2 : decide (q ≤ j) = false := decide_eq_false (by omega)
  have g2' : ¬ q ≤ j := by omega
  obtain ⟨m1, hm1⟩ : ∃ m, j * r = m := ⟨_, rfl⟩
  have hle : m1 + r ≤ nV := by
    have := Nat.mul_le_mul_right r (show j + 1 ≤ q by omega)
    rw [Nat.add_mul, Nat.one_mul, hm1, Nat.mul_comm q r, hrq] at this
    exact this
  have w1 : wrap64 ((j : Int) * (r : Int)) = (m1 : Int) := wrap_s (by rw [← Int.natCast_mul, hm1]) (by omega)
  have w2 : wrap64 ((j : Int) + 1) = ((j + 1 : Nat) : Int) := wrap_s (by omega) (by omega)
  have w3 : wrap64 (((j + 1 : Nat) : Int) * (r : Int)) = ((m1 + r : Nat) : Int) := wrap_s (by rw [← Int.natCast_mul, Nat.add_mul, Nat.one_mul, hm1]) (by omega)
  obtain ⟨j1, hj1⟩ : ∃ z, j + 1 = z := ⟨_, rfl⟩
  obtain ⟨m2, hm2⟩ : ∃ z, m1 + r = z := ⟨_, rfl⟩
  rw [hj1] at w2 w3
  rw [hm2] at w3
  have i1 : (m1 : Int) ≤ (m2 : Int) := by omega
  have i2 : (m2 : Int) ≤ (cV : Int) := by omega
  have i3 : ¬ m2 < m1 := by omega
  have hcl : ∀ W, HoldsE KF W aV V → ∀ a2 c2, (a2 = none → c2 = 0) → HoldsE KF W a2 (colL V r j) → Calls Try.prog 46 #[.slice a2 (m2 - m1) c2] W fun e w' => (∃ v, e = .returned v ∧ Own KF w' W.heap.size v (colL V r j)) ∧ Below W.heap.size W w' :=
    fun W _ a2 c2 h1 h2 => cloneF_any a2 (m2 - m1) c2 (colL V r j) (by unfold colL; rw [hm1, List.length_take, List.length_drop]; omega) (by omega) h1 W h2
  have HNUM := Lib.hid (And.intro hVl (And.intro hle (And.intro hm1 (And.intro hm2 (And.intro hc ha)))))
  unfold ds at *
  clear h3 hVl hn hrq hj hq hr hc ha hle hm1 hm2 hj1
  go_enter Try.func31, Try.ntmps31
  go_wp2_with fail
  change Calls Try.prog _ _ (lay w 33 k c b t d l p r q (.slice aV nV cV) T) _
  have hV1 := hV.below b0
  generalize lay w 33 k c b t d l p r q (.slice aV nV cV) T = w0 at *
  obtain ⟨N, hN⟩ : ∃ N, w.heap.size = N := ⟨_, rfl⟩
  have HN := Lib.hid hN
  rw [hN] at D0 ⊢
  clear hN
  refine (hf _).mono ?_
  rintro e w4 ⟨rfl, b1⟩
  have D1 := D0.below b1 D0.lt
  have hV2 := hV1.below b1
  have bb := b0.trans (b1.mono b0.size)
  have c7 : w4.cell? ⟨N, 7, none⟩ = some (.int .i64 (r : Int)) := D1.c 7 (by decide)
  have c9 : w4.cell? ⟨N, 9, none⟩ = some (.slice aV nV cV) := D1.c 9 (by decide)
  have bbs := bb.size
  clear hf b0 b1 D0 D1 hV hV1 g1 g2 g2'
  cases aV with
  | none =>
    have hc0 := HNUM.out.2.2.2.2.2 rfl
    have hV0 : V = [] := by
      rcases hV2 with h | ⟨_, _, h, _⟩
      · exact h
      · cases h
    have hnum := HNUM.out
    have e1 : m1 = 0 := by omega
    have e2 : m2 = 0 := by omega
    have hcl2 := hcl w4 hV2 none 0 (fun _ => rfl) (.inl (by unfold colL; rw [hV0]; simp))
    subst hc0 e1 e2
    clear hcl hnum hV2 hV0 i1 i2 i3
    go_wp2_with fail
    refine hcl2.mono ?_
    rintro e w5 ⟨⟨v, rfl, ov⟩, b5⟩
    have HB := Lib.hid (bb.trans (b5.mono bbs))
    have HO := Lib.hid (ov.base bbs)
    clear bb b5 ov hcl2
    go_wp2_with fail
    go_ret
    exact ⟨⟨_, rfl, HO.out⟩, HB.out⟩
  | some ad =>
    obtain ⟨g, off, rfl⟩ := hfm ad rfl
    obtain ⟨z1, z2, z3, z4, z5, z6⟩ := HNUM.out
    have hpart : HoldsE KF w4 (some ⟨g, off + m1, none⟩) (colL V r j) := by
      have := hV2.part m1 r (by omega)
      unfold colL
      rw [z3]; exact this
    by_cases hcap : cV = m1
    · have hem : colL V r j = [] := List.eq_nil_of_length_eq_zero (by unfold colL; rw [List.length_take, List.length_drop]; omega)
      have hcl2 := hcl w4 hV2 (some ⟨g, off, none⟩) 0 (fun h => by cases h) (.inl hem)
      clear hcl hV2 hpart hem hfm z1 z2 z3 z4 z5 z6
      go_wp2_with fail
      refine hcl2.mono ?_
      rintro e w5 ⟨⟨v, rfl, ov⟩, b5⟩
      have HB := Lib.hid (bb.trans (b5.mono bbs))
      have HO := Lib.hid (ov.base bbs)
      clear bb b5 ov hcl2
      go_wp2_with fail
      go_ret
      exact ⟨⟨_, rfl, HO.out⟩, HB.out⟩
    · have hcl2 := hcl w4 hV2 (some ⟨g, off + m1, none⟩) (cV - m1) (fun h => by cases h) hpart
      clear hcl hV2 hpart hfm z1 z2 z3 z4 z5 z6
      go_wp2_with fail
      refine hcl2.mono ?_
      rintro e w5 ⟨⟨v, rfl, ov⟩, b5⟩
      have HB := Lib.hid (bb.trans (b5.mono bbs))
      have HO := Lib.hid (ov.base bbs)
      clear bb b5 ov hcl2
      go_wp2_with fail
      go_ret
      exact ⟨⟨_, rfl, HO.out⟩, HB.out⟩
end Go.Proofs.Ytjaogmbeoldefaa
