/-
  DATASETS: Row: a row's values in a row of the call's own, or none. Conditions: at most 1000 values, rows and columns; or rows and columns of 64 bits with a sign.
-/
import Derived.Test.YtbmbgfmhejahjaaSame6
import Derived.Test.YtbmbgfmhejahjaaPSame
namespace Go.Proofs.Ytbmbgfmhejahjaa
open Go.RowKit

set_option maxHeartbeats 4000000 in
theorem row_no (k c b t d l p r q x : Int) (aV : Option Addr) (nV cV : Nat) (T : Value) (hr : -9223372036854775808 ≤ r ∧ r ≤ 9223372036854775807) (hq : -9223372036854775808 ≤ q ∧ q ≤ 9223372036854775807) (hn : nV ≤ 1048576) (hx : x < 0 ∨ r ≤ x ∨ fullB r q nV = false) (w : World) :
    Calls Try.prog 17 #[ds k c b t d l p r q (.slice aV nV cV) T, .int .i64 x] w fun e w' => e = .returned (.slice none 0 0) ∧ Below w.heap.size w w' := by
  have D0 := lay_dat w 36 k c b t d l p r q (.slice aV nV cV) T
  have b0 := lay_below w 36 k c b t d l p r q (.slice aV nV cV) T
  have hf := full_any k c b t d l p r q aV nV cV T hr hq hn
  unfold ds at *
  by_cases h1 : x < 0
  · have g1 : decide (x < 0) = true := decide_eq_true h1
    have HB := Lib.hid b0
    clear hr hq hx D0 hf b0 h1
    go_enter Try.func17, Try.ntmps17
    go_wp2_with fail
    go_ret
    exact ⟨rfl, HB.out⟩
  have g1 : decide (x < 0) = false := decide_eq_false h1
  by_cases h2 : r ≤ x
  · have g2 : decide (x ≥ r) = true := decide_eq_true h2
    have HB := Lib.hid b0
    clear hr hq hx D0 hf b0 h1 h2
    go_enter Try.func17, Try.ntmps17
    go_wp2_with fail
    go_ret
    exact ⟨rfl, HB.out⟩
  have g2 : decide (x ≥ r) = false := decide_eq_false h2
  have h3 : fullB r q nV = false := by rcases hx with h | h | h; exact absurd h h1; exact absurd h h2; exact h
  rw [h3] at hf
  clear hr hq hx h1 h2 h3
  go_enter Try.func17, Try.ntmps17
  go_wp2_with fail
  change Calls Try.prog _ _ (lay w 36 k c b t d l p r q (.slice aV nV cV) T) _
  generalize lay w 36 k c b t d l p r q (.slice aV nV cV) T = w0 at *
  refine (hf _).mono ?_
  rintro e w1 ⟨rfl, b1⟩
  have HB := Lib.hid (b0.trans (b1.mono b0.size))
  clear hf b0 b1 D0
  go_wp2_with fail
  go_ret
  exact ⟨rfl, HB.out⟩

/-- A row's first values. -/
def rowL (V : List Nat) (r i : Nat) : Nat → List Nat
  | 0 => []
  | t + 1 => rowL V r i t ++ [V.getD (i + t * r) 0]
theorem rowL_len (V : List Nat) (r i t : Nat) : (rowL V r i t).length = t := by
  induction t with
  | zero => rfl
  | succ t ih => simp [rowL, ih]
theorem row_in {r q i t n : Nat} (hrq : r * q = n) (hi : i < r) (ht : t < q) : i + t * r < n := by
  have h1 := Nat.mul_le_mul_right r (show t + 1 ≤ q by omega)
  rw [Nat.add_mul, Nat.one_mul, Nat.mul_comm q r, hrq] at h1
  omega
theorem row_out {r q i n : Nat} (hrq : r * q = n) : ¬ i + q * r < n := by rw [Nat.mul_comm q r, hrq]; omega
theorem row_step {r i t : Nat} : i + t * r + r = i + (t + 1) * r := by rw [Nat.add_mul, Nat.one_mul]; omega

set_option maxRecDepth 20000 in
set_option maxHeartbeats 4000000 in
theorem row_ok (k c b t d l p : Int) (r q i : Nat) (aV : Option Addr) (nV cV : Nat) (T : Value) (V : List Nat) (hVl : V.length = nV) (hn : nV ≤ 1000) (hrq : r * q = nV) (hi : i < r) (hq : q ≤ 1000) (hr : r ≤ 1000) (w : World) (hV : HoldsE KF w aV V) :
    Calls Try.prog 17 #[ds k c b t d l p r q (.slice aV nV cV) T, .int .i64 (i : Int)] w fun e w' => (∃ v, e = .returned v ∧ Own KF w' w.heap.size v (rowL V r i q)) ∧ Below w.heap.size w w' := by
  have D0 := lay_dat w 36 k c b t d l p r q (.slice aV nV cV) T
  have b0 := lay_below w 36 k c b t d l p r q (.slice aV nV cV) T
  have hf := full_any k c b t d l p r q aV nV cV T (by omega) (by omega) (by omega)
  have h3 : fullB r q nV = true := decide_eq_true ⟨by omega, by omega, by rw [← Int.natCast_mul, hrq]⟩
  rw [h3] at hf
  have g1 : decide ((i : Int) < 0) = false := decide_eq_false (by omega)
  have g2 : decide (r ≤ i) = false := decide_eq_false (by omega)
  have g2' : ¬ r ≤ i := by omega
  have HNUM := Lib.hid (And.intro hVl (And.intro hn (And.intro hrq (And.intro hi (And.intro hq hr)))))
  unfold ds at *
  clear h3 hVl hn hrq hi hq hr
  go_enter Try.func17, Try.ntmps17
  go_wp2_with fail
  change Calls Try.prog _ _ (lay w 36 k c b t d l p r q (.slice aV nV cV) T) _
  have hV1 := hV.below b0
  generalize lay w 36 k c b t d l p r q (.slice aV nV cV) T = w0 at *
  obtain ⟨N, hN⟩ : ∃ N, w.heap.size = N := ⟨_, rfl⟩
  have HN := Lib.hid hN
  rw [hN] at D0 ⊢
  clear hN
  refine (hf _).mono ?_
  rintro e w4 ⟨rfl, b1⟩
  have D1 := D0.below b1 D0.lt
  have hV2 := hV1.below b1
  have bb := b0.trans (b1.mono b0.size)
  obtain ⟨B, hB⟩ : ∃ B, w4.heap.size = B := ⟨_, rfl⟩
  have HBW : Hid (w.heap.size ≤ B ∧ N < B) := by rw [← hB]; exact ⟨bb.size, D1.lt⟩
  have hBs : B ≤ w4.heap.size := Nat.le_of_eq hB.symm
  have HB4 := Lib.hid hB
  clear hf b0 b1 D0 hV hV1 g1 g2 g2' hB
  go_wp2_with fail
  go_loopw [5, 6] (fun v5 v6 wr => ∃ (s A : Nat), v6 = .int .i64 (A : Int) ∧ Hid (A = i + s * r ∧ s ≤ q) ∧ Own KF wr B v5 (rowL V r i s) ∧ Dat N (dv k c b t d l p (r : Int) (q : Int) (.slice aV nV cV) T) wr ∧ Below w.heap.size w wr ∧ Below B w4 wr ∧ B ≤ wr.heap.size) (fun _ v6 _ => nV - (intOf v6).toNat)
  case atStart => exact ⟨0, i, rfl, ⟨by rw [Nat.zero_mul, Nat.add_zero], Nat.zero_le _⟩, Own.nil _ _, D1, bb, Below.refl _ _, hBs⟩
  case round =>
    obtain ⟨s, A, rfl, HA, own, D, bel, bel4, hsz⟩ := hrel
    clear D1 bb hBs
    have c7 : wr.cell? ⟨N, 7, none⟩ = some (.int .i64 (r : Int)) := D.c 7 (by decide)
    have c9 : wr.cell? ⟨N, 9, none⟩ = some (.slice aV nV cV) := D.c 9 (by decide)
    by_cases hlt : s < q
    · have hA : A < nV := by rw [HA.out.1]; exact row_in HNUM.out.2.2.1 HNUM.out.2.2.2.1 hlt
      have hl0 : A < V.length := by rw [HNUM.out.1]; exact hA
      obtain ⟨ga, off, rfl, hg, hrow⟩ := hV2.at hl0
      have cx : wr.cell? ⟨ga, off + A, none⟩ = some (.float .f64 (V.getD A 0)) := (bel4.cell (p := ⟨ga, off + A, none⟩) (by rw [← HB4.out]; exact hg)).trans (hrow A hl0)
      obtain ⟨x, HX⟩ : ∃ x, Hid (V.getD A 0 = x) := ⟨_, rfl⟩
      rw [HX.out] at cx
      have hres : Hid (rowL V r i (s + 1) = rowL V r i s ++ [x]) := by show _ = _; simp only [rowL]; rw [← HA.out.1, HX.out]
      have hll : Hid ((rowL V r i s).length = s ∧ s ≤ 10000) := ⟨rowL_len _ _ _ _, by have := HNUM.out; omega⟩
      obtain ⟨A2, hA2⟩ : ∃ A2, A + r = A2 := ⟨_, rfl⟩
      have HA2 : Hid (A2 = i + (s + 1) * r ∧ s + 1 ≤ q) := ⟨by rw [← hA2, HA.out.1]; exact row_step, hlt⟩
      have hme : Hid (nV - A2 < nV - A) := Nat.sub_lt_sub_left hA (by rw [← hA2]; exact Nat.lt_add_of_pos_right (Nat.lt_of_le_of_lt (Nat.zero_le _) HNUM.out.2.2.2.1))
      have i1 : (A : Int) < (nV : Int) := Int.ofNat_lt.mpr hA
      have i0 : (0 : Int) ≤ (A : Int) := Int.natCast_nonneg _
      have hw : wrap64 ((A : Int) + (r : Int)) = (A2 : Int) := wrap_s (by omega) (by have := HNUM.out; omega)
      have b5 := (Below.refl wr.heap.size wr).alloc (Nat.le_refl _) (.cells #[.float .f64 x] 51)
      have own5 := own.alloc (.cells #[.float .f64 x] 51)
      have cam : CameE KF (wr.alloc (.cells #[.float .f64 x] 51)) (some ⟨wr.heap.size, 0, none⟩) 1 [x] := CameE.new (K := KF) _
      have D5 := D.below b5 D.lt
      have bel5 := bel.trans (b5.mono bel.size)
      have bel45 := bel4.trans (b5.mono hsz)
      have hs5 := Nat.le_trans hsz b5.size
      clear hA hl0 hrow own D bel bel4 hsz b5 hA2 hlt
      go_wp2_with (at_builtin; refine app_own okF rfl _ _ rfl B hs5 _ _ rfl own5 _ 1 1 [x] rfl cam (by rw [hll.out.1]; have := hll.out.2; simp; omega) ?_)
      intro v6 w6 own6 b6
      have D6 := D5.below b6 HBW.out.2
      have HB6 := Lib.hid (bel5.trans (b6.mono HBW.out.1))
      have HB46 := Lib.hid (bel45.trans b6)
      have HS6 := Lib.hid (Nat.le_trans hs5 b6.size)
      have c76 : w6.cell? ⟨N, 7, none⟩ = some (.int .i64 (r : Int)) := D6.c 7 (by decide)
      have HO : Hid (Own KF w6 B v6 (rowL V r i (s + 1))) := by show Own KF _ _ _ _; rw [hres.out]; exact own6
      have HD := Lib.hid D6
      clear own5 cam D5 bel5 bel45 hs5 own6 b6 D6 c7 c9 cx
      go_wp2_with fail
      go_roundw
      case rel => exact ⟨s + 1, A2, congrArg (Value.int .i64) hw, HA2, HO.out, HD.out, HB6.out, HB46.out, HS6.out⟩
      case measure => rw [hw]; simp [intOf]; exact hme.out
    · have hs : s = q := Nat.le_antisymm HA.out.2 (Nat.le_of_not_lt hlt)
      have i1 : ¬ (A : Int) < (nV : Int) := by
        have := row_out (i := i) HNUM.out.2.2.1
        rw [← hs, ← HA.out.1] at this
        omega
      have HO : Hid (Own KF wr w.heap.size u5 (rowL V r i q)) := by rw [← hs]; exact own.base HBW.out.1
      clear own D hs hlt bel4 hsz
      go_wp2_with fail
      go_ret
      exact ⟨⟨_, rfl, HO.out⟩, bel⟩
end Go.Proofs.Ytbmbgfmhejahjaa
