/-
  THE DOCUMENT's Edges: the edges of all columns of a dataset, or none. Conditions: at most 500 values, of 64 bits each, and 1000 columns; rows and columns of 64 bits with a sign.
-/
import Derived.Test.YtjaogmbeoldefaaBinQ
import Derived.Test.YtjaogmbeoldefaaRef10
namespace Go.Proofs.Ytjaogmbeoldefaa
open Go.RowKit

/-- A dataset that doesn't fit: how the document finds it. -/
theorem fit_no {r q : Int} {n : Nat} (h : fitB r q n = false) : ¬ (0 ≤ r ∧ r < 16777217) ∨ (0 ≤ r ∧ r < 16777217) ∧ (¬ (0 ≤ q ∧ q < 16777217) ∨ (0 ≤ q ∧ q < 16777217) ∧ ((n : Int) != wrap64 (r * q)) = true) := by
  by_cases h1 : 0 ≤ r ∧ r < 16777217
  · refine .inr ⟨h1, ?_⟩
    by_cases h2 : 0 ≤ q ∧ q < 16777217
    · refine .inr ⟨h2, ?_⟩
      rw [mul_wrap h1 h2]
      have : ¬ r * q = (n : Int) := fun h3 => by
        have : fitB r q n = true := decide_eq_true ⟨h1, h2, h3⟩
        rw [h] at this
        cases this
      simp
      omega
    · exact .inl h2
  · exact .inl h1

set_option maxHeartbeats 1000000 in
theorem refEdges_no (k c b t d l p r q : Int) (aV : Option Addr) (nV cV : Nat) (T : Value) (h : fitB r q nV = false) (w : World) :
    Calls Try.prog 12 #[ds k c b t d l p r q (.slice aV nV cV) T] w fun e w' => GotL e w' 0 [] ∧ Below w.heap.size w w' := by
  have D0 := lay_dat w 33 k c b t d l p r q (.slice aV nV cV) T
  have b0 := lay_below w 33 k c b t d l p r q (.slice aV nV cV) T
  have b1 := (Below.refl (lay w 33 k c b t d l p r q (.slice aV nV cV) T).heap.size (lay w 33 k c b t d l p r q (.slice aV nV cV) T)).alloc (Nat.le_refl _) (.cells #[] 31)
  have D1 := D0.on' b1
  have HB := Lib.hid (b0.trans (b1.mono b0.size))
  have HH := Lib.hid (fit_no h)
  clear h D0 b0 b1
  unfold ds
  go_enter Try.func12, Try.ntmps12
  go_wp2_with fail
  change Calls _ _ _ ((lay w 33 k c b t d l p r q (.slice aV nV cV) T).alloc (.cells #[] 31)) _
  generalize (lay w 33 k c b t d l p r q (.slice aV nV cV) T).alloc (.cells #[] 31) = w1 at *
  obtain ⟨x0, x1, x2, x3, x4, x5, x6, x7, x8, x9, x10⟩ := D1.cells
  have c1 := few_any r w1
  have c2 := few_any q w1
  clear D1 x0 x1 x2 x3 x4 x5 x6 x10
  rcases HH.out with h1 | ⟨h1, h2 | ⟨h2, h3⟩⟩
  · rw [decide_eq_false h1] at c1
    clear h1 HH c2
    refine c1.mono ?_
    rintro e w' ⟨rfl, rfl⟩
    go_wp2_with fail
    go_ret
    exact ⟨⟨_, _, rfl, rfl, [], ⟨rfl, fun j hj => by simp at hj⟩, .inl rfl⟩, HB.out⟩
  · rw [decide_eq_true h1] at c1
    rw [decide_eq_false h2] at c2
    clear h1 h2 HH
    refine c1.mono ?_
    rintro e w' ⟨rfl, rfl⟩
    go_wp2_with fail
    refine c2.mono ?_
    rintro e w' ⟨rfl, rfl⟩
    go_wp2_with fail
    go_ret
    exact ⟨⟨_, _, rfl, rfl, [], ⟨rfl, fun j hj => by simp at hj⟩, .inl rfl⟩, HB.out⟩
  · rw [decide_eq_true h1] at c1
    rw [decide_eq_true h2] at c2
    clear h1 h2 HH
    refine c1.mono ?_
    rintro e w' ⟨rfl, rfl⟩
    go_wp2_with fail
    refine c2.mono ?_
    rintro e w' ⟨rfl, rfl⟩
    go_wp2_with fail
    go_ret
    exact ⟨⟨_, _, rfl, rfl, [], ⟨rfl, fun j hj => by simp at hj⟩, .inl rfl⟩, HB.out⟩

set_option maxRecDepth 20000 in
set_option maxHeartbeats 8000000 in
theorem refEdges_ok (k c b t d l p : Int) (r q : Nat) (aV : Option Addr) (nV cV : Nat) (T : Value) (V : List Nat) (hVl : V.length = nV) (hn : nV ≤ 500) (hrq : r * q = nV) (hq : q ≤ 1000) (hr : r ≤ 16777216) (hc : nV ≤ cV) (ha : aV = none → cV = 0) (hfm : ∀ ad, aV = some ad → ∃ g off, ad = ⟨g, off, none⟩) (h64 : Bits64 V) (w : World) (hV0 : HoldsE KF w aV V) :
    Calls Try.prog 12 #[ds k c b t d l p r q (.slice aV nV cV) T] w fun e w' => GotL e w' q (edgesA V r q b) ∧ Below w.heap.size w w' := by
  have D0 := lay_dat w 33 k c b t d l p r q (.slice aV nV cV) T
  have b0 := lay_below w 33 k c b t d l p r q (.slice aV nV cV) T
  have z0 := lay_size w 33 k c b t d l p r q (.slice aV nV cV) T
  have b1 := (Below.refl (lay w 33 k c b t d l p r q (.slice aV nV cV) T).heap.size (lay w 33 k c b t d l p r q (.slice aV nV cV) T)).alloc (Nat.le_refl _) (.cells #[] 31)
  have own0 := Own.start (K := KS) (lay w 33 k c b t d l p r q (.slice aV nV cV) T) (lay w 33 k c b t d l p r q (.slice aV nV cV) T).heap.size (Nat.le_refl _)
  have D1 := D0.on' b1
  have HB := b0.trans (b1.mono b0.size)
  have hsX := b1.size
  have hmw : wrap64 ((r : Int) * (q : Int)) = (nV : Int) := by
    have := mul_wrap (r := (r : Int)) (q := (q : Int)) ⟨by omega, by omega⟩ ⟨by omega, by omega⟩
    rw [this, ← Int.natCast_mul, hrq]
  have g3 : ((nV : Int) != wrap64 ((r : Int) * (q : Int))) = false := by rw [hmw]; simp
  have d1 : decide (0 ≤ (r : Int) ∧ (r : Int) < 16777217) = true := decide_eq_true (by omega)
  have d2 : decide (0 ≤ (q : Int) ∧ (q : Int) < 16777217) = true := decide_eq_true (by omega)
  have HNUM := Lib.hid (And.intro hVl (And.intro hrq (And.intro hq hn)))
  have HSL := Lib.hid (And.intro hc (And.intro ha hfm))
  have H64 := Lib.hid h64
  have HV0 := Lib.hid hV0
  have HRF0 : Hid (∀ jj, jj < q → ∀ a2 c2 W, HoldsE KF W a2 (colL V r jj) → Calls Try.prog 33 #[.slice a2 r c2, .int .i64 b] W fun e w' => GotR e w' W.heap.size (edgesL (colL V r jj) b) ∧ Below W.heap.size W w') := fun jj hj a2 c2 W h => ref10_any a2 c2 r (colL V r jj) (col_len hVl hrq hj) (by have := col_len hVl hrq hj; unfold colL at this; rw [List.length_take, List.length_drop] at this; omega) (col_bits h64 r jj) b W h
  unfold ds
  clear hVl hn hrq hq hr hc ha hfm h64 hV0 hmw D0 b0 b1
  go_enter Try.func12, Try.ntmps12
  go_wp2_with fail
  change Calls _ _ _ ((lay w 33 k c b t d l p r q (.slice aV nV cV) T).alloc (.cells #[] 31)) _
  have own1 : Own KS ((lay w 33 k c b t d l p r q (.slice aV nV cV) T).alloc (.cells #[] 31)) (lay w 33 k c b t d l p r q (.slice aV nV cV) T).heap.size (.slice (some ⟨(lay w 33 k c b t d l p r q (.slice aV nV cV) T).heap.size, 0, none⟩) 0 0) [] := own0
  clear own0
  generalize (lay w 33 k c b t d l p r q (.slice aV nV cV) T).alloc (.cells #[] 31) = w1 at *
  rw [z0] at own1 hsX
  obtain ⟨N, hN⟩ : ∃ N, w.heap.size = N := ⟨_, rfl⟩
  have HN := Lib.hid hN
  rw [hN] at own1 hsX D1 ⊢
  clear hN z0
  obtain ⟨X, hX⟩ : ∃ X, N + 1 = X := ⟨_, rfl⟩
  rw [hX] at own1 hsX ⊢
  have HNX : Hid (N < X) := by show _ < _; omega
  have HXW : Hid (w.heap.size ≤ X) := by have := HN.out; show _ ≤ _; omega
  clear hX
  obtain ⟨x0, x1, x2, x3, x4, x5, x6, x7, x8, x9, x10⟩ := D1.cells
  have c1 := few_any r w1
  have c2 := few_any q w1
  rw [d1] at c1
  rw [d2] at c2
  clear d1 d2 x0 x1 x2 x3 x4 x5 x6 x10
  refine c1.mono ?_
  rintro e w' ⟨rfl, rfl⟩
  go_wp2_with fail
  refine c2.mono ?_
  rintro e w' ⟨rfl, rfl⟩
  go_wp2_with fail
  clear c1 c2 x7 x8 x9 g3
  go_loopw [3, 4] (fun s3 s4 wr => ∃ (jj G mm cc : Nat) (hs : List Hdr), s4 = .int .i64 (jj : Int) ∧ jj ≤ q ∧ s3 = .slice (some ⟨G, 0, none⟩) mm cc ∧ HdsX G wr hs ((edgesA V r q b).take jj) ∧ Own KS wr X (.slice (some ⟨G, 0, none⟩) mm cc) hs ∧ Dat N (dv k c b t d l p r q (.slice aV nV cV) T) wr ∧ X ≤ wr.heap.size ∧ Below w.heap.size w wr) (fun _ v _ => q - (intOf v).toNat)
  case atStart => exact ⟨0, X, 0, 0, [], rfl, by omega, rfl, by rw [List.take_zero]; exact HdsX.nil _ _, own1, D1, hsX, HB⟩
  case round =>
    obtain ⟨jj, G, mm, cc, hs, rfl, hjj, rfl, hds, own, D, hs3, bel⟩ := hrel
    clear own1 D1 hsX HB
    have HHL : Hid (hs.length = jj) := by
      have := hds.1
      rw [List.length_take, edgesA_len] at this
      show _ = _
      omega
    have e8 : wr.cell? ⟨N, 8, none⟩ = some (.int .i64 (q : Int)) := D.c 8 (by decide)
    by_cases hlt : jj < q
    · have HJ := Lib.hid hlt
      have HJU := Lib.hid (up_is hlt (show q ≤ 16777216 by have := HNUM.out.2.2.1; omega))
      have HJV := Lib.hid (up_less hlt (show q ≤ 16777216 by have := HNUM.out.2.2.1; omega))
      have HTS := Lib.hid (edgesA_step V r q b hlt)
      have HRM : Hid (jj + 1 ≤ 1048576) := by have := HNUM.out.2.2.1; show _ ≤ _; omega
      have HRF := Lib.hid (HRF0.out jj hlt)
      have i1 : (jj : Int) < (q : Int) := by omega
      obtain ⟨m1, hm1⟩ : ∃ m, jj * r = m := ⟨_, rfl⟩
      have hle : m1 + r ≤ nV := by
        have := Nat.mul_le_mul_right r (show jj + 1 ≤ q by omega)
        rw [Nat.add_mul, Nat.one_mul, hm1, Nat.mul_comm q r, HNUM.out.2.1] at this
        exact this
      have hnb := HNUM.out.2.2.2
      have hqb := HNUM.out.2.2.1
      obtain ⟨m2, hm2⟩ : ∃ z, m1 + r = z := ⟨_, rfl⟩
      obtain ⟨j1, hj1⟩ : ∃ z, jj + 1 = z := ⟨_, rfl⟩
      have HA1 : Hid (IntKind.i64.wrap ((jj : Int) * (r : Int)) = (m1 : Int)) := by
        show _ = _
        rw [wrap_i, mul_nat_wrap (n := nV) (by omega) (by omega), hm1]
      have HA2 : Hid (IntKind.i64.wrap ((jj : Int) + 1) = (j1 : Int)) := by
        show _ = _
        rw [wrap_i]
        exact up_int hj1 (by omega)
      have HA3 : Hid (IntKind.i64.wrap ((j1 : Int) * (r : Int)) = (m2 : Int)) := by
        have hx : j1 * r = m2 := by rw [← hj1, Nat.add_mul, Nat.one_mul, hm1, hm2]
        show _ = _
        rw [wrap_i, mul_nat_wrap (n := nV) (by omega) (by omega), hx]
      have HDF : Hid (m2 - m1 = r) := by show _ = _; omega
      have hcV := HSL.out.1
      have k1 : (m1 : Int) ≤ (m2 : Int) := by omega
      have k2 : (m2 : Int) ≤ (cV : Int) := by omega
      have k3 : ¬ m2 < m1 := by omega
      have HK := Lib.hid (And.intro k1 (And.intro k2 k3))
      have HLE := Lib.hid (And.intro hle (And.intro hm1 hm2))
      have hvw := HV0.out.below bel
      clear hle hnb hqb hm1 hm2 hj1 hlt hjj k1 k2 k3 hcV
      go_wp2_with fail
      clear e8
      replace D := D.drew
      replace own : Own KS wr.drew X (.slice (some ⟨G, 0, none⟩) mm cc) hs := own
      replace hds : HdsX G wr.drew hs ((edgesA V r q b).take jj) := hds
      replace bel := bel.drew
      have hs3 : X ≤ wr.drew.heap.size := hs3
      have hvw : HoldsE KF wr.drew aV V := hvw
      cases aV with
      | none =>
        have hc0 := HSL.out.2.1 rfl
        have hV0 : V = [] := by
          rcases hvw with h | ⟨_, _, h, _⟩
          · exact h
          · cases h
        have hnum := HLE.out
        have hnV : nV = 0 := by have := HNUM.out.1; rw [hV0] at this; exact this.symm
        have e1 : m1 = 0 := by omega
        have e2 : m2 = 0 := by omega
        have e3 : r = 0 := by omega
        have hpart : HoldsE KF wr.drew none (colL V r jj) := .inl (by unfold colL; rw [hV0]; simp)
        have HRN : Hid (∀ W, HoldsE KF W none (colL V r jj) → Calls Try.prog 33 #[.slice none 0 0, .int .i64 b] W fun e w' => GotR e w' W.heap.size (edgesL (colL V r jj) b) ∧ Below W.heap.size W w') := fun W h => by
          have := HRF.out none 0 W h
          rwa [show Value.slice none r 0 = Value.slice none 0 0 by rw [e3]] at this
        clear hnum hV0 hvw HLE hnV e3
        subst hc0 e1 e2
        obtain ⟨k1, k2, k3⟩ := HK.out
        have wa := HA1.out
        have wb := HA2.out
        have wc := HA3.out
        refine wp_region_held_drew (S := (fun W => W.cell? ⟨N, 0, none⟩ = some (.int .i64 k) ∧ W.cell? ⟨N, 1, none⟩ = some (.int .i64 c) ∧ W.cell? ⟨N, 2, none⟩ = some (.int .i64 b) ∧ W.cell? ⟨N, 3, none⟩ = some (.int .i64 t) ∧ W.cell? ⟨N, 4, none⟩ = some (.int .i64 d) ∧ W.cell? ⟨N, 5, none⟩ = some (.int .i64 l) ∧ W.cell? ⟨N, 6, none⟩ = some (.int .i64 p) ∧ W.cell? ⟨N, 7, none⟩ = some (.int .i64 (r : Int)) ∧ W.cell? ⟨N, 8, none⟩ = some (.int .i64 (q : Int)) ∧ W.cell? ⟨N, 9, none⟩ = some (.slice none nV 0) ∧ W.cell? ⟨N, 10, none⟩ = some T)) (by kernel_rfl) (by exact D.cells) (fun hHeld => ?_)
        generalize wr.drew = wd at *
        refine takeQ (i := 0) (v := ?_) rfl (by kernel_rfl) (by kernel_rfl) (by kernel_rfl) (fun _ _ _ h => h) (by rfl) hHeld ?_ ?_
        rotate_left
        · (intro w' hSw; (try dsimp only at hSw); go_simp <;> (with_reducible rfl))
        try simp only [Act.put, List.setIfInBounds_toArray, List.set_cons_zero, List.set_cons_succ]
        refine takeQ (i := 1) (v := ?_) rfl (by kernel_rfl) (by kernel_rfl) (by kernel_rfl) (fun _ _ _ h => h) (by rfl) hHeld ?_ ?_
        rotate_left
        · (intro w' hSw; (try dsimp only at hSw); go_simp <;> (with_reducible rfl))
        try simp only [Act.put, List.setIfInBounds_toArray, List.set_cons_zero, List.set_cons_succ]
        refine takeQ (i := 2) (v := ?_) rfl (by kernel_rfl) (by kernel_rfl) (by kernel_rfl) (fun _ _ _ h => h) (by rfl) hHeld ?_ ?_
        rotate_left
        · (intro w' hSw; (try dsimp only at hSw); go_simp <;> (with_reducible rfl))
        try simp only [Act.put, List.setIfInBounds_toArray, List.set_cons_zero, List.set_cons_succ]
        refine takeQ (i := 3) (v := ?_) rfl (by kernel_rfl) (by kernel_rfl) (by kernel_rfl) (fun _ _ _ h => h) (by rfl) hHeld ?_ ?_
        rotate_left
        · (intro w' hSw; (try dsimp only at hSw); go_simp <;> (with_reducible rfl))
        try simp only [Act.put, List.setIfInBounds_toArray, List.set_cons_zero, List.set_cons_succ]
        refine takeQ (i := 4) (v := ?_) rfl (by kernel_rfl) (by kernel_rfl) (by kernel_rfl) (fun _ _ _ h => h) (by rfl) hHeld ?_ ?_
        rotate_left
        · (intro w' hSw; (try dsimp only at hSw); go_simp <;> (with_reducible rfl))
        try simp only [Act.put, List.setIfInBounds_toArray, List.set_cons_zero, List.set_cons_succ]
        refine takeQ (i := 5) (v := ?_) rfl (by kernel_rfl) (by kernel_rfl) (by kernel_rfl) (fun _ _ _ h => h) (by rfl) hHeld ?_ ?_
        rotate_left
        · (intro w' hSw; (try dsimp only at hSw); go_simp <;> (with_reducible rfl))
        try simp only [Act.put, List.setIfInBounds_toArray, List.set_cons_zero, List.set_cons_succ]
        refine takeQ (i := 6) (v := ?_) rfl (by kernel_rfl) (by kernel_rfl) (by kernel_rfl) (fun _ _ _ h => h) (by rfl) hHeld ?_ ?_
        rotate_left
        · (intro w' hSw; (try dsimp only at hSw); go_simp <;> (with_reducible rfl))
        try simp only [Act.put, List.setIfInBounds_toArray, List.set_cons_zero, List.set_cons_succ]
        refine takeQ (i := 7) (v := ?_) rfl (by kernel_rfl) (by kernel_rfl) (by kernel_rfl) (fun _ _ _ h => h) (by rfl) hHeld ?_ ?_
        rotate_left
        · (intro w' hSw; (try dsimp only at hSw); go_simp <;> (with_reducible rfl))
        try simp only [Act.put, List.setIfInBounds_toArray, List.set_cons_zero, List.set_cons_succ]
        refine takeQ (i := 8) (v := ?_) rfl (by kernel_rfl) (by kernel_rfl) (by kernel_rfl) (fun _ _ _ h => h) (by rfl) hHeld ?_ ?_
        rotate_left
        · (intro w' hSw; (try dsimp only at hSw); go_simp <;> (with_reducible rfl))
        try simp only [Act.put, List.setIfInBounds_toArray, List.set_cons_zero, List.set_cons_succ]
        refine takeQ (i := 9) (v := ?_) rfl (by kernel_rfl) (by kernel_rfl) (by kernel_rfl) (fun _ _ _ h => h) (by rfl) hHeld ?_ ?_
        rotate_left
        · (intro w' hSw; (try dsimp only at hSw); go_simp <;> (with_reducible rfl))
        try simp only [Act.put, List.setIfInBounds_toArray, List.set_cons_zero, List.set_cons_succ]
        refine takeQ (i := 10) (v := ?_) rfl (by kernel_rfl) (by kernel_rfl) (by kernel_rfl) (fun _ _ _ h => h) (by rfl) hHeld ?_ ?_
        rotate_left
        · (intro w' hSw; (try dsimp only at hSw); go_simp <;> (with_reducible rfl))
        try simp only [Act.put, List.setIfInBounds_toArray, List.set_cons_zero, List.set_cons_succ]
        refine takeQ (i := 11) (v := ?_) rfl (by kernel_rfl) (by kernel_rfl) (by kernel_rfl) (fun _ _ _ h => h) (by rfl) hHeld ?_ ?_
        rotate_left
        · (intro w' hSw; (try dsimp only at hSw); go_simp <;> (with_reducible rfl))
        try simp only [Act.put, List.setIfInBounds_toArray, List.set_cons_zero, List.set_cons_succ]
        refine takeQ (i := 12) (v := ?_) rfl (by kernel_rfl) (by kernel_rfl) (by kernel_rfl) (fun _ _ _ h => h) (by rfl) hHeld ?_ ?_
        rotate_left
        · (intro w' hSw; (try dsimp only at hSw); go_simp <;> (with_reducible rfl))
        try simp only [Act.put, List.setIfInBounds_toArray, List.set_cons_zero, List.set_cons_succ]
        refine takeQ (i := 13) (v := ?_) rfl (by kernel_rfl) (by kernel_rfl) (by kernel_rfl) (fun _ _ _ h => h) (by rfl) hHeld ?_ ?_
        rotate_left
        · (intro w' hSw; (try dsimp only at hSw); go_simp <;> (with_reducible rfl))
        try simp only [Act.put, List.setIfInBounds_toArray, List.set_cons_zero, List.set_cons_succ]
        refine takeQ (i := 14) (v := ?_) rfl (by kernel_rfl) (by kernel_rfl) (by kernel_rfl) (fun _ _ _ h => h) (by rfl) hHeld ?_ ?_
        rotate_left
        · (intro w' hSw; (try dsimp only at hSw); go_simp <;> (with_reducible rfl))
        try simp only [Act.put, List.setIfInBounds_toArray, List.set_cons_zero, List.set_cons_succ]
        refine takeQ (i := 15) (v := ?_) rfl (by kernel_rfl) (by kernel_rfl) (by kernel_rfl) (fun _ _ _ h => h) (by rfl) hHeld ?_ ?_
        rotate_left
        · (intro w' hSw; (try dsimp only at hSw); go_simp <;> (with_reducible rfl))
        try simp only [Act.put, List.setIfInBounds_toArray, List.set_cons_zero, List.set_cons_succ]
        refine callL (i := 16) (by kernel_rfl) rfl (by rfl) (fun K hK => ?_)
        go_simp
        clear wa wb wc k1 k2 k3
        refine (HRN.out wd hpart).mono ?_
        rintro _ w5 ⟨⟨g5, c5, rfl, hg5, hL5⟩, b5⟩
        have hG5 := (World.ownsRow.lt own G rfl).2
        replace D := D.on' b5
        replace own := own.below b5
        replace hds := hds.below b5
        have hs5 := Nat.le_trans hs3 b5.size
        replace bel := bel.trans (b5.mono bel.size)
        have hx5 : HdX G w5 (some ⟨g5, 0, none⟩, (edgesL (colL V r jj) b).length, c5) (edgesL (colL V r jj) b) := ⟨rfl, .inr ⟨g5, 0, rfl, by omega, hL5.lt, hL5.cell⟩⟩
        clear b5 hL5 hpart
        try dsimp only
        refine hK.out _ _ (by exact D.cells) (fun hHeld => ?_)
        clear hK K
        try simp only [Act.put, List.setIfInBounds_toArray, List.set_cons_zero, List.set_cons_succ]
        refine callL (i := 17) (by kernel_rfl) rfl (by rfl) (fun K hK => ?_)
        go_simp
        have b6 := (Below.refl w5.heap.size w5).alloc (Nat.le_refl _) (.cells #[KS.enc (some ⟨g5, 0, none⟩, (edgesL (colL V r jj) b).length, c5)] 31)
        have cam : CameE KS (w5.alloc (.cells #[KS.enc (some ⟨g5, 0, none⟩, (edgesL (colL V r jj) b).length, c5)] KS.e)) (some ⟨w5.heap.size, 0, none⟩) 1 [(some ⟨g5, 0, none⟩, (edgesL (colL V r jj) b).length, c5)] := CameE.new (K := KS) _
        have own6 : Own KS (w5.alloc (.cells #[KS.enc (some ⟨g5, 0, none⟩, (edgesL (colL V r jj) b).length, c5)] KS.e)) X (.slice (some ⟨G, 0, none⟩) mm cc) hs := own.alloc _
        replace D := D.on' b6
        replace hds := hds.below b6
        replace hx5 := hx5.below b6
        have hs6 := Nat.le_trans hs5 b6.size
        replace bel := bel.trans (b6.mono bel.size)
        try dsimp only
        refine hK.out _ _ (by exact D.cells) (fun hHeld => ?_)
        clear hK K
        try simp only [Act.put, List.setIfInBounds_toArray, List.set_cons_zero, List.set_cons_succ]
        refine callL (i := 18) (by kernel_rfl) rfl (by rfl) (fun K hK => ?_)
        refine app_lies_wp (w := w5.alloc (.cells #[KS.enc (some ⟨g5, 0, none⟩, (edgesL (colL V r jj) b).length, c5)] KS.e)) okS _ _ rfl X hs6 _ hs rfl own6 (some ⟨w5.heap.size, 0, none⟩) 1 1 [(some ⟨g5, 0, none⟩, (edgesL (colL V r jj) b).length, c5)] rfl cam (by rw [HHL.out]; exact HRM.out) (by decide) ?_
        intro g7 c7 w7 own7 gr7 lies7 lt7
        have bX : Below X _ w7 := (Below.refl X _).grown gr7 hs6 (fun g hg => (World.ownsRow.lt own6 g hg).1)
        have bG := But.grown gr7
        have hlies : g7 = G ∨ g7 = (w5.alloc (.cells #[KS.enc (some ⟨g5, 0, none⟩, (edgesL (colL V r jj) b).length, c5)] KS.e)).heap.size := by rcases lies7 with h | h; exact .inl (Option.some.inj h).symm; exact .inr h
        have hds7 := (hds.push hx5).grow bG hlies
        rw [← HTS.out] at hds7
        replace D := D.below bX HNX.out
        have hs7 := Nat.le_trans hs6 bX.size
        replace bel := bel.trans (bX.mono HXW.out)
        clear gr7 lies7 lt7 bX bG hlies own6 hx5 hds cam b6
        try dsimp only
        refine hK.out _ _ (by exact D.cells) (fun hHeld => ?_)
        clear hK K
        try simp only [Act.put, List.setIfInBounds_toArray, List.set_cons_zero, List.set_cons_succ]
        refine callL (i := 19) (by kernel_rfl) rfl (by rfl) (fun K hK => ?_)
        go_simp
        try dsimp only
        refine hK.out _ _ (by exact D.cells) (fun hHeld => ?_)
        clear hK K
        try simp only [Act.put, List.setIfInBounds_toArray, List.set_cons_zero, List.set_cons_succ]
        refine wpAnyH_done (by kernel_rfl) ?_ _
        clear hHeld
        have HQ := Lib.hid (And.intro hds7 (And.intro own7 (And.intro D (And.intro hs7 bel))))
        clear hds7 own7 D hs7 bel own hs6 hs5 hs3 hg5 hG5
        rw [HHL.out]
        rw [HHL.out] at HQ
        go_wp2_with fail
        go_roundw
        case rel => exact ⟨jj + 1, g7, jj + 1, c7, _, HJU.out, HJ.out, rfl, HQ.out.1, HQ.out.2.1, HQ.out.2.2.1, HQ.out.2.2.2.1, HQ.out.2.2.2.2⟩
        case measure => exact HJV.out
      | some ad =>
        obtain ⟨g, off, rfl⟩ := HSL.out.2.2 ad rfl
        have hpart0 : HoldsE KF wr.drew (some ⟨g, off + m1, none⟩) (colL V r jj) := by
          have := hvw.part m1 r (by have := HLE.out.1; have := HNUM.out.1; omega)
          unfold colL
          rw [HLE.out.2.1]; exact this
        by_cases hcap : cV = m1
        · have hem : colL V r jj = [] := List.eq_nil_of_length_eq_zero (by rw [col_len HNUM.out.1 HNUM.out.2.1 HJ.out]; have := HLE.out; have := HSL.out.1; omega)
          have hpart : HoldsE KF wr.drew (some ⟨g, off, none⟩) (colL V r jj) := .inl hem
          have n1 : m2 ≤ m1 := by have := HK.out; omega
          have n2 : m1 ≤ m2 := by have := HK.out; omega
          clear hem hpart0 hvw HLE
          subst hcap
          obtain ⟨k1, k2, k3⟩ := HK.out
          have wa := HA1.out
          have wb := HA2.out
          have wc := HA3.out
          have hdf := HDF.out
          refine wp_region_held_drew (S := (fun W => W.cell? ⟨N, 0, none⟩ = some (.int .i64 k) ∧ W.cell? ⟨N, 1, none⟩ = some (.int .i64 c) ∧ W.cell? ⟨N, 2, none⟩ = some (.int .i64 b) ∧ W.cell? ⟨N, 3, none⟩ = some (.int .i64 t) ∧ W.cell? ⟨N, 4, none⟩ = some (.int .i64 d) ∧ W.cell? ⟨N, 5, none⟩ = some (.int .i64 l) ∧ W.cell? ⟨N, 6, none⟩ = some (.int .i64 p) ∧ W.cell? ⟨N, 7, none⟩ = some (.int .i64 (r : Int)) ∧ W.cell? ⟨N, 8, none⟩ = some (.int .i64 (q : Int)) ∧ W.cell? ⟨N, 9, none⟩ = some (.slice (some ⟨g, off, none⟩) nV cV) ∧ W.cell? ⟨N, 10, none⟩ = some T)) (by kernel_rfl) (by exact D.cells) (fun hHeld => ?_)
          generalize wr.drew = wd at *
          refine takeQ (i := 0) (v := ?_) rfl (by kernel_rfl) (by kernel_rfl) (by kernel_rfl) (fun _ _ _ h => h) (by rfl) hHeld ?_ ?_
          rotate_left
          · (intro w' hSw; (try dsimp only at hSw); go_simp <;> (with_reducible rfl))
          try simp only [Act.put, List.setIfInBounds_toArray, List.set_cons_zero, List.set_cons_succ]
          refine takeQ (i := 1) (v := ?_) rfl (by kernel_rfl) (by kernel_rfl) (by kernel_rfl) (fun _ _ _ h => h) (by rfl) hHeld ?_ ?_
          rotate_left
          · (intro w' hSw; (try dsimp only at hSw); go_simp <;> (with_reducible rfl))
          try simp only [Act.put, List.setIfInBounds_toArray, List.set_cons_zero, List.set_cons_succ]
          refine takeQ (i := 2) (v := ?_) rfl (by kernel_rfl) (by kernel_rfl) (by kernel_rfl) (fun _ _ _ h => h) (by rfl) hHeld ?_ ?_
          rotate_left
          · (intro w' hSw; (try dsimp only at hSw); go_simp <;> (with_reducible rfl))
          try simp only [Act.put, List.setIfInBounds_toArray, List.set_cons_zero, List.set_cons_succ]
          refine takeQ (i := 3) (v := ?_) rfl (by kernel_rfl) (by kernel_rfl) (by kernel_rfl) (fun _ _ _ h => h) (by rfl) hHeld ?_ ?_
          rotate_left
          · (intro w' hSw; (try dsimp only at hSw); go_simp <;> (with_reducible rfl))
          try simp only [Act.put, List.setIfInBounds_toArray, List.set_cons_zero, List.set_cons_succ]
          refine takeQ (i := 4) (v := ?_) rfl (by kernel_rfl) (by kernel_rfl) (by kernel_rfl) (fun _ _ _ h => h) (by rfl) hHeld ?_ ?_
          rotate_left
          · (intro w' hSw; (try dsimp only at hSw); go_simp <;> (with_reducible rfl))
          try simp only [Act.put, List.setIfInBounds_toArray, List.set_cons_zero, List.set_cons_succ]
          refine takeQ (i := 5) (v := ?_) rfl (by kernel_rfl) (by kernel_rfl) (by kernel_rfl) (fun _ _ _ h => h) (by rfl) hHeld ?_ ?_
          rotate_left
          · (intro w' hSw; (try dsimp only at hSw); go_simp <;> (with_reducible rfl))
          try simp only [Act.put, List.setIfInBounds_toArray, List.set_cons_zero, List.set_cons_succ]
          refine takeQ (i := 6) (v := ?_) rfl (by kernel_rfl) (by kernel_rfl) (by kernel_rfl) (fun _ _ _ h => h) (by rfl) hHeld ?_ ?_
          rotate_left
          · (intro w' hSw; (try dsimp only at hSw); go_simp <;> (with_reducible rfl))
          try simp only [Act.put, List.setIfInBounds_toArray, List.set_cons_zero, List.set_cons_succ]
          refine takeQ (i := 7) (v := ?_) rfl (by kernel_rfl) (by kernel_rfl) (by kernel_rfl) (fun _ _ _ h => h) (by rfl) hHeld ?_ ?_
          rotate_left
          · (intro w' hSw; (try dsimp only at hSw); go_simp <;> (with_reducible rfl))
          try simp only [Act.put, List.setIfInBounds_toArray, List.set_cons_zero, List.set_cons_succ]
          refine takeQ (i := 8) (v := ?_) rfl (by kernel_rfl) (by kernel_rfl) (by kernel_rfl) (fun _ _ _ h => h) (by rfl) hHeld ?_ ?_
          rotate_left
          · (intro w' hSw; (try dsimp only at hSw); go_simp <;> (with_reducible rfl))
          try simp only [Act.put, List.setIfInBounds_toArray, List.set_cons_zero, List.set_cons_succ]
          refine takeQ (i := 9) (v := ?_) rfl (by kernel_rfl) (by kernel_rfl) (by kernel_rfl) (fun _ _ _ h => h) (by rfl) hHeld ?_ ?_
          rotate_left
          · (intro w' hSw; (try dsimp only at hSw); go_simp <;> (with_reducible rfl))
          try simp only [Act.put, List.setIfInBounds_toArray, List.set_cons_zero, List.set_cons_succ]
          refine takeQ (i := 10) (v := ?_) rfl (by kernel_rfl) (by kernel_rfl) (by kernel_rfl) (fun _ _ _ h => h) (by rfl) hHeld ?_ ?_
          rotate_left
          · (intro w' hSw; (try dsimp only at hSw); go_simp <;> (with_reducible rfl))
          try simp only [Act.put, List.setIfInBounds_toArray, List.set_cons_zero, List.set_cons_succ]
          refine takeQ (i := 11) (v := ?_) rfl (by kernel_rfl) (by kernel_rfl) (by kernel_rfl) (fun _ _ _ h => h) (by rfl) hHeld ?_ ?_
          rotate_left
          · (intro w' hSw; (try dsimp only at hSw); go_simp <;> (with_reducible rfl))
          try simp only [Act.put, List.setIfInBounds_toArray, List.set_cons_zero, List.set_cons_succ]
          refine takeQ (i := 12) (v := ?_) rfl (by kernel_rfl) (by kernel_rfl) (by kernel_rfl) (fun _ _ _ h => h) (by rfl) hHeld ?_ ?_
          rotate_left
          · (intro w' hSw; (try dsimp only at hSw); go_simp <;> (with_reducible rfl))
          try simp only [Act.put, List.setIfInBounds_toArray, List.set_cons_zero, List.set_cons_succ]
          refine takeQ (i := 13) (v := ?_) rfl (by kernel_rfl) (by kernel_rfl) (by kernel_rfl) (fun _ _ _ h => h) (by rfl) hHeld ?_ ?_
          rotate_left
          · (intro w' hSw; (try dsimp only at hSw); go_simp <;> (with_reducible rfl))
          try simp only [Act.put, List.setIfInBounds_toArray, List.set_cons_zero, List.set_cons_succ]
          refine takeQ (i := 14) (v := ?_) rfl (by kernel_rfl) (by kernel_rfl) (by kernel_rfl) (fun _ _ _ h => h) (by rfl) hHeld ?_ ?_
          rotate_left
          · (intro w' hSw; (try dsimp only at hSw); go_simp <;> (with_reducible rfl))
          try simp only [Act.put, List.setIfInBounds_toArray, List.set_cons_zero, List.set_cons_succ]
          refine takeQ (i := 15) (v := ?_) rfl (by kernel_rfl) (by kernel_rfl) (by kernel_rfl) (fun _ _ _ h => h) (by rfl) hHeld ?_ ?_
          rotate_left
          · (intro w' hSw; (try dsimp only at hSw); go_simp <;> (with_reducible rfl))
          try simp only [Act.put, List.setIfInBounds_toArray, List.set_cons_zero, List.set_cons_succ]
          refine callL (i := 16) (by kernel_rfl) rfl (by rfl) (fun K hK => ?_)
          go_simp
          clear wa wb wc k1 k2 k3
          clear hdf
          refine (HRF.out (some ⟨g, off, none⟩) 0 wd hpart).mono ?_
          rintro _ w5 ⟨⟨g5, c5, rfl, hg5, hL5⟩, b5⟩
          have hG5 := (World.ownsRow.lt own G rfl).2
          replace D := D.on' b5
          replace own := own.below b5
          replace hds := hds.below b5
          have hs5 := Nat.le_trans hs3 b5.size
          replace bel := bel.trans (b5.mono bel.size)
          have hx5 : HdX G w5 (some ⟨g5, 0, none⟩, (edgesL (colL V r jj) b).length, c5) (edgesL (colL V r jj) b) := ⟨rfl, .inr ⟨g5, 0, rfl, by omega, hL5.lt, hL5.cell⟩⟩
          clear b5 hL5 hpart
          try dsimp only
          refine hK.out _ _ (by exact D.cells) (fun hHeld => ?_)
          clear hK K
          try simp only [Act.put, List.setIfInBounds_toArray, List.set_cons_zero, List.set_cons_succ]
          refine callL (i := 17) (by kernel_rfl) rfl (by rfl) (fun K hK => ?_)
          go_simp
          have b6 := (Below.refl w5.heap.size w5).alloc (Nat.le_refl _) (.cells #[KS.enc (some ⟨g5, 0, none⟩, (edgesL (colL V r jj) b).length, c5)] 31)
          have cam : CameE KS (w5.alloc (.cells #[KS.enc (some ⟨g5, 0, none⟩, (edgesL (colL V r jj) b).length, c5)] KS.e)) (some ⟨w5.heap.size, 0, none⟩) 1 [(some ⟨g5, 0, none⟩, (edgesL (colL V r jj) b).length, c5)] := CameE.new (K := KS) _
          have own6 : Own KS (w5.alloc (.cells #[KS.enc (some ⟨g5, 0, none⟩, (edgesL (colL V r jj) b).length, c5)] KS.e)) X (.slice (some ⟨G, 0, none⟩) mm cc) hs := own.alloc _
          replace D := D.on' b6
          replace hds := hds.below b6
          replace hx5 := hx5.below b6
          have hs6 := Nat.le_trans hs5 b6.size
          replace bel := bel.trans (b6.mono bel.size)
          try dsimp only
          refine hK.out _ _ (by exact D.cells) (fun hHeld => ?_)
          clear hK K
          try simp only [Act.put, List.setIfInBounds_toArray, List.set_cons_zero, List.set_cons_succ]
          refine callL (i := 18) (by kernel_rfl) rfl (by rfl) (fun K hK => ?_)
          refine app_lies_wp (w := w5.alloc (.cells #[KS.enc (some ⟨g5, 0, none⟩, (edgesL (colL V r jj) b).length, c5)] KS.e)) okS _ _ rfl X hs6 _ hs rfl own6 (some ⟨w5.heap.size, 0, none⟩) 1 1 [(some ⟨g5, 0, none⟩, (edgesL (colL V r jj) b).length, c5)] rfl cam (by rw [HHL.out]; exact HRM.out) (by decide) ?_
          intro g7 c7 w7 own7 gr7 lies7 lt7
          have bX : Below X _ w7 := (Below.refl X _).grown gr7 hs6 (fun g hg => (World.ownsRow.lt own6 g hg).1)
          have bG := But.grown gr7
          have hlies : g7 = G ∨ g7 = (w5.alloc (.cells #[KS.enc (some ⟨g5, 0, none⟩, (edgesL (colL V r jj) b).length, c5)] KS.e)).heap.size := by rcases lies7 with h | h; exact .inl (Option.some.inj h).symm; exact .inr h
          have hds7 := (hds.push hx5).grow bG hlies
          rw [← HTS.out] at hds7
          replace D := D.below bX HNX.out
          have hs7 := Nat.le_trans hs6 bX.size
          replace bel := bel.trans (bX.mono HXW.out)
          clear gr7 lies7 lt7 bX bG hlies own6 hx5 hds cam b6
          try dsimp only
          refine hK.out _ _ (by exact D.cells) (fun hHeld => ?_)
          clear hK K
          try simp only [Act.put, List.setIfInBounds_toArray, List.set_cons_zero, List.set_cons_succ]
          refine callL (i := 19) (by kernel_rfl) rfl (by rfl) (fun K hK => ?_)
          go_simp
          try dsimp only
          refine hK.out _ _ (by exact D.cells) (fun hHeld => ?_)
          clear hK K
          try simp only [Act.put, List.setIfInBounds_toArray, List.set_cons_zero, List.set_cons_succ]
          refine wpAnyH_done (by kernel_rfl) ?_ _
          clear hHeld
          have HQ := Lib.hid (And.intro hds7 (And.intro own7 (And.intro D (And.intro hs7 bel))))
          clear hds7 own7 D hs7 bel own hs6 hs5 hs3 hg5 hG5
          rw [HHL.out]
          rw [HHL.out] at HQ
          go_wp2_with fail
          go_roundw
          case rel => exact ⟨jj + 1, g7, jj + 1, c7, _, HJU.out, HJ.out, rfl, HQ.out.1, HQ.out.2.1, HQ.out.2.2.1, HQ.out.2.2.2.1, HQ.out.2.2.2.2⟩
          case measure => exact HJV.out
        · have hpart := hpart0
          clear hpart0 hvw HLE
          obtain ⟨k1, k2, k3⟩ := HK.out
          have wa := HA1.out
          have wb := HA2.out
          have wc := HA3.out
          have hdf := HDF.out
          refine wp_region_held_drew (S := (fun W => W.cell? ⟨N, 0, none⟩ = some (.int .i64 k) ∧ W.cell? ⟨N, 1, none⟩ = some (.int .i64 c) ∧ W.cell? ⟨N, 2, none⟩ = some (.int .i64 b) ∧ W.cell? ⟨N, 3, none⟩ = some (.int .i64 t) ∧ W.cell? ⟨N, 4, none⟩ = some (.int .i64 d) ∧ W.cell? ⟨N, 5, none⟩ = some (.int .i64 l) ∧ W.cell? ⟨N, 6, none⟩ = some (.int .i64 p) ∧ W.cell? ⟨N, 7, none⟩ = some (.int .i64 (r : Int)) ∧ W.cell? ⟨N, 8, none⟩ = some (.int .i64 (q : Int)) ∧ W.cell? ⟨N, 9, none⟩ = some (.slice (some ⟨g, off, none⟩) nV cV) ∧ W.cell? ⟨N, 10, none⟩ = some T)) (by kernel_rfl) (by exact D.cells) (fun hHeld => ?_)
          generalize wr.drew = wd at *
          refine takeQ (i := 0) (v := ?_) rfl (by kernel_rfl) (by kernel_rfl) (by kernel_rfl) (fun _ _ _ h => h) (by rfl) hHeld ?_ ?_
          rotate_left
          · (intro w' hSw; (try dsimp only at hSw); go_simp <;> (with_reducible rfl))
          try simp only [Act.put, List.setIfInBounds_toArray, List.set_cons_zero, List.set_cons_succ]
          refine takeQ (i := 1) (v := ?_) rfl (by kernel_rfl) (by kernel_rfl) (by kernel_rfl) (fun _ _ _ h => h) (by rfl) hHeld ?_ ?_
          rotate_left
          · (intro w' hSw; (try dsimp only at hSw); go_simp <;> (with_reducible rfl))
          try simp only [Act.put, List.setIfInBounds_toArray, List.set_cons_zero, List.set_cons_succ]
          refine takeQ (i := 2) (v := ?_) rfl (by kernel_rfl) (by kernel_rfl) (by kernel_rfl) (fun _ _ _ h => h) (by rfl) hHeld ?_ ?_
          rotate_left
          · (intro w' hSw; (try dsimp only at hSw); go_simp <;> (with_reducible rfl))
          try simp only [Act.put, List.setIfInBounds_toArray, List.set_cons_zero, List.set_cons_succ]
          refine takeQ (i := 3) (v := ?_) rfl (by kernel_rfl) (by kernel_rfl) (by kernel_rfl) (fun _ _ _ h => h) (by rfl) hHeld ?_ ?_
          rotate_left
          · (intro w' hSw; (try dsimp only at hSw); go_simp <;> (with_reducible rfl))
          try simp only [Act.put, List.setIfInBounds_toArray, List.set_cons_zero, List.set_cons_succ]
          refine takeQ (i := 4) (v := ?_) rfl (by kernel_rfl) (by kernel_rfl) (by kernel_rfl) (fun _ _ _ h => h) (by rfl) hHeld ?_ ?_
          rotate_left
          · (intro w' hSw; (try dsimp only at hSw); go_simp <;> (with_reducible rfl))
          try simp only [Act.put, List.setIfInBounds_toArray, List.set_cons_zero, List.set_cons_succ]
          refine takeQ (i := 5) (v := ?_) rfl (by kernel_rfl) (by kernel_rfl) (by kernel_rfl) (fun _ _ _ h => h) (by rfl) hHeld ?_ ?_
          rotate_left
          · (intro w' hSw; (try dsimp only at hSw); go_simp <;> (with_reducible rfl))
          try simp only [Act.put, List.setIfInBounds_toArray, List.set_cons_zero, List.set_cons_succ]
          refine takeQ (i := 6) (v := ?_) rfl (by kernel_rfl) (by kernel_rfl) (by kernel_rfl) (fun _ _ _ h => h) (by rfl) hHeld ?_ ?_
          rotate_left
          · (intro w' hSw; (try dsimp only at hSw); go_simp <;> (with_reducible rfl))
          try simp only [Act.put, List.setIfInBounds_toArray, List.set_cons_zero, List.set_cons_succ]
          refine takeQ (i := 7) (v := ?_) rfl (by kernel_rfl) (by kernel_rfl) (by kernel_rfl) (fun _ _ _ h => h) (by rfl) hHeld ?_ ?_
          rotate_left
          · (intro w' hSw; (try dsimp only at hSw); go_simp <;> (with_reducible rfl))
          try simp only [Act.put, List.setIfInBounds_toArray, List.set_cons_zero, List.set_cons_succ]
          refine takeQ (i := 8) (v := ?_) rfl (by kernel_rfl) (by kernel_rfl) (by kernel_rfl) (fun _ _ _ h => h) (by rfl) hHeld ?_ ?_
          rotate_left
          · (intro w' hSw; (try dsimp only at hSw); go_simp <;> (with_reducible rfl))
          try simp only [Act.put, List.setIfInBounds_toArray, List.set_cons_zero, List.set_cons_succ]
          refine takeQ (i := 9) (v := ?_) rfl (by kernel_rfl) (by kernel_rfl) (by kernel_rfl) (fun _ _ _ h => h) (by rfl) hHeld ?_ ?_
          rotate_left
          · (intro w' hSw; (try dsimp only at hSw); go_simp <;> (with_reducible rfl))
          try simp only [Act.put, List.setIfInBounds_toArray, List.set_cons_zero, List.set_cons_succ]
          refine takeQ (i := 10) (v := ?_) rfl (by kernel_rfl) (by kernel_rfl) (by kernel_rfl) (fun _ _ _ h => h) (by rfl) hHeld ?_ ?_
          rotate_left
          · (intro w' hSw; (try dsimp only at hSw); go_simp <;> (with_reducible rfl))
          try simp only [Act.put, List.setIfInBounds_toArray, List.set_cons_zero, List.set_cons_succ]
          refine takeQ (i := 11) (v := ?_) rfl (by kernel_rfl) (by kernel_rfl) (by kernel_rfl) (fun _ _ _ h => h) (by rfl) hHeld ?_ ?_
          rotate_left
          · (intro w' hSw; (try dsimp only at hSw); go_simp <;> (with_reducible rfl))
          try simp only [Act.put, List.setIfInBounds_toArray, List.set_cons_zero, List.set_cons_succ]
          refine takeQ (i := 12) (v := ?_) rfl (by kernel_rfl) (by kernel_rfl) (by kernel_rfl) (fun _ _ _ h => h) (by rfl) hHeld ?_ ?_
          rotate_left
          · (intro w' hSw; (try dsimp only at hSw); go_simp <;> (with_reducible rfl))
          try simp only [Act.put, List.setIfInBounds_toArray, List.set_cons_zero, List.set_cons_succ]
          refine takeQ (i := 13) (v := ?_) rfl (by kernel_rfl) (by kernel_rfl) (by kernel_rfl) (fun _ _ _ h => h) (by rfl) hHeld ?_ ?_
          rotate_left
          · (intro w' hSw; (try dsimp only at hSw); go_simp <;> (with_reducible rfl))
          try simp only [Act.put, List.setIfInBounds_toArray, List.set_cons_zero, List.set_cons_succ]
          refine takeQ (i := 14) (v := ?_) rfl (by kernel_rfl) (by kernel_rfl) (by kernel_rfl) (fun _ _ _ h => h) (by rfl) hHeld ?_ ?_
          rotate_left
          · (intro w' hSw; (try dsimp only at hSw); go_simp <;> (with_reducible rfl))
          try simp only [Act.put, List.setIfInBounds_toArray, List.set_cons_zero, List.set_cons_succ]
          refine takeQ (i := 15) (v := ?_) rfl (by kernel_rfl) (by kernel_rfl) (by kernel_rfl) (fun _ _ _ h => h) (by rfl) hHeld ?_ ?_
          rotate_left
          · (intro w' hSw; (try dsimp only at hSw); go_simp <;> (with_reducible rfl))
          try simp only [Act.put, List.setIfInBounds_toArray, List.set_cons_zero, List.set_cons_succ]
          refine callL (i := 16) (by kernel_rfl) rfl (by rfl) (fun K hK => ?_)
          go_simp
          clear wa wb wc k1 k2 k3
          clear hdf
          refine (HRF.out (some ⟨g, off + m1, none⟩) (cV - m1) wd hpart).mono ?_
          rintro _ w5 ⟨⟨g5, c5, rfl, hg5, hL5⟩, b5⟩
          have hG5 := (World.ownsRow.lt own G rfl).2
          replace D := D.on' b5
          replace own := own.below b5
          replace hds := hds.below b5
          have hs5 := Nat.le_trans hs3 b5.size
          replace bel := bel.trans (b5.mono bel.size)
          have hx5 : HdX G w5 (some ⟨g5, 0, none⟩, (edgesL (colL V r jj) b).length, c5) (edgesL (colL V r jj) b) := ⟨rfl, .inr ⟨g5, 0, rfl, by omega, hL5.lt, hL5.cell⟩⟩
          clear b5 hL5 hpart
          try dsimp only
          refine hK.out _ _ (by exact D.cells) (fun hHeld => ?_)
          clear hK K
          try simp only [Act.put, List.setIfInBounds_toArray, List.set_cons_zero, List.set_cons_succ]
          refine callL (i := 17) (by kernel_rfl) rfl (by rfl) (fun K hK => ?_)
          go_simp
          have b6 := (Below.refl w5.heap.size w5).alloc (Nat.le_refl _) (.cells #[KS.enc (some ⟨g5, 0, none⟩, (edgesL (colL V r jj) b).length, c5)] 31)
          have cam : CameE KS (w5.alloc (.cells #[KS.enc (some ⟨g5, 0, none⟩, (edgesL (colL V r jj) b).length, c5)] KS.e)) (some ⟨w5.heap.size, 0, none⟩) 1 [(some ⟨g5, 0, none⟩, (edgesL (colL V r jj) b).length, c5)] := CameE.new (K := KS) _
          have own6 : Own KS (w5.alloc (.cells #[KS.enc (some ⟨g5, 0, none⟩, (edgesL (colL V r jj) b).length, c5)] KS.e)) X (.slice (some ⟨G, 0, none⟩) mm cc) hs := own.alloc _
          replace D := D.on' b6
          replace hds := hds.below b6
          replace hx5 := hx5.below b6
          have hs6 := Nat.le_trans hs5 b6.size
          replace bel := bel.trans (b6.mono bel.size)
          try dsimp only
          refine hK.out _ _ (by exact D.cells) (fun hHeld => ?_)
          clear hK K
          try simp only [Act.put, List.setIfInBounds_toArray, List.set_cons_zero, List.set_cons_succ]
          refine callL (i := 18) (by kernel_rfl) rfl (by rfl) (fun K hK => ?_)
          refine app_lies_wp (w := w5.alloc (.cells #[KS.enc (some ⟨g5, 0, none⟩, (edgesL (colL V r jj) b).length, c5)] KS.e)) okS _ _ rfl X hs6 _ hs rfl own6 (some ⟨w5.heap.size, 0, none⟩) 1 1 [(some ⟨g5, 0, none⟩, (edgesL (colL V r jj) b).length, c5)] rfl cam (by rw [HHL.out]; exact HRM.out) (by decide) ?_
          intro g7 c7 w7 own7 gr7 lies7 lt7
          have bX : Below X _ w7 := (Below.refl X _).grown gr7 hs6 (fun g hg => (World.ownsRow.lt own6 g hg).1)
          have bG := But.grown gr7
          have hlies : g7 = G ∨ g7 = (w5.alloc (.cells #[KS.enc (some ⟨g5, 0, none⟩, (edgesL (colL V r jj) b).length, c5)] KS.e)).heap.size := by rcases lies7 with h | h; exact .inl (Option.some.inj h).symm; exact .inr h
          have hds7 := (hds.push hx5).grow bG hlies
          rw [← HTS.out] at hds7
          replace D := D.below bX HNX.out
          have hs7 := Nat.le_trans hs6 bX.size
          replace bel := bel.trans (bX.mono HXW.out)
          clear gr7 lies7 lt7 bX bG hlies own6 hx5 hds cam b6
          try dsimp only
          refine hK.out _ _ (by exact D.cells) (fun hHeld => ?_)
          clear hK K
          try simp only [Act.put, List.setIfInBounds_toArray, List.set_cons_zero, List.set_cons_succ]
          refine callL (i := 19) (by kernel_rfl) rfl (by rfl) (fun K hK => ?_)
          go_simp
          try dsimp only
          refine hK.out _ _ (by exact D.cells) (fun hHeld => ?_)
          clear hK K
          try simp only [Act.put, List.setIfInBounds_toArray, List.set_cons_zero, List.set_cons_succ]
          refine wpAnyH_done (by kernel_rfl) ?_ _
          clear hHeld
          have HQ := Lib.hid (And.intro hds7 (And.intro own7 (And.intro D (And.intro hs7 bel))))
          clear hds7 own7 D hs7 bel own hs6 hs5 hs3 hg5 hG5
          rw [HHL.out]
          rw [HHL.out] at HQ
          go_wp2_with fail
          go_roundw
          case rel => exact ⟨jj + 1, g7, jj + 1, c7, _, HJU.out, HJ.out, rfl, HQ.out.1, HQ.out.2.1, HQ.out.2.2.1, HQ.out.2.2.2.1, HQ.out.2.2.2.2⟩
          case measure => exact HJV.out
    · obtain rfl : q = jj := by omega
      rw [List.take_of_length_le (by rw [edgesA_len]; exact Nat.le_refl _)] at hds
      have HZ := Lib.hid (And.intro hds own)
      clear hlt hjj hds own D
      go_wp2_with fail
      go_ret
      refine ⟨?_, bel⟩
      obtain ⟨hd, ow⟩ := HZ.out
      have hl := HHL.out
      rcases ow.lst with ⟨h1, _⟩ | ⟨g', c', h1, _, _, _, hL⟩
      · cases h1
      · cases h1
        exact ⟨_, _, congrArg (fun z => Ending.returned (Value.slice (some ⟨G, 0, none⟩) z cc)) hl, edgesA_len _ _ _ _, hs, hd.hds, hL.holds⟩
end Go.Proofs.Ytjaogmbeoldefaa
