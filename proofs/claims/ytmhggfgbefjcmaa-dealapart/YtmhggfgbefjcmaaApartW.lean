/-
  DealApart's walk: for every twelve numbers the law answers true and turns no memory that was there. Conditions: the numbers are at least 0 and below 256.
-/
import Derived.Test.YtmhggfgbefjcmaaOwn2
namespace Go.Proofs.Ytmhggfgbefjcmaa
open Go.RowKit

theorem six (j : Nat) (h : j < 6) : j = 0 ∨ j = 1 ∨ j = 2 ∨ j = 3 ∨ j = 4 ∨ j = 5 := by omega

theorem goP_len (xs : Nat → Int) : ∀ f i l, (goP xs f i l).length = l.length := by
  intro f
  induction f with
  | zero => intro i l; rfl
  | succ f ih => intro i l; unfold goP; rw [ih, swapL_len]

theorem last_at {l : List Int} {j : Nat} {x : Int} (h : l.length = j) : (l ++ [x]).getD j 0 = x := by
  subst h
  simp [List.getD_eq_getElem?_getD]

set_option maxRecDepth 100000 in
set_option maxHeartbeats 4000000 in
theorem apart_any (a0 a1 a2 a3 a4 a5 b0 b1 b2 b3 b4 b5 : Int) (ha : ∀ j, j < 6 → 0 ≤ [a0, a1, a2, a3, a4, a5].getD j 0 ∧ [a0, a1, a2, a3, a4, a5].getD j 0 < 256) (hb : ∀ j, j < 6 → 0 ≤ [b0, b1, b2, b3, b4, b5].getD j 0 ∧ [b0, b1, b2, b3, b4, b5].getD j 0 < 256) (w : World) :
    Calls Try.prog 8 #[.agg #[.int .u8 a0, .int .u8 a1, .int .u8 a2, .int .u8 a3, .int .u8 a4, .int .u8 a5], .agg #[.int .u8 b0, .int .u8 b1, .int .u8 b2, .int .u8 b3, .int .u8 b4, .int .u8 b5]] w fun e w' => e = .returned (.bool true) ∧ Below w.heap.size w w' := by
  go_enter Try.func8, Try.ntmps8
  go_wp2_with fail
  have b0w := ((Below.refl w.heap.size w).alloc (Nat.le_refl _) (.cells #[.int .u8 a0, .int .u8 a1, .int .u8 a2, .int .u8 a3, .int .u8 a4, .int .u8 a5] 45)).alloc (by simp) (.cells #[.int .u8 b0, .int .u8 b1, .int .u8 b2, .int .u8 b3, .int .u8 b4, .int .u8 b5] 45)
  have cA : ∀ j, j < 6 → ((w.alloc (.cells #[.int .u8 a0, .int .u8 a1, .int .u8 a2, .int .u8 a3, .int .u8 a4, .int .u8 a5] 45)).alloc (.cells #[.int .u8 b0, .int .u8 b1, .int .u8 b2, .int .u8 b3, .int .u8 b4, .int .u8 b5] 45)).cell? ⟨w.heap.size, j, none⟩ = some (.int .u8 ([a0, a1, a2, a3, a4, a5].getD j 0)) := by
    intro j hj
    rcases six j hj with rfl | rfl | rfl | rfl | rfl | rfl <;> simp
  have cC : ∀ j, j < 6 → ((w.alloc (.cells #[.int .u8 a0, .int .u8 a1, .int .u8 a2, .int .u8 a3, .int .u8 a4, .int .u8 a5] 45)).alloc (.cells #[.int .u8 b0, .int .u8 b1, .int .u8 b2, .int .u8 b3, .int .u8 b4, .int .u8 b5] 45)).cell? ⟨w.heap.size + 1, j, none⟩ = some (.int .u8 ([b0, b1, b2, b3, b4, b5].getD j 0)) := by
    intro j hj
    rcases six j hj with rfl | rfl | rfl | rfl | rfl | rfl <;> simp
  have hw0 : ((w.alloc (.cells #[.int .u8 a0, .int .u8 a1, .int .u8 a2, .int .u8 a3, .int .u8 a4, .int .u8 a5] 45)).alloc (.cells #[.int .u8 b0, .int .u8 b1, .int .u8 b2, .int .u8 b3, .int .u8 b4, .int .u8 b5] 45)).heap.size = w.heap.size + 2 := by simp
  generalize (w.alloc (.cells #[.int .u8 a0, .int .u8 a1, .int .u8 a2, .int .u8 a3, .int .u8 a4, .int .u8 a5] 45)).alloc (.cells #[.int .u8 b0, .int .u8 b1, .int .u8 b2, .int .u8 b3, .int .u8 b4, .int .u8 b5] 45) = w0 at *
  have HW0 := Lib.hid hw0
  clear hw0
  obtain ⟨A, hAe⟩ : ∃ A, A = [a0, a1, a2, a3, a4, a5] := ⟨_, rfl⟩
  obtain ⟨C, hCe⟩ : ∃ C, C = [b0, b1, b2, b3, b4, b5] := ⟨_, rfl⟩
  rw [← hAe] at cA ha
  rw [← hCe] at cC hb
  clear hAe hCe
  go_loopw [5, 6, 7, 14] (fun x y s i wr => ∃ (j : Nat), j ≤ 6 ∧ i = .int .i64 j ∧ s = .bool (decide (drw A j = drw C j)) ∧ Own2 wr (w.heap.size + 2) x y (drw A j) (drw C j) ∧ Below (w.heap.size + 2) w0 wr) (fun _ _ _ i _ => 6 - (intOf i).toNat)
  case atStart => exact ⟨0, by omega, rfl, rfl, ⟨OwnRow.nil _ _, OwnRow.nil _ _, fun g hg => by cases hg⟩, Below.refl _ _⟩
  case round =>
    obtain ⟨j, hj, rfl, rfl, h2, hB⟩ := hrel
    generalize u5 = x at *
    generalize u6 = y at *
    by_cases hlt : j < 6
    · have hza := ha j hlt
      have hzc := hb j hlt
      have c1 : wr.cell? ⟨w.heap.size, j, none⟩ = some (.int .u8 (A.getD j 0)) := (hB.cell (by show w.heap.size < _; omega)).trans (cA j hlt)
      have c2 : wr.cell? ⟨w.heap.size + 1, j, none⟩ = some (.int .u8 (C.getD j 0)) := (hB.cell (by show w.heap.size + 1 < _; omega)).trans (cC j hlt)
      have HSA := Lib.hid (drw_succ A j)
      have HSC := Lib.hid (drw_succ C j)
      have HSN := Lib.hid (same_next A C j)
      have la := drw_len A j
      have lc := drw_len C j
      have hws : w.heap.size + 2 ≤ wr.heap.size := by have := hB.size; have := HW0.out; omega
      have hm1 : 0 ≤ A.getD j 0 % (7 - (j : Int)) ∧ A.getD j 0 % (7 - (j : Int)) < 7 := ⟨Int.emod_nonneg _ (by omega), by have := Int.emod_lt_of_pos (A.getD j 0) (by omega : 0 < 7 - (j : Int)); omega⟩
      have hm2 : 0 ≤ C.getD j 0 % (7 - (j : Int)) ∧ C.getD j 0 % (7 - (j : Int)) < 7 := ⟨Int.emod_nonneg _ (by omega), by have := Int.emod_lt_of_pos (C.getD j 0) (by omega : 0 < 7 - (j : Int)); omega⟩
      obtain ⟨za, HZA⟩ : ∃ z, Hid (A.getD j 0 = z) := ⟨_, rfl⟩
      obtain ⟨zc, HZC⟩ : ∃ z, Hid (C.getD j 0 = z) := ⟨_, rfl⟩
      rw [HZA.out] at hza c1 HSA HSN hm1
      rw [HZC.out] at hzc c2 HSC HSN hm2
      generalize drw A j = dA at *
      generalize drw C j = dC at *
      have hj0 : (0 : Int) ≤ (j : Int) := by omega
      have hj1 : (j : Int) < 6 := by omega
      have hn0 : (0 : Int) < 7 - (j : Int) := by omega
      have hn1 : (7 : Int) - (j : Int) ≠ 0 := by omega
      have hn2 : IntKind.i64.wrap (7 - (j : Int)) = 7 - (j : Int) := by rw [IntKind.wrap_i64]; omega
      have hn3 : IntKind.u64.wrap (7 - (j : Int)) = 7 - (j : Int) := by rw [IntKind.wrap_u64]; omega
      have H2 := Lib.hid h2
      have HB := Lib.hid hB
      obtain ⟨ra, hra⟩ : ∃ r, za % (7 - (j : Int)) = r := ⟨_, rfl⟩
      obtain ⟨rc, hrc⟩ : ∃ r, zc % (7 - (j : Int)) = r := ⟨_, rfl⟩
      rw [hra] at hm1 HSA HSN
      rw [hrc] at hm2 HSC HSN
      have hq1 : IntKind.u64.wrap za = za := by rw [IntKind.wrap_u64]; omega
      have hq2 : IntKind.u64.wrap zc = zc := by rw [IntKind.wrap_u64]; omega
      have hq3 : za.tmod (7 - (j : Int)) = ra := by rw [Int.tmod_eq_emod_of_nonneg (by omega), hra]
      have hq4 : zc.tmod (7 - (j : Int)) = rc := by rw [Int.tmod_eq_emod_of_nonneg (by omega), hrc]
      clear hra hrc
      have k1 := cA j hlt
      have k2 := cC j hlt
      rw [HZA.out] at k1
      rw [HZC.out] at k2
      have f1 : ∀ o, (wr.alloc o).drew.cell? ⟨w.heap.size, j, none⟩ = some (.int .u8 za) := fun o => (World.cell?_alloc_past _ _ _ (by show w.heap.size < _; omega)).trans c1
      have f2 : ∀ o, (wr.alloc o).drew.cell? ⟨w.heap.size + 1, j, none⟩ = some (.int .u8 zc) := fun o => (World.cell?_alloc_past _ _ _ (by show w.heap.size + 1 < _; omega)).trans c2
      have f3 : ∀ o o', ((wr.alloc o).alloc o').drew.cell? ⟨w.heap.size, j, none⟩ = some (.int .u8 za) := fun o o' => (World.cell?_alloc_past _ _ _ (by show w.heap.size < _; simp; omega)).trans (f1 o)
      have f4 : ∀ o o', ((wr.alloc o).alloc o').drew.cell? ⟨w.heap.size + 1, j, none⟩ = some (.int .u8 zc) := fun o o' => (World.cell?_alloc_past _ _ _ (by show w.heap.size + 1 < _; simp; omega)).trans (f2 o)
      have F1 := Lib.hid f1
      have F2 := Lib.hid f2
      have F3 := Lib.hid f3
      have F4 := Lib.hid f4
      clear ha hb cA cC h2 hB hn2 hn3 hm1 hm2 f1 f2 f3 f4
      go_wp2_with fail
      go_region_held3 (fun w' => w'.cell? ⟨w.heap.size, j, none⟩ = some (.int .u8 za) ∧ w'.cell? ⟨w.heap.size + 1, j, none⟩ = some (.int .u8 zc)) (first | exact ⟨c1, c2⟩ | exact ⟨F1.out _, F2.out _⟩ | exact ⟨F3.out _ _, F4.out _ _⟩ | exact ⟨e1, e2⟩ | exact ⟨d1, d2⟩ | exact ⟨D1.out _, D2.out _⟩)
        (first
          | (refine step_u64 (w := (w1.alloc (.cells #[.int .u64 rc] 38))) (by rfl) _ _ (by rfl) (w.heap.size + 2) (by simp; omega) y dC (by rfl) ((OwnRow.far (H2.out.2.1.alloc (.cells #[.int .u64 ra] 38)).drew grX (fun g h e => H2.out.2.2 g e.symm h)).alloc (.cells #[.int .u64 rc] 38)) w1.heap.size rc (by rfl) (by simp) (by omega) ?_
             intro gY cY w2 oY grY atY ltY
             have bl2 := Below.grown (bl1.alloc s1 (.cells #[.int .u64 rc] 38)) grY (by simp; omega) (fun k hk => (H2.out.2.1.lt k hk).1)
             have e1 := (bl2.cell (by show w.heap.size < _; omega)).trans k1
             have e2 := (bl2.cell (by show w.heap.size + 1 < _; omega)).trans k2
             have fin := (H2.out.both u1 atX ltX oX (by simp) (Below.heap_alloc w1 (.cells #[.int .u64 rc] 38) gX ltX) grY atY oY))
          | (refine step_u64 (w := w1) (by rfl) _ _ (by rfl) (w.heap.size + 2) s1 y dC (by rfl) (OwnRow.far ((H2.out.2.1.alloc (.cells #[.int .u64 rc] 38)).alloc (.cells #[.int .u64 ra] 38)).drew grX (fun g h e => H2.out.2.2 g e.symm h)) wr.heap.size rc (by rfl) ((World.grownBy.cell_far grX _ (by show wr.heap.size < (World.alloc _ _).heap.size; simp <;> omega) (n1 _ (by show wr.heap.size < (World.alloc _ _).heap.size; simp <;> omega) (by simp))).trans (by simp)) (by omega) ?_
             intro gY cY w2 oY grY atY ltY
             have bl2 := Below.grown bl1 grY s1 (fun k hk => (H2.out.2.1.lt k hk).1)
             have e1 := (bl2.cell (by show w.heap.size < _; omega)).trans k1
             have e2 := (bl2.cell (by show w.heap.size + 1 < _; omega)).trans k2
             have fin := (H2.out.both u1 atX ltX oX (Nat.le_refl _) rfl grY atY oY))
          | (refine step_u64 (w := w1) (by rfl) _ _ (by rfl) (w.heap.size + 2) s1 y dC (by rfl) (OwnRow.far ((H2.out.2.1.alloc (.cells #[.int .u64 ra] 38)).alloc (.cells #[.int .u64 rc] 38)).drew grX (fun g h e => H2.out.2.2 g e.symm h)) (wr.heap.size + 1) rc (by rfl) ((World.grownBy.cell_far grX _ (by show (wr.heap.size + 1) < (World.alloc _ _).heap.size; simp <;> omega) (n1 _ (by show (wr.heap.size + 1) < (World.alloc _ _).heap.size; simp <;> omega) (by simp))).trans (by simp)) (by omega) ?_
             intro gY cY w2 oY grY atY ltY
             have bl2 := Below.grown bl1 grY s1 (fun k hk => (H2.out.2.1.lt k hk).1)
             have e1 := (bl2.cell (by show w.heap.size < _; omega)).trans k1
             have e2 := (bl2.cell (by show w.heap.size + 1 < _; omega)).trans k2
             have fin := (H2.out.both u1 atX ltX oX (Nat.le_refl _) rfl grY atY oY))
          | (refine step_u64 (w := (wr.alloc (.cells #[.int .u64 ra] 38)).drew) (by rfl) _ _ (by rfl) (w.heap.size + 2) (by show (w.heap.size + 2) ≤ (World.alloc _ _).heap.size; simp; omega) x dA (by rfl) ((H2.out.1.alloc (.cells #[.int .u64 ra] 38)).drew) wr.heap.size ra (by rfl) (by simp) (by omega) ?_
             intro gX cX w1 oX grX atX ltX
             have bl1 := Below.grown ((HB.out.alloc hws (.cells #[.int .u64 ra] 38)).drew) grX (by show (w.heap.size + 2) ≤ (World.alloc _ _).heap.size; simp; omega) (fun k hk => (H2.out.1.lt k hk).1)
             have d1 := (bl1.cell (by show w.heap.size < _; omega)).trans k1
             have d2 := (bl1.cell (by show w.heap.size + 1 < _; omega)).trans k2
             have D1 : Hid (∀ o, (w1.alloc o).cell? ⟨w.heap.size, j, none⟩ = some (.int .u8 za)) := fun o => (World.cell?_alloc_past _ _ _ (by show w.heap.size < _; have := bl1.size; have := HW0.out; omega)).trans d1
             have D2 : Hid (∀ o, (w1.alloc o).cell? ⟨w.heap.size + 1, j, none⟩ = some (.int .u8 zc)) := fun o => (World.cell?_alloc_past _ _ _ (by show w.heap.size + 1 < _; have := bl1.size; have := HW0.out; omega)).trans d2
             have s1 : w.heap.size + 2 ≤ w1.heap.size := by have := bl1.size; have := HW0.out; omega
             have u1 : wr.heap.size ≤ ((wr.alloc (.cells #[.int .u64 ra] 38)).drew).heap.size := by show wr.heap.size ≤ (World.alloc _ _).heap.size; simp <;> omega
             have n1 : ∀ q, q < ((wr.alloc (.cells #[.int .u64 ra] 38)).drew).heap.size → wr.heap.size ≤ q → some q ≠ x.ownBlock := fun q _ h2 h3 => by have := (H2.out.1.lt q h3.symm).2; omega
             have w1s := grX.size)
          | (refine step_u64 (w := ((wr.alloc (.cells #[.int .u64 ra] 38)).alloc (.cells #[.int .u64 rc] 38)).drew) (by rfl) _ _ (by rfl) (w.heap.size + 2) (by show (w.heap.size + 2) ≤ (World.alloc _ _).heap.size; simp; omega) x dA (by rfl) (((H2.out.1.alloc (.cells #[.int .u64 ra] 38)).alloc (.cells #[.int .u64 rc] 38)).drew) wr.heap.size ra (by rfl) (by simp) (by omega) ?_
             intro gX cX w1 oX grX atX ltX
             have bl1 := Below.grown (((HB.out.alloc hws (.cells #[.int .u64 ra] 38)).alloc (by simp; omega) (.cells #[.int .u64 rc] 38)).drew) grX (by show (w.heap.size + 2) ≤ (World.alloc _ _).heap.size; simp; omega) (fun k hk => (H2.out.1.lt k hk).1)
             have d1 := (bl1.cell (by show w.heap.size < _; omega)).trans k1
             have d2 := (bl1.cell (by show w.heap.size + 1 < _; omega)).trans k2
             have D1 : Hid (∀ o, (w1.alloc o).cell? ⟨w.heap.size, j, none⟩ = some (.int .u8 za)) := fun o => (World.cell?_alloc_past _ _ _ (by show w.heap.size < _; have := bl1.size; have := HW0.out; omega)).trans d1
             have D2 : Hid (∀ o, (w1.alloc o).cell? ⟨w.heap.size + 1, j, none⟩ = some (.int .u8 zc)) := fun o => (World.cell?_alloc_past _ _ _ (by show w.heap.size + 1 < _; have := bl1.size; have := HW0.out; omega)).trans d2
             have s1 : w.heap.size + 2 ≤ w1.heap.size := by have := bl1.size; have := HW0.out; omega
             have u1 : wr.heap.size ≤ (((wr.alloc (.cells #[.int .u64 ra] 38)).alloc (.cells #[.int .u64 rc] 38)).drew).heap.size := by show wr.heap.size ≤ (World.alloc _ _).heap.size; simp <;> omega
             have n1 : ∀ q, q < (((wr.alloc (.cells #[.int .u64 ra] 38)).alloc (.cells #[.int .u64 rc] 38)).drew).heap.size → wr.heap.size ≤ q → some q ≠ x.ownBlock := fun q _ h2 h3 => by have := (H2.out.1.lt q h3.symm).2; omega
             have w1s := grX.size)
          | (refine step_u64 (w := ((wr.alloc (.cells #[.int .u64 rc] 38)).alloc (.cells #[.int .u64 ra] 38)).drew) (by rfl) _ _ (by rfl) (w.heap.size + 2) (by show (w.heap.size + 2) ≤ (World.alloc _ _).heap.size; simp; omega) x dA (by rfl) (((H2.out.1.alloc (.cells #[.int .u64 rc] 38)).alloc (.cells #[.int .u64 ra] 38)).drew) (wr.heap.size + 1) ra (by rfl) (by simp) (by omega) ?_
             intro gX cX w1 oX grX atX ltX
             have bl1 := Below.grown (((HB.out.alloc hws (.cells #[.int .u64 rc] 38)).alloc (by simp; omega) (.cells #[.int .u64 ra] 38)).drew) grX (by show (w.heap.size + 2) ≤ (World.alloc _ _).heap.size; simp; omega) (fun k hk => (H2.out.1.lt k hk).1)
             have d1 := (bl1.cell (by show w.heap.size < _; omega)).trans k1
             have d2 := (bl1.cell (by show w.heap.size + 1 < _; omega)).trans k2
             have D1 : Hid (∀ o, (w1.alloc o).cell? ⟨w.heap.size, j, none⟩ = some (.int .u8 za)) := fun o => (World.cell?_alloc_past _ _ _ (by show w.heap.size < _; have := bl1.size; have := HW0.out; omega)).trans d1
             have D2 : Hid (∀ o, (w1.alloc o).cell? ⟨w.heap.size + 1, j, none⟩ = some (.int .u8 zc)) := fun o => (World.cell?_alloc_past _ _ _ (by show w.heap.size + 1 < _; have := bl1.size; have := HW0.out; omega)).trans d2
             have s1 : w.heap.size + 2 ≤ w1.heap.size := by have := bl1.size; have := HW0.out; omega
             have u1 : wr.heap.size ≤ (((wr.alloc (.cells #[.int .u64 rc] 38)).alloc (.cells #[.int .u64 ra] 38)).drew).heap.size := by show wr.heap.size ≤ (World.alloc _ _).heap.size; simp <;> omega
             have n1 : ∀ q, q < (((wr.alloc (.cells #[.int .u64 rc] 38)).alloc (.cells #[.int .u64 ra] 38)).drew).heap.size → wr.heap.size ≤ q → some q ≠ x.ownBlock := fun q _ h2 h3 => by have := (H2.out.1.lt q h3.symm).2; omega
             have w1s := grX.size))
      all_goals
        clear e1 e2 d1 d2 D1 D2 n1 atX atY ltX ltY grX grY oX oY F1 F2 F3 F4 k1 k2 c1 c2 u1 w1s s1
        have ca := fin.1.at j (by simp <;> omega)
        have cc := fin.2.1.at j (by simp <;> omega)
        rw [last_at la] at ca
        rw [last_at lc] at cc
        rw [la, lc] at fin
        have FIN := Lib.hid fin
        have BL := Lib.hid bl2
        clear fin bl2
        by_cases hs : dA = dC
        · have hsd : decide (dA = dC) = true := decide_eq_true hs
          rw [hsd]
          have HE : Hid (decide (drw A (j + 1) = drw C (j + 1)) = (ra == rc)) := by show _ = _; rw [HSN.out, hsd, Bool.true_and]; rfl
          clear HSN hs hsd
          go_wp2_with fail
          go_quiet (fail)
          go_wp2_with fail
          go_roundw
          case rel => exact ⟨j + 1, by omega, by go_num, congrArg Value.bool HE.out.symm, by rw [HSA.out, HSC.out]; exact FIN.out, ⟨BL.out.os, BL.out.tape, BL.out.output, BL.out.size, BL.out.block⟩⟩
          case measure => simp [intOf]; omega
        · have hsd : decide (dA = dC) = false := decide_eq_false hs
          rw [hsd]
          have HE : Hid (decide (drw A (j + 1) = drw C (j + 1)) = false) := by show _ = _; rw [HSN.out, hsd, Bool.false_and]
          clear HSN hs hsd
          go_wp2_with fail
          go_quiet (fail)
          go_wp2_with fail
          go_roundw
          case rel => exact ⟨j + 1, by omega, by go_num, congrArg Value.bool HE.out.symm, by rw [HSA.out, HSC.out]; exact FIN.out, ⟨BL.out.os, BL.out.tape, BL.out.output, BL.out.size, BL.out.block⟩⟩
          case measure => simp [intOf]; omega
    · have hj6 : j = 6 := by omega
      subst hj6
      have HI := Lib.hid (apart_iff A C)
      have HPA := Lib.hid (perm_small _ (drw_inB A))
      have HPC := Lib.hid (perm_small _ (drw_inB C))
      have AA := Lib.hid (drw_all A)
      have AC := Lib.hid (drw_all C)
      have bw : Below w.heap.size w wr := b0w.trans (hB.mono (by omega))
      have lp : (goP (nums (drw A 6)) 6 0 (upto 7)).length ≤ 1048576 := by rw [goP_len, upto_len]; omega
      have lq : (goP (nums (drw C 6)) 6 0 (upto 7)).length ≤ 1048576 := by rw [goP_len, upto_len]; omega
      generalize goP (nums (drw A 6)) 6 0 (upto 7) = pA at *
      generalize goP (nums (drw C 6)) 6 0 (upto 7) = pC at *
      generalize drw A 6 = dA at *
      generalize drw C 6 = dC at *
      obtain ⟨ax, cx, rfl, hrx⟩ := h2.1.slice
      obtain ⟨ay, cy, rfl, hry⟩ := h2.2.1.slice
      have rx : HoldsRow wr ax dA := by
        rcases hrx with h | ⟨g, off, e, hl, _, hr⟩
        · exact .inl h
        · exact .inr ⟨g, off, e, hl, hr⟩
      have ry : HoldsRow wr ay dC := by
        rcases hry with h | ⟨g, off, e, hl, _, hr⟩
        · exact .inl h
        · exact .inr ⟨g, off, e, hl, hr⟩
      have hlt : ¬ (6 : Int) < 6 := by omega
      clear hrx hry h2 hB ha hb cA cC b0w
      rw [show ((6 : Nat) : Int) = 6 from rfl]
      go_wp2_with fail
      refine (perm_list _ _ _ dA AA.out 7 0 (by decide) _ (ListAt.made wr ax cx dA rx) pA 6 0 HPA.out).mono ?_
      rintro e w1 ⟨⟨x1, q1, rfl, r1⟩, _, hB1⟩
      have b1 := hB1.past1
      have ry := ry.below b1
      have b1 := bw.trans (b1.mono bw.size)
      clear hB1 bw rx
      go_wp2_with fail
      refine (perm_list _ _ _ dC AC.out 7 0 (by decide) _ (ListAt.made w1 ay cy dC ry) pC 6 0 HPC.out).mono ?_
      rintro e w2 ⟨⟨x2, q2, rfl, r2⟩, _, hB2⟩
      have b2 := hB2.past1
      have r1 := r1.below b2
      have b2 := b1.trans (b2.mono b1.size)
      clear hB2 b1 ry
      go_wp2_with fail
      refine (fixed_any _).mono ?_
      rintro e w3 ⟨rfl, b3⟩
      have r1 := r1.below b3
      have r2 := r2.below b3
      have b3 := b2.trans (b3.mono b2.size)
      clear b2
      go_wp2_with fail
      refine (same_any _ _ _ _ pA pC lp lq _ r1 r2).mono ?_
      rintro e w4 ⟨rfl, b4⟩
      rw [HI.out]
      have b4 := b3.trans (b4.mono b3.size)
      clear b3 r1 r2
      generalize decide (dA = dC) = bb at *
      cases bb
      all_goals
        go_wp2_with fail
        go_ret
        exact ⟨rfl, b4⟩
end Go.Proofs.Ytmhggfgbefjcmaa
