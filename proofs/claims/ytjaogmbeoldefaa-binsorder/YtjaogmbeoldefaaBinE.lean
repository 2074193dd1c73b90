/-
  bins.Edges: the edges of all columns of a dataset, or none. Conditions: at most 1000 values, of 64 bits each, and 1000 columns; rows and columns of 64 bits with a sign.
-/
import Derived.Test.YtjaogmbeoldefaaBinR
namespace Go.Proofs.Ytjaogmbeoldefaa
open Go.RowKit

/-- Slices so far, the rest is the zero. -/
def partS (hs : List Hdr) (q : Nat) : List Hdr := hs ++ List.replicate (q - hs.length) KS.z
theorem partS_len {hs : List Hdr} {q : Nat} (h : hs.length ≤ q) : (partS hs q).length = q := by simp [partS]; omega
theorem partS_set {hs : List Hdr} {q : Nat} (h : hs.length < q) (x : Hdr) : (partS hs q).set hs.length x = partS (hs ++ [x]) q := by
  unfold partS
  rw [List.set_append_right _ _ (Nat.le_refl _), Nat.sub_self, show q - hs.length = (q - (hs ++ [x]).length) + 1 by simp; omega, List.replicate_succ, List.set_cons_zero, List.append_assoc]
  rfl
theorem partS_full {hs : List Hdr} {q : Nat} (h : hs.length = q) : partS hs q = hs := by simp [partS, h]
theorem holdsV_but {w w0 w' : World} {a : Option Addr} {V : List Nat} {G B : Nat} (h0 : HoldsE KF w0 a V) (bel : Below B w0 w) (hB : w0.heap.size ≤ B) (hG : B ≤ G) (bt : But G w w') : HoldsE KF w' a V := by
  rcases h0 with h | ⟨g, off, h1, h2, h3⟩
  · exact .inl h
  · exact .inr ⟨g, off, h1, Nat.lt_of_lt_of_le h2 (Nat.le_trans bel.size bt.size), fun j hj => (bt.cell (p := ⟨g, off + j, none⟩) (Nat.lt_of_lt_of_le h2 bel.size) (by show g ≠ G; omega)).trans ((bel.cell (p := ⟨g, off + j, none⟩) (by show g < B; omega)).trans (h3 j hj))⟩

theorem edgesM_no (k c b t d l p r q : Int) (aV : Option Addr) (nV cV : Nat) (T : Value) (h : fitB r q nV = false) (w : World) :
    Calls Try.prog 11 #[ds k c b t d l p r q (.slice aV nV cV) T] w fun e w' => GotL e w' 0 [] ∧ Below w.heap.size w w' := by
  have D0 := lay_dat w 33 k c b t d l p r q (.slice aV nV cV) T
  have b0 := lay_below w 33 k c b t d l p r q (.slice aV nV cV) T
  have c1 := fits_any r q nV (lay w 33 k c b t d l p r q (.slice aV nV cV) T)
  rw [h] at c1
  have HB := Lib.hid b0
  clear h D0 b0
  unfold ds
  go_enter Try.func11, Try.ntmps11
  go_wp2_with fail
  change Calls _ _ _ (lay w 33 k c b t d l p r q (.slice aV nV cV) T) _
  generalize lay w 33 k c b t d l p r q (.slice aV nV cV) T = w0 at *
  refine c1.mono ?_
  rintro e w' ⟨rfl, rfl⟩
  go_wp2_with fail
  go_ret
  exact ⟨⟨none, 0, rfl, rfl, [], ⟨rfl, fun j hj => by simp at hj⟩, .inl rfl⟩, HB.out⟩

set_option maxRecDepth 20000 in
set_option maxHeartbeats 4000000 in
theorem edgesM_ok (k c b t d l p : Int) (r q : Nat) (aV : Option Addr) (nV cV : Nat) (T : Value) (V : List Nat) (hVl : V.length = nV) (hn : nV ≤ 1000) (hrq : r * q = nV) (hq : q ≤ 1000) (hr : r ≤ 16777216) (hc : nV ≤ cV) (ha : aV = none → cV = 0) (hfm : ∀ ad, aV = some ad → ∃ g off, ad = ⟨g, off, none⟩) (h64 : Bits64 V) (w : World) (hV0 : HoldsE KF w aV V) :
    Calls Try.prog 11 #[ds k c b t d l p r q (.slice aV nV cV) T] w fun e w' => GotL e w' q (edgesA V r q b) ∧ Below w.heap.size w w' := by
  have D0 := lay_dat w 33 k c b t d l p r q (.slice aV nV cV) T
  have b0 := lay_below w 33 k c b t d l p r q (.slice aV nV cV) T
  have z0 := lay_size w 33 k c b t d l p r q (.slice aV nV cV) T
  have c1 := fits_any r q nV (lay w 33 k c b t d l p r q (.slice aV nV cV) T)
  rw [fit_nat hrq hr (by omega)] at c1
  have hV1 := hV0.below b0
  have HCOL0 : Hid (∀ j, j < q → ∀ W, HoldsE KF W aV V → Calls Try.prog 31 #[ds k c b t d l p r q (.slice aV nV cV) T, .int .i64 (j : Int)] W fun e w' => (∃ v, e = .returned v ∧ Own KF w' W.heap.size v (colL V r j)) ∧ Below W.heap.size W w') := fun j hj W h => by
    have hr2 : r ≤ 1000 := by
      have := Nat.mul_le_mul_left r (show 1 ≤ q by omega)
      omega
    exact column_ok k c b t d l p r q j aV nV cV T V hVl hn hrq hj hq hr2 hc ha hfm W h
  have HNUM := Lib.hid (And.intro hVl (And.intro hrq (And.intro hq hn)))
  have H64 := Lib.hid h64
  unfold ds at *
  clear hVl hn hrq hq hr hc ha hfm h64
  go_enter Try.func11, Try.ntmps11
  go_wp2_with fail
  change Calls _ _ _ (lay w 33 k c b t d l p r q (.slice aV nV cV) T) _
  generalize lay w 33 k c b t d l p r q (.slice aV nV cV) T = w0 at *
  obtain ⟨N, hN⟩ : ∃ N, w.heap.size = N := ⟨_, rfl⟩
  have HN := Lib.hid hN
  have hwN : w.heap.size ≤ N := Nat.le_of_eq hN
  rw [hN] at D0 ⊢
  clear hN z0
  refine c1.mono ?_
  rintro e w' ⟨rfl, rfl⟩
  have hmk := run_madeE okS w0 q (by have := HNUM.out.2.2.1; omega)
  have HL := Lib.hid (Lst.made (K := KS) w0 (List.replicate q KS.z))
  have b4 := (Below.refl w0.heap.size w0).alloc (Nat.le_refl _) (.cells ((List.replicate q KS.z).map KS.enc).toArray KS.e)
  have hmk : (Instr.makeSlice 35 (.int .i64 (q : Int)) (.int .i64 (q : Int))).run Try.prog w0 = .ok (.slice (some ⟨w0.heap.size, 0, none⟩) q q) (w0.alloc (.cells ((List.replicate q KS.z).map KS.enc).toArray KS.e)) := hmk
  generalize (Obj.cells ((List.replicate q KS.z).map KS.enc).toArray KS.e) = ob at *
  have e8 : w0.cell? ⟨N, 8, none⟩ = some (.int .i64 (q : Int)) := D0.c 8 (by decide)
  have D1 := D0.below b4 D0.lt
  have hV2 := hV1.below b4
  have hNG := D0.lt
  have hWG := b0.size
  have bel1 := b0.trans (b4.mono b0.size)
  clear c1 D0 b0 b4 hV1
  go_wp2_with fail
  obtain ⟨G, hG⟩ : ∃ G, w0.heap.size = G := ⟨_, rfl⟩
  rw [hG] at hNG hWG HL ⊢
  have HNG : Hid (N ≠ G) := by show _ ≠ _; omega
  have HWG := Lib.hid hWG
  clear hG hNG hWG hmk e8
  have HVX : Hid (∀ W : World, G < W.heap.size → Below w.heap.size w W → HoldsE KF W aV V → True ∧ ∀ W', But G W W' → HoldsE KF W' aV V) := fun W _ bel _ => ⟨trivial, fun W' bt => holdsV_but hV0 bel (Nat.le_refl _) HWG.out bt⟩
  go_loopw [19] (fun v wr => ∃ (K0 : Nat) (hs : List Hdr), v = .int .i64 (K0 : Int) ∧ K0 ≤ q ∧ HdsX G wr hs ((edgesA V r q b).take K0) ∧ Lst KS G 0 (partS hs q) wr ∧ Dat N (dv k c b t d l p r q (.slice aV nV cV) T) wr ∧ HoldsE KF wr aV V ∧ Below w.heap.size w wr) (fun v _ => q - (intOf v).toNat)
  case atStart => exact ⟨0, [], rfl, by omega, by rw [List.take_zero]; exact HdsX.nil _ _, HL.out, D1, hV2, bel1⟩
  case round =>
    obtain ⟨K0, hs, rfl, hk, hds, hL, D, hV, bel⟩ := hrel
    clear HL D1 hV2 bel1
    have hhl : hs.length = K0 := by
      have := hds.1
      rw [List.length_take, edgesA_len] at this
      omega
    by_cases hlt : K0 < q
    · have HK := Lib.hid hlt
      have HKU := Lib.hid (up_is hlt (show q ≤ 16777216 by have := HNUM.out.2.2.1; omega))
      have HKV := Lib.hid (up_less hlt (show q ≤ 16777216 by have := HNUM.out.2.2.1; omega))
      have HPL : Hid ((partS hs q).length = q) := partS_len (by omega)
      have HPS : Hid (∀ h3, (partS hs q).set K0 h3 = partS (hs ++ [h3]) q) := fun h3 => by
        have := partS_set (hs := hs) (q := q) (by omega) h3
        rw [hhl] at this
        exact this
      have HTS := Lib.hid (edgesA_step V r q b hlt)
      have HCOL := Lib.hid (HCOL0.out K0 hlt)
      have HCL : Hid ((colL V r K0).length ≤ 1048576) := by
        have h1 := HNUM.out
        show _ ≤ _
        unfold colL
        rw [List.length_take, List.length_drop]
        omega
      have HCB := Lib.hid (col_bits H64.out r K0)
      have i1 : (K0 : Int) < (q : Int) := by omega
      have i0 : (0 : Int) ≤ (K0 : Int) := by omega
      clear hhl hk hlt
      go_wp2_with fail
      replace D := D.drew
      replace hL := hL.drew
      replace hds : HdsX G wr.drew hs ((edgesA V r q b).take K0) := hds
      replace hV : HoldsE KF wr.drew aV V := hV
      replace bel := bel.drew
      refine wp_region_held_drew (S := (fun W => W.cell? ⟨N, 0, none⟩ = some (.int .i64 k) ∧ W.cell? ⟨N, 1, none⟩ = some (.int .i64 c) ∧ W.cell? ⟨N, 2, none⟩ = some (.int .i64 b) ∧ W.cell? ⟨N, 3, none⟩ = some (.int .i64 t) ∧ W.cell? ⟨N, 4, none⟩ = some (.int .i64 d) ∧ W.cell? ⟨N, 5, none⟩ = some (.int .i64 l) ∧ W.cell? ⟨N, 6, none⟩ = some (.int .i64 p) ∧ W.cell? ⟨N, 7, none⟩ = some (.int .i64 (r : Int)) ∧ W.cell? ⟨N, 8, none⟩ = some (.int .i64 (q : Int)) ∧ W.cell? ⟨N, 9, none⟩ = some (.slice aV nV cV) ∧ W.cell? ⟨N, 10, none⟩ = some T)) (by kernel_rfl) (by first | exact DZ.cells | exact D.cells) (fun hHeld => ?_)
      refine takeQ (i := 0) (v := ?_) rfl (by kernel_rfl) (by kernel_rfl) (by kernel_rfl) (fun _ _ _ h => h) (by rfl) hHeld ?_ ?_
      rotate_left
      · (intro w' hSw; (try dsimp only at hSw); go_simp <;> (with_reducible rfl))
      try simp only [Act.put, List.setIfInBounds_toArray, List.set_cons_zero, List.set_cons_succ]
      refine takeQ (i := 1) (v := ?_) rfl (by kernel_rfl) (by kernel_rfl) (by kernel_rfl) (fun _ _ _ h => h) (by rfl) hHeld ?_ ?_
      rotate_left
      · (intro w' hSw; (try dsimp only at hSw); go_simp <;> (with_reducible rfl))
      try simp only [Act.put, List.setIfInBounds_toArray, List.set_cons_zero, List.set_cons_succ]
      refine takeQ (i := 2) (v := ?_) rfl (by kernel_rfl) (by kernel_rfl) (by kernel_rfl) (fun _ _ _ h => h) (by rfl) hHeld ?_ ?_
      rotate_left
      · (intro w' hSw; (try dsimp only at hSw); go_simp <;> (with_reducible rfl))
      try simp only [Act.put, List.setIfInBounds_toArray, List.set_cons_zero, List.set_cons_succ]
      refine takeQ (i := 3) (v := ?_) rfl (by kernel_rfl) (by kernel_rfl) (by kernel_rfl) (fun _ _ _ h => h) (by rfl) hHeld ?_ ?_
      rotate_left
      · (intro w' hSw; (try dsimp only at hSw); go_simp <;> (with_reducible rfl))
      try simp only [Act.put, List.setIfInBounds_toArray, List.set_cons_zero, List.set_cons_succ]
      refine takeQ (i := 5) (v := ?_) rfl (by kernel_rfl) (by kernel_rfl) (by kernel_rfl) (fun _ _ _ h => h) (by rfl) hHeld ?_ ?_
      rotate_left
      · (intro w' hSw; (try dsimp only at hSw); go_simp <;> (with_reducible rfl))
      try simp only [Act.put, List.setIfInBounds_toArray, List.set_cons_zero, List.set_cons_succ]
      refine takeQ (i := 6) (v := ?_) rfl (by kernel_rfl) (by kernel_rfl) (by kernel_rfl) (fun _ _ _ h => h) (by rfl) hHeld ?_ ?_
      rotate_left
      · (intro w' hSw; (try dsimp only at hSw); go_simp <;> (with_reducible rfl))
      try simp only [Act.put, List.setIfInBounds_toArray, List.set_cons_zero, List.set_cons_succ]
      refine takeQ (i := 7) (v := ?_) rfl (by kernel_rfl) (by kernel_rfl) (by kernel_rfl) (fun _ _ _ h => h) (by rfl) hHeld ?_ ?_
      rotate_left
      · (intro w' hSw; (try dsimp only at hSw); go_simp <;> (with_reducible rfl))
      try simp only [Act.put, List.setIfInBounds_toArray, List.set_cons_zero, List.set_cons_succ]
      refine callL (i := 4) (by kernel_rfl) rfl (by rfl) (fun K hK => ?_)
      go_simp
      refine (HCOL.out _ hV).mono ?_
      rintro _ w2 ⟨⟨v, rfl, ov⟩, b2⟩
      obtain ⟨a2, c2, rfl, _, _, _, hh2⟩ := ov.holds
      replace D := D.below b2 D.lt
      replace hL := hL.below b2 hL.lt
      replace hds := hds.below b2
      replace hV := hV.below b2
      replace bel := bel.trans (b2.mono bel.size)
      clear b2 ov
      try dsimp only
      refine hK.out _ _ (by first | exact DZ.cells | exact D.cells) (fun hHeld => ?_)
      clear hK K
      try simp only [Act.put, List.setIfInBounds_toArray, List.set_cons_zero, List.set_cons_succ]
      refine callL (i := 8) (by kernel_rfl) rfl (by rfl) (fun K hK => ?_)
      go_simp
      have hG2 := hL.lt
      refine (of_own a2 c2 _ _ rfl HCL.out HCB.out b w2 hh2).mono ?_
      rintro _ w3 ⟨⟨v3, rfl, o3⟩, b3⟩
      obtain ⟨h3, rfl, hx3⟩ := hdX_own o3 hG2
      replace D := D.below b3 D.lt
      replace hL := hL.below b3 hL.lt
      replace hds := hds.below b3
      replace hV := hV.below b3
      replace bel := bel.trans (b3.mono bel.size)
      clear b3 o3 hh2 hG2
      try dsimp only
      refine hK.out _ _ (by first | exact DZ.cells | exact D.cells) (fun hHeld => ?_)
      clear hK K
      try simp only [Act.put, List.setIfInBounds_toArray, List.set_cons_zero, List.set_cons_succ]
      refine callL (i := 9) (by kernel_rfl) rfl (by rfl) (fun K hK => ?_)
      go_simp
      try dsimp only
      refine hK.out _ _ (by first | exact DZ.cells | exact D.cells) (fun hHeld => ?_)
      clear hK K
      try simp only [Act.put, List.setIfInBounds_toArray, List.set_cons_zero, List.set_cons_succ]
      refine callL (i := 10) (by kernel_rfl) rfl (by rfl) (fun K hK => ?_)
      have ct := hL.cell K0 (by rw [HPL.out]; exact HK.out)
      have ft := hL.frozen K0 (by rw [HPL.out]; exact HK.out)
      rw [Nat.zero_add] at ct ft
      have hST := hL.set K0 h3 (by rw [HPL.out]; exact HK.out)
      have bt := But.setCell G (0 + K0) w3 (KS.enc h3)
      rw [HPS.out h3] at hST
      have hdZ := (hds.push hx3).but bt
      rw [← HTS.out] at hdZ
      have DZ := D.but bt HNG.out
      have hVZ := (HVX.out _ hL.lt bel hV).2 _ bt
      have belZ := bel.trans (bt.below (B := w.heap.size) HWG.out bel.size)
      rw [Nat.zero_add] at hST hdZ DZ hVZ belZ bt
      have ct : w3.cell? ⟨G, K0, none⟩ = some (.slice ((partS hs q).getD K0 KS.z).1 ((partS hs q).getD K0 KS.z).2.1 ((partS hs q).getD K0 KS.z).2.2) := ct
      go_simp
      try dsimp only
      refine hK.out _ _ (by first | exact DZ.cells | exact D.cells) (fun hHeld => ?_)
      clear hK K
      try simp only [Act.put, List.setIfInBounds_toArray, List.set_cons_zero, List.set_cons_succ]
      refine wpAnyH_done (by kernel_rfl) ?_ _
      have HST : Hid (Lst KS G 0 (partS (hs ++ [h3]) q) (w3.setCell ⟨G, K0, none⟩ (.slice h3.1 h3.2.1 h3.2.2))) := hST
      have HDZ : Hid (HdsX G (w3.setCell ⟨G, K0, none⟩ (.slice h3.1 h3.2.1 h3.2.2)) (hs ++ [h3]) ((edgesA V r q b).take (K0 + 1))) := hdZ
      have DZ' : Dat N (dv k c b t d l p r q (.slice aV nV cV) T) (w3.setCell ⟨G, K0, none⟩ (.slice h3.1 h3.2.1 h3.2.2)) := DZ
      have HVZ : Hid (HoldsE KF (w3.setCell ⟨G, K0, none⟩ (.slice h3.1 h3.2.1 h3.2.2)) aV V) := hVZ
      have HBZ : Hid (Below w.heap.size w (w3.setCell ⟨G, K0, none⟩ (.slice h3.1 h3.2.1 h3.2.2))) := belZ
      clear hST hdZ DZ hVZ belZ bt ct ft D hL hds hV bel hx3 hHeld
      generalize w3.setCell ⟨G, K0, none⟩ (.slice h3.1 h3.2.1 h3.2.2) = w9 at *
      go_wp2_with fail
      go_roundw
      case rel => exact ⟨K0 + 1, _, HKU.out, HK.out, HDZ.out, HST.out, DZ', HVZ.out, HBZ.out⟩
      case measure => exact HKV.out
    · obtain rfl : q = K0 := by omega
      rw [partS_full hhl] at hL
      rw [List.take_of_length_le (by rw [edgesA_len]; exact Nat.le_refl _)] at hds
      have HZ := Lib.hid (And.intro hds hL)
      clear hlt hk hds hL hhl D hV
      go_wp2_with fail
      go_ret
      exact ⟨⟨_, _, rfl, edgesA_len _ _ _ _, hs, HZ.out.1.hds, HZ.out.2.holds⟩, bel⟩
end Go.Proofs.Ytjaogmbeoldefaa
