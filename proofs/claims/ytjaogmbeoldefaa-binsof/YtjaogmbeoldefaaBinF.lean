/-
  THE CHAPTER's EXAMPLE of bins. No condition.
-/
import Derived.Test.YtjaogmbeoldefaaBinE
import Derived.Test.YtjaogmbeoldefaaBinO
namespace Go.Proofs.Ytjaogmbeoldefaa
open Go.RowKit

theorem sortI_is {l o : List Int} (hp : o.Perm l) (hs : o.Pairwise fun a b => a ≤ b) : sortI l = o :=
  List.Perm.eq_of_pairwise (le := fun a b : Int => a ≤ b) (fun _ _ _ _ u v => Int.le_antisymm u v) (sortI_rising _) hs ((sortI_perm l).trans hp.symm)
theorem fx_there : thereL [4607182418800017408, 4613937818241073152] = [4607182418800017408, 4613937818241073152] := by
  have hk : keysOf [4607182418800017408, 4613937818241073152] = [13830554455654793216, 13837309855095848960] := by decide +kernel
  have hs : sortI [13830554455654793216, 13837309855095848960] = [13830554455654793216, 13837309855095848960] := sortI_is (by decide +kernel) (by decide +kernel)
  unfold thereL inOrder
  rw [hk, hs]
  decide +kernel
theorem fx_edges : edgesA [4607182418800017408, 4613937818241073152] 2 1 2 = [[4613937818241073152]] := by
  have h : edgesA [4607182418800017408, 4613937818241073152] 2 1 2 = [edgesL (colL [4607182418800017408, 4613937818241073152] 2 0) 2] := rfl
  rw [h, show colL [4607182418800017408, 4613937818241073152] 2 0 = [4607182418800017408, 4613937818241073152] from rfl, edges_some (by decide) (by decide), fx_there]
  decide +kernel
theorem fx_cells : cellsL [4607182418800017408, 4613937818241073152] 2 [[4613937818241073152]] = [1, 2] := by decide +kernel
theorem fx_turn : turnL [1, 2] 2 0 [1, 0] = [2, 1] := by decide +kernel

set_option maxRecDepth 100000 in
set_option maxHeartbeats 4000000 in
theorem bfixed_any (w : World) : Calls Try.prog 9 #[] w fun e w' => e = .returned (.bool true) ∧ Below w.heap.size w w' := by
  obtain ⟨V, HV⟩ : ∃ V : List Nat, Hid (V = [4607182418800017408, 4613937818241073152]) := ⟨_, rfl⟩
  obtain ⟨E3, HE3⟩ : ∃ E : List Nat, Hid (E = [4613937818241073152]) := ⟨_, rfl⟩
  obtain ⟨C, HC⟩ : ∃ C : List Int, Hid (C = [1, 2]) := ⟨_, rfl⟩
  obtain ⟨P, HP⟩ : ∃ P : List Int, Hid (P = [1, 0]) := ⟨_, rfl⟩
  obtain ⟨D, HD⟩ : ∃ D : List Int, Hid (D = [2, 1]) := ⟨_, rfl⟩
  have HEA : Hid (edgesA V 2 1 2 = [E3]) := by show _ = _; rw [HV.out, HE3.out]; exact fx_edges
  have HCA : Hid (cellsL V 2 [E3] = C) := by show _ = _; rw [HV.out, HE3.out, HC.out]; exact fx_cells
  have HTA : Hid (turnL C 2 0 P = D) := by show _ = _; rw [HC.out, HP.out, HD.out]; exact fx_turn
  have H64 : Hid (Bits64 V) := by show Bits64 V; rw [HV.out]; unfold Bits64; decide
  have HB1 := (Below.refl w.heap.size w).alloc (Nat.le_refl _) (.cells #[.float .f64 4607182418800017408, .float .f64 4613937818241073152] 62)
  have HO1 : HoldsE KF (w.alloc (.cells #[.float .f64 4607182418800017408, .float .f64 4613937818241073152] 62)) (some ⟨w.heap.size, 0, none⟩) V := by rw [HV.out]; exact (Lst.made (K := KF) w [4607182418800017408, 4613937818241073152]).holds
  have HB2 := lay_below (w.alloc (.cells #[.float .f64 4607182418800017408, .float .f64 4613937818241073152] 62)) 33 0 0 2 0 0 0 0 2 1 (.slice (some ⟨w.heap.size, 0, none⟩) 2 2) (.slice none 0 0)
  have HD2 := lay_dat (w.alloc (.cells #[.float .f64 4607182418800017408, .float .f64 4613937818241073152] 62)) 33 0 0 2 0 0 0 0 2 1 (.slice (some ⟨w.heap.size, 0, none⟩) 2 2) (.slice none 0 0)
  go_enter Try.func9, Try.ntmps9
  go_wp2_with fail
  change Calls _ _ _ (lay (w.alloc (.cells #[.float .f64 4607182418800017408, .float .f64 4613937818241073152] 62)) 33 0 0 2 0 0 0 0 2 1 (.slice (some ⟨w.heap.size, 0, none⟩) 2 2) (.slice none 0 0)) _
  have h1 := HO1.below HB2
  have bel := HB1.trans (HB2.mono HB1.size)
  have hsz : (w.alloc (.cells #[.float .f64 4607182418800017408, .float .f64 4613937818241073152] 62)).heap.size = w.heap.size + 1 := by simp
  rw [hsz] at HD2
  generalize lay (w.alloc (.cells #[.float .f64 4607182418800017408, .float .f64 4613937818241073152] 62)) 33 0 0 2 0 0 0 0 2 1 (.slice (some ⟨w.heap.size, 0, none⟩) 2 2) (.slice none 0 0) = w1 at *
  obtain ⟨N, hN⟩ : ∃ N, w.heap.size = N := ⟨_, rfl⟩
  have HN := Lib.hid hN
  rw [hN] at h1 HD2 ⊢
  clear hN HO1 HB1 HB2 hsz
  refine (edgesM_ok 0 0 2 0 0 0 0 2 1 (some ⟨N, 0, none⟩) 2 2 (.slice none 0 0) V (by rw [HV.out]; rfl) (by decide) (by decide) (by decide) (by decide) (by decide) (fun h => by cases h) (fun ad h => ⟨N, 0, (Option.some.inj h).symm⟩) H64.out w1 h1).mono ?_
  rintro e w2 ⟨⟨ae, ce, rfl, hle, hE⟩, b2⟩
  rw [HEA.out] at hE
  have h2 := h1.below b2
  have D2 := HD2.on' b2
  have HB2 := Lib.hid (bel.trans (b2.mono bel.size))
  obtain ⟨x0, x1, x2, x3, x4, x5, x6, x7, x8, x9, x10⟩ := D2.cells
  clear h1 HD2 bel b2 hle
  go_wp2_with fail
  clear x0 x1 x2 x3 x4 x5 x6 x7 x8 x9 x10
  refine (ofM_ok 0 0 2 0 0 0 0 2 1 (some ⟨N, 0, none⟩) ae 2 2 ce (.slice none 0 0) V [E3] (by rw [HV.out]; rfl) (by decide) (by decide) (by decide) (by decide) (by decide) (fun h => by cases h) (fun ad h => ⟨N, 0, (Option.some.inj h).symm⟩) H64.out rfl (by rw [HE3.out]; unfold Bits64; decide) w2 h2 hE).mono ?_
  rintro e w3 ⟨⟨am, cm, rfl, hlm, hcm, ham, hM⟩, b3⟩
  rw [HCA.out] at hlm hM
  have hE3 := hE.below b3
  have HB3 := Lib.hid (HB2.out.trans (b3.mono HB2.out.size))
  have hMh : HoldsE KW w3 am C := by
    rcases hM with h | ⟨g, h, _, hL⟩
    · rw [HC.out] at h; cases h
    · rw [h]; exact hL.holds
  have b4 := lay3_below w3 2 1 (.slice am 2 cm)
  have M4 := lay3_m w3 2 1 (.slice am 2 cm)
  have hE4 := hE3.below b4
  have hM4 := hMh.below b4
  have HB4 := Lib.hid (HB3.out.trans (b4.mono HB3.out.size))
  have hz4 := lay3_size w3 2 1 (.slice am 2 cm)
  obtain ⟨X3, hX3⟩ : ∃ X, w3.heap.size = X := ⟨_, rfl⟩
  rw [hX3] at M4 hz4
  clear hE b3 h2 D2 b4 hE3 hMh hM
  unfold mx
  go_wp2_with fail
  change Calls _ _ _ ((lay3 w3 2 1 (.slice am 2 cm)).alloc (.cells #[.int .i64 1, .int .i64 0] 3)) _
  generalize lay3 w3 2 1 (.slice am 2 cm) = w4 at *
  have b5 := (Below.refl w4.heap.size w4).alloc (Nat.le_refl _) (.cells #[.int .i64 1, .int .i64 0] 3)
  have hP5 : HoldsE KN (w4.alloc (.cells #[.int .i64 1, .int .i64 0] 3)) (some ⟨w4.heap.size, 0, none⟩) P := by rw [HP.out]; exact (Lst.made (K := KN) w4 [1, 0]).holds
  have hE5 := hE4.below b5
  have hM5 := hM4.below b5
  have M5 := M4.on b5
  have HB5 := Lib.hid (HB4.out.trans (b5.mono HB4.out.size))
  rw [hz4] at hP5
  have HZ4 := Lib.hid hz4
  clear b5 hE4 hM4 M4 hX3 hz4
  generalize w4.alloc (.cells #[.int .i64 1, .int .i64 0] 3) = w5 at *
  refine (turnM_pos 2 1 0 2 am (some ⟨X3 + 1, 0, none⟩) cm 2 2 C P hlm (by decide) (by rw [HP.out]; rfl) (by rw [HP.out]; unfold In64s; decide) (by decide) (by decide) (by rw [HP.out]; decide +kernel) (by decide) hcm w5 hM5 hP5).mono ?_
  rintro e w6 ⟨⟨at2, ct2, rfl, hlt2, _, _, hT⟩, b6⟩
  rw [HTA.out] at hT hlt2
  have hTh : HoldsE KW w6 at2 D := by
    rcases hT with h | ⟨g, h, _, hL⟩
    · rw [HD.out] at h; cases h
    · rw [h]; exact hL.holds
  have hE6 := hE5.below b6
  have hM6 := hM5.below b6
  have M6 := M5.on b6
  have HB6 := Lib.hid (HB5.out.trans (b6.mono HB5.out.size))
  have b7 := lay3_below w6 2 1 (.slice at2 2 ct2)
  have M7 := lay3_m w6 2 1 (.slice at2 2 ct2)
  have hz7 := lay3_size w6 2 1 (.slice at2 2 ct2)
  have hE7 := hE6.below b7
  have hM7 := hM6.below b7
  have hT7 := hTh.below b7
  have N7 := M6.on b7
  have HB7 := Lib.hid (HB6.out.trans (b7.mono HB6.out.size))
  obtain ⟨ge, oe, a1, c1, rfl, hge, hce, hh1⟩ := hE7.at (show 0 < [E3].length from Nat.zero_lt_one)
  have hce : (w6.alloc (.cells #[.int .i64 2, .int .i64 1, .slice at2 2 ct2] 42)).cell? ⟨ge, oe, none⟩ = some (.slice a1 1 c1) := by
    have : ([E3].getD 0 []).length = 1 := by show E3.length = 1; rw [HE3.out]; rfl
    rw [this] at hce
    exact hce
  have hh1 : HoldsE KF (lay3 w6 2 1 (.slice at2 2 ct2)) a1 E3 := hh1
  obtain ⟨X6, hX6⟩ : ∃ X, w6.heap.size = X := ⟨_, rfl⟩
  rw [hX6] at M7 hz7
  clear hM5 hP5 hE5 M5 b6 hT hTh hE6 hM6 M6 b7 hE7 hge
  unfold mx
  go_wp2_with fail
  change Calls _ _ _ ((lay3 w6 2 1 (.slice at2 2 ct2)).alloc (.cells #[.float .f64 4613937818241073152] 62)) _
  generalize lay3 w6 2 1 (.slice at2 2 ct2) = w7 at *
  have b8 := (Below.refl w7.heap.size w7).alloc (Nat.le_refl _) (.cells #[.float .f64 4613937818241073152] 62)
  have hl8 : HoldsE KF (w7.alloc (.cells #[.float .f64 4613937818241073152] 62)) (some ⟨w7.heap.size, 0, none⟩) E3 := by rw [HE3.out]; exact (Lst.made (K := KF) w7 [4613937818241073152]).holds
  have hh8 := hh1.below b8
  have hM8 := hM7.below b8
  have hT8 := hT7.below b8
  have N8 := N7.on b8
  have M8 := M7.on b8
  have HB8 := Lib.hid (HB7.out.trans (b8.mono HB7.out.size))
  rw [hz7] at hl8
  clear b8 hh1 hM7 hT7 N7 M7 hce hX6 hz7
  generalize w7.alloc (.cells #[.float .f64 4613937818241073152] 62) = w8 at *
  refine (refSame_any a1 (some ⟨X6 + 1, 0, none⟩) c1 1 1 1 E3 E3 (by rw [HE3.out]; rfl) (by rw [HE3.out]; rfl) (by decide) (by decide) w8 hh8 hl8).mono ?_
  rintro e w9 ⟨rfl, b9⟩
  have hM9 := hM8.below b9
  have hT9 := hT8.below b9
  have N9 := N8.on b9
  have M9 := M8.on b9
  have HB9 := Lib.hid (HB8.out.trans (b9.mono HB8.out.size))
  rw [show decide (E3 = E3) = true from decide_eq_true rfl]
  have n0 := N9.c0
  have n1 := N9.c1
  have n2 := N9.c2
  clear hh8 hl8 hM8 hT8 N8 M8 b9
  go_wp2_with fail
  clear n0 n1 n2
  have bA := (Below.refl w9.heap.size w9).alloc (Nat.le_refl _) (.cells #[.int .u16 1, .int .u16 2] 59)
  have hCA : HoldsE KW (w9.alloc (.cells #[.int .u16 1, .int .u16 2] 59)) (some ⟨w9.heap.size, 0, none⟩) C := by rw [HC.out]; exact (Lst.made (K := KW) w9 [1, 2]).holds
  have hMA := hM9.below bA
  have hTA := hT9.below bA
  have MA := M9.on bA
  have HBA := Lib.hid (HB9.out.trans (bA.mono HB9.out.size))
  clear bA hM9 hT9 N9 M9
  refine (sameM_any 2 1 2 1 am (some ⟨w9.heap.size, 0, none⟩) 2 2 cm 2 C C hlm hlm (by decide) _ hMA hCA).mono ?_
  rintro e wB ⟨rfl, bB⟩
  rw [show decide (SameM 2 1 C 2 1 C) = true from decide_eq_true ⟨rfl, rfl, rfl⟩]
  have hTB := hTA.below bB
  have MB := MA.on bB
  have HBB := Lib.hid (HBA.out.trans (bB.mono HBA.out.size))
  have n0 := MB.c0
  have n1 := MB.c1
  have n2 := MB.c2
  clear hMA hCA hTA MA bB MB
  go_wp2_with fail
  clear n0 n1 n2
  have bC := (Below.refl wB.heap.size wB).alloc (Nat.le_refl _) (.cells #[.int .u16 2, .int .u16 1] 59)
  have hDC : HoldsE KW (wB.alloc (.cells #[.int .u16 2, .int .u16 1] 59)) (some ⟨wB.heap.size, 0, none⟩) D := by rw [HD.out]; exact (Lst.made (K := KW) wB [2, 1]).holds
  have hTC := hTB.below bC
  have HBC := Lib.hid (HBB.out.trans (bC.mono HBB.out.size))
  clear bC hTB
  refine (sameM_any 2 1 2 1 at2 (some ⟨wB.heap.size, 0, none⟩) 2 2 ct2 2 D D hlt2 hlt2 (by decide) _ hTC hDC).mono ?_
  rintro e wD ⟨rfl, bD⟩
  rw [show decide (SameM 2 1 D 2 1 D) = true from decide_eq_true ⟨rfl, rfl, rfl⟩]
  have HBD := Lib.hid (HBC.out.trans (bD.mono HBC.out.size))
  clear hTC hDC bD
  go_wp2_with fail
  go_ret
  exact ⟨rfl, HBD.out⟩
end Go.Proofs.Ytjaogmbeoldefaa
