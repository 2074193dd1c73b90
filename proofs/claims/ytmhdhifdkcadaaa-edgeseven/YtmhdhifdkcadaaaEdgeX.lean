/-
  THE CHAPTER's EXAMPLES of edges. No condition.
-/
import Derived.Test.YtmhdhifdkcadaaaEdgeO
import Derived.Test.YtmhdhifdkcadaaaEdgeR
namespace Go.Proofs.Ytmhdhifdkcadaaa
open Go.RowKit

theorem sortI_is {l o : List Int} (hp : o.Perm l) (hs : o.Pairwise fun a b => a ≤ b) : sortI l = o :=
  List.Perm.eq_of_pairwise (le := fun a b : Int => a ≤ b) (fun _ _ _ _ u v => Int.le_antisymm u v) (sortI_rising _) hs ((sortI_perm l).trans hp.symm)

theorem ex_there : thereL [4617315517961601024, 4607182418800017408, 4613937818241073152, 4607182418800017408] = [4607182418800017408, 4607182418800017408, 4613937818241073152, 4617315517961601024] := by
  have hk : keysOf [4617315517961601024, 4607182418800017408, 4613937818241073152, 4607182418800017408] = [13840687554816376832, 13830554455654793216, 13837309855095848960, 13830554455654793216] := by decide +kernel
  have hs : sortI [13840687554816376832, 13830554455654793216, 13837309855095848960, 13830554455654793216] = [13830554455654793216, 13830554455654793216, 13837309855095848960, 13840687554816376832] :=
    sortI_is (by decide +kernel) (by decide +kernel)
  unfold thereL inOrder
  rw [hk, hs]
  decide +kernel
theorem ex_edges : edgesL [4617315517961601024, 4607182418800017408, 4613937818241073152, 4607182418800017408] 2 = [4613937818241073152] := by
  rw [edges_some (by decide) (by decide), ex_there]
  decide +kernel

theorem nan_is (w : World) : Calls Try.prog 20 #[] w fun e w' => e = .returned (.float .f64 9221120237041090561) ∧ w = w' := by
  go_enter Try.func20, Try.ntmps20
  go_wp2_with (simp only [fromb])
  go_ret
  exact ⟨rfl, rfl⟩

set_option maxRecDepth 100000 in
set_option maxHeartbeats 1000000 in
theorem efixed_any (w : World) : Calls Try.prog 8 #[] w fun e w' => e = .returned (.bool true) ∧ Go.RowKit.Below w.heap.size w w' := by
  obtain ⟨L, HL⟩ : ∃ L : List Nat, Hid (L = [4617315517961601024, 4607182418800017408, 4613937818241073152, 4607182418800017408]) := ⟨_, rfl⟩
  have HE : Hid (edgesL L 2 = [4613937818241073152]) := by show _ = _; rw [HL.out]; exact ex_edges
  have HO := Lib.hid (Lst.made (K := KF) w [4617315517961601024, 4607182418800017408, 4613937818241073152, 4607182418800017408])
  have HB := Lib.hid ((Go.RowKit.Below.refl w.heap.size w).alloc (Nat.le_refl _) (.cells #[.float .f64 4617315517961601024, .float .f64 4607182418800017408, .float .f64 4613937818241073152, .float .f64 4607182418800017408] 32))
  have C := of_any' (some ⟨w.heap.size, 0, none⟩) 4 4 L (by rw [HL.out]; rfl) (by decide) (by rw [HL.out]; unfold Bits64; decide) 2 (w.alloc (.cells #[.float .f64 4617315517961601024, .float .f64 4607182418800017408, .float .f64 4613937818241073152, .float .f64 4607182418800017408] 32)) (by rw [HL.out]; exact HO.out.holds)
  rw [HE.out] at C
  go_enter Try.func8, Try.ntmps8
  go_wp2_with fail
  refine C.mono ?_
  rintro e w1 ⟨⟨a, c, rfl, hE⟩, hB1⟩
  have HB1 := Lib.hid (HB.out.trans (hB1.mono HB.out.size))
  clear C hB1
  go_wp2_with fail
  have hl : HoldsE KF (w1.alloc (.cells #[.float .f64 4613937818241073152] 32)) (some ⟨w1.heap.size, 0, none⟩) [4613937818241073152] := (Lst.made (K := KF) w1 [4613937818241073152]).holds
  have bA := (Go.RowKit.Below.refl w1.heap.size w1).alloc (Nat.le_refl _) (.cells #[.float .f64 4613937818241073152] 32)
  have hE2 := hE.below bA
  refine (refSame_any a (some ⟨w1.heap.size, 0, none⟩) c 1 1 1 [4613937818241073152] [4613937818241073152] rfl rfl (by decide) (by decide) _ hE2 hl).mono ?_
  rintro e w2 ⟨rfl, hB2⟩
  have hE3 := hE2.below hB2
  have HB2 := Lib.hid (HB1.out.trans ((bA.trans (hB2.mono bA.size)).mono HB1.out.size))
  rw [show decide ([4613937818241073152] = [4613937818241073152]) = true from decide_eq_true rfl]
  have b1 : binL [4613937818241073152] 4607182418800017408 = 1 := by decide +kernel
  have b2 : binL [4613937818241073152] 4613937818241073152 = 2 := by decide +kernel
  have b3 : binL [4613937818241073152] 9221120237041090561 = 0 := by decide +kernel
  have C1 := bin_any a c 1 [4613937818241073152] rfl (by decide) (by decide) 4607182418800017408 (by decide) w2 hE3
  have C2 := bin_any a c 1 [4613937818241073152] rfl (by decide) (by decide) 4613937818241073152 (by decide) w2 hE3
  have C3 := bin_any a c 1 [4613937818241073152] rfl (by decide) (by decide) 9221120237041090561 (by decide) w2 hE3
  rw [b1] at C1
  rw [b2] at C2
  rw [b3] at C3
  clear hB2 bA hE hE2 hE3 hl b1 b2 b3
  go_wp2_with fail
  refine C1.mono ?_
  rintro e w' ⟨rfl, rfl⟩
  go_wp2_with fail
  refine C2.mono ?_
  rintro e w' ⟨rfl, rfl⟩
  go_wp2_with (go_at_call 20; refine (nan_is _).mono ?_; rintro e w' ⟨rfl, rfl⟩)
  refine C3.mono ?_
  rintro e w' ⟨rfl, rfl⟩
  go_wp2_with fail
  go_ret
  exact ⟨rfl, HB2.out⟩

end Go.Proofs.Ytmhdhifdkcadaaa
