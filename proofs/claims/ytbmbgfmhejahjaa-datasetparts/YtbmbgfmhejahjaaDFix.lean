/-
  The chapter's example, as each statement asks it. No condition.
-/
import Derived.Test.YtbmbgfmhejahjaaDPut
namespace Go.Proofs.Ytbmbgfmhejahjaa
open Go.RowKit

theorem HoldsE.take {α : Type} {K : Kind α} {w : World} {a : Option Addr} {l : List α} (h : HoldsE K w a l) (k : Nat) : HoldsE K w a (l.take k) := by
  rcases h with rfl | ⟨g, off, h1, h2, h3⟩
  · exact .inl (by simp)
  · refine .inr ⟨g, off, h1, h2, fun j hj => ?_⟩
    simp at hj
    rw [h3 j (by omega)]
    simp [List.getD_eq_getElem?_getD, show j < k by omega]

def fixV : List Nat := [4607182418800017408, 9221120237041090561]
def fixT : List Int := [0, 1]
theorem fixV_holds (w : World) (n : Nat) (hn : n = w.heap.size) : HoldsE KF (w.alloc (.cells #[.float .f64 4607182418800017408, .float .f64 9221120237041090561] 51)) (some ⟨n, 0, none⟩) fixV := by
  subst hn
  exact (Lst.made (K := KF) w fixV).holds
theorem fixT_holds (w : World) (n : Nat) (hn : n = w.heap.size) : HoldsE K64 (w.alloc (.cells #[.int .i64 0, .int .i64 1] 2)) (some ⟨n, 0, none⟩) fixT := by
  subst hn
  exact (Lst.made (K := K64) w fixT).holds
theorem fix_ok : eD 0 2 2 1 0 1 1 2 1 fixV fixT = 0 := by kernel_rfl

set_option maxHeartbeats 4000000 in
theorem fixed_any (w : World) : Calls Try.prog 8 #[] w fun e w' => e = .returned (.bool true) ∧ Below w.heap.size w w' := by
  have hNaN : ∀ w, Calls Try.prog 21 #[] w fun e w' => e = .returned (.float .f64 9221120237041090561) ∧ w' = w := by
    intro w
    go_enter Try.func21, Try.ntmps21
    go_wp2_with (simp only [frombI])
    go_ret
    exact ⟨rfl, rfl⟩
  have hcl := refClean_any 9221120237041090561 (by decide)
  rw [show cln 9221120237041090561 = 9221120237041090561 from by decide] at hcl
  have b1 := (Below.refl w.heap.size w).alloc (Nat.le_refl _) (.cells #[.float .f64 4607182418800017408, .float .f64 9221120237041090561] 51)
  have v1 := fixV_holds w w.heap.size rfl
  have b2 := b1.alloc b1.size (.cells #[.int .i64 0, .int .i64 1] 2)
  have z1 : (w.alloc (.cells #[.float .f64 4607182418800017408, .float .f64 9221120237041090561] 51)).heap.size = w.heap.size + 1 := by simp
  have t2 := fixT_holds (w.alloc (.cells #[.float .f64 4607182418800017408, .float .f64 9221120237041090561] 51)) (w.heap.size + 1) z1.symm
  have v2 := v1.below ((Below.refl _ (w.alloc (.cells #[.float .f64 4607182418800017408, .float .f64 9221120237041090561] 51))).alloc (Nat.le_refl _) (.cells #[.int .i64 0, .int .i64 1] 2))
  have pp := fun W h1 h2 => dput_any 0 2 2 1 0 1 1 2 1 (some ⟨w.heap.size, 0, none⟩) (some ⟨w.heap.size + 1, 0, none⟩) 2 2 2 2 fixV fixT rfl rfl (by decide) (by decide) (by decide) (by decide) (by decide) W h1 h2
  have pp1 := pp _ v2 t2
  unfold ds PutA at pp1
  rw [fix_ok] at pp1
  clear pp v1 b1 z1 v2 t2
  go_enter Try.func8, Try.ntmps8
  go_wp2_with (first | (go_at_call 21; refine (hNaN _).mono ?_; rintro e w' ⟨rfl, rfl⟩) | (go_at_call 20; refine (hcl _).mono ?_; rintro e w' ⟨rfl, rfl⟩))
  refine pp1.mono ?_
  rintro e w3 ⟨v, rfl, ⟨ho, -⟩, b3⟩
  have own := ho (by trivial)
  obtain ⟨a, cap, rfl, hA, hc, -, hh⟩ := own.holds
  have hl : (dsb 0 2 2 1 0 1 1 2 1 fixV fixT).length = 56 := dsb_len _ _ _ _ _ _ _ _ _ _ _
  rw [hl] at hc ⊢
  have hz := run_str w3 a 4 cap _ (show (List.take 4 (dsb 0 2 2 1 0 1 1 2 1 fixV fixT)).length = 4 by simp [hl]) (hh.take 4)
  rw [show List.take 4 (dsb 0 2 2 1 0 1 1 2 1 fixV fixT) = [72, 79, 82, 78] from rfl] at hz
  have HB := Lib.hid (b2.trans (b3.mono b2.size))
  have k1 : (4 : Int) ≤ (cap : Int) := by omega
  clear pp1 ho own hh hl b2 b3 hNaN hcl hc
  cases a with
  | none =>
    have := hA rfl
    omega
  | some ad =>
    obtain ⟨g, off, el⟩ := ad
    clear hA
    go_wp2_with fail
    go_ret
    exact ⟨congrArg (fun x => Ending.returned (Value.bool x)) (show ((sb [72, 79, 82, 78]).toList == [72, 79, 82, 78]) = true by kernel_rfl), HB.out⟩
end Go.Proofs.Ytbmbgfmhejahjaa
