/-
  THE DOCUMENT's bin of a value by any edges; could these be edges, by edges and by the document. Condition: at most 1000 edges, of 64 bits each.
-/
import Derived.Test.YtjaogmbeoldefaaEdgeB
import Derived.Test.YtjaogmbeoldefaaRefSort
namespace Go.Proofs.Ytjaogmbeoldefaa
open Go.RowKit

set_option maxHeartbeats 1000000 in
theorem refBin_any (a : Option Addr) (cap n : Nat) (E : List Nat) (hn : E.length = n) (hb : n ≤ 1048576) (h64 : ∀ e ∈ E, e < 18446744073709551616) (f : Nat) (hf : f < 18446744073709551616) (w : World) (hr : HoldsE KF w a E) :
    Calls Try.prog 37 #[.slice a n cap, .float .f64 f] w fun e w' => e = .returned (.int .i64 ((binL E f : Nat) : Int)) ∧ w = w' := by
  by_cases hm : mis f
  · have HZ : Hid (((binL E f : Nat) : Int) = 0) := by show _ = _; rw [binL_mis hm]; rfl
    rw [HZ.out]
    clear hn hr h64
    go_enter Try.func37, Try.ntmps37
    go_wp2_with (go_at_call 27; refine (refMissing_any f hf _).mono ?_; rintro e w' ⟨rfl, rfl⟩)
    go_ret
    exact ⟨rfl, rfl⟩
  · have HN := Lib.hid hn
    have HB := Lib.hid hb
    clear hn hb
    go_enter Try.func37, Try.ntmps37
    go_wp2_with (go_at_call 27; refine (refMissing_any f hf _).mono ?_; rintro e w' ⟨rfl, rfl⟩)
    go_loopw [5, 6] (fun c i wr => ∃ j : Nat, j ≤ n ∧ i = .int .i64 (j : Int) ∧ c = .int .i64 ((binTo E f j : Nat) : Int) ∧ wr = w) (fun _ i _ => n - (intOf i).toNat)
    case atStart => exact ⟨0, by omega, rfl, by rw [binTo_zero]; rfl, rfl⟩
    case round =>
      obtain ⟨j, hj, rfl, rfl, rfl⟩ := hrel
      have hn := HN.out
      have hb := HB.out
      by_cases hlt : j < n
      · obtain ⟨g, off, rfl, hg, hrow⟩ := hr.some hn hlt
        have hx := at64 h64 (show j < E.length by omega)
        have cx : wr.cell? ⟨g, off + j, none⟩ = some (.float .f64 (E.getD j 0)) := hrow j (by omega)
        have hbt := binTo_le E f j
        have hj1 : (j : Int) < (n : Int) := by omega
        have hj2 : (j : Int) ≤ 1048576 := by omega
        have HJ := Lib.hid hlt
        by_cases hk : key (E.getD j 0) ≤ key f
        · have e := binTo_yes (show j < E.length by omega) hk
          have HE : Hid (binTo E f (j + 1) = binTo E f j + 1) := e
          generalize binTo E f j = c at *
          generalize E.getD j 0 = x at *
          have hk : cmpI (key x) (key f) ≤ 0 := of_decide_eq_true ((cmpI_le _ _).trans (decide_eq_true (by omega)))
          have hc : (c : Int) ≤ 1048577 := by omega
          clear hn hb hrow h64 hr hlt e hbt
          go_wp2_with (go_at_call 28; refine (refCmp_any x f hx hf _).mono ?_; rintro e w' ⟨rfl, rfl⟩)
          go_roundw
          case rel => have h1 := HJ.out; have h2 := HB.out; exact ⟨j + 1, by omega, by go_num, by rw [HE.out]; go_num, trivial⟩
          case measure => have h1 := HJ.out; have h2 := HB.out; simp [intOf]; omega
        · have e := binTo_no (show j < E.length by omega) hk
          have HE : Hid (binTo E f (j + 1) = binTo E f j) := e
          generalize binTo E f j = c at *
          generalize E.getD j 0 = x at *
          have hk : ¬ cmpI (key x) (key f) ≤ 0 := of_decide_eq_false ((cmpI_le _ _).trans (decide_eq_false (by omega)))
          clear hn hb hrow h64 hr hlt e hbt
          go_wp2_with (go_at_call 28; refine (refCmp_any x f hx hf _).mono ?_; rintro e w' ⟨rfl, rfl⟩)
          go_roundw
          case rel => have h1 := HJ.out; have h2 := HB.out; exact ⟨j + 1, by omega, by go_num, by rw [HE.out], trivial⟩
          case measure => have h1 := HJ.out; have h2 := HB.out; simp [intOf]; omega
      · have HZ := Lib.hid (binTo_all (E := E) (f := f) (j := j) (by omega) hm)
        clear hn hb h64 hr
        go_wp2_with fail
        go_ret
        exact ⟨by rw [HZ.out]; rfl, rfl⟩

/-- Could the one at this place be an edge, behind the one ahead of it? -/
def okAt (E : List Nat) (j : Nat) : Prop := ¬ mis (E.getD j 0) ∧ cln (E.getD j 0) = E.getD j 0 ∧ (0 < j → key (E.getD (j - 1) 0) < key (E.getD j 0))
/-- Could these be edges? -/
def RightL (E : List Nat) : Prop := E.length ≤ 255 ∧ ∀ j, j < E.length → okAt E j
instance (E : List Nat) (j : Nat) : Decidable (okAt E j) := inferInstanceAs (Decidable (_ ∧ _ ∧ (_ → _)))
instance (E : List Nat) : Decidable (RightL E) := inferInstanceAs (Decidable (_ ∧ ∀ j, j < E.length → okAt E j))
def rightB (E : List Nat) : Bool := decide (RightL E)
theorem rightB_no {E : List Nat} {j : Nat} (hj : j < E.length) (h : ¬ okAt E j) : rightB E = false := by
  unfold rightB; exact decide_eq_false (fun k => h (k.2 j hj))
theorem rightB_yes {E : List Nat} (h1 : E.length ≤ 255) (h : ∀ j, j < E.length → okAt E j) : rightB E = true := by
  unfold rightB; exact decide_eq_true ⟨h1, h⟩
theorem rightB_long {E : List Nat} (h : 255 < E.length) : rightB E = false := by
  unfold rightB; exact decide_eq_false (fun k => by have := k.1; omega)

end Go.Proofs.Ytjaogmbeoldefaa
