/-
  HISTOGRAMS: addMoment: targets added to the one moment of a list. Condition: each number is of 64 bits with a sign.
-/
import Derived.Test.YtebdlmjpgohngaaHisH
namespace Go.Proofs.Ytebdlmjpgohngaa
open Go.RowKit

/-- The error of so many targets more in a moment. -/
def adE (t v x y z : Int) : Int := if fitE (t * v) = 0 then if fitE (t * (t * v)) = 0 then or3 (plE x v) (plE y (t * v)) (plE z (t * (t * v))) else fitE (t * (t * v)) else fitE (t * v)
/-- What the moment's numbers are then. -/
def adL (t v x y z : Int) : List Int := if adE t v x y z = 0 then [plV x v, plV y (t * v), plV z (t * (t * v))] else [x, y, z]
/-- What addMoment leaves. -/
def AddP (g o : Nat) (t v x y z : Int) (w : World) (e : Ending) (w' : World) : Prop :=
  e = .returned (.int .i64 (adE t v x y z)) ∧ Lst KL g o (adL t v x y z) w' ∧ But g w w' ∧ Outs g o 3 w w'
theorem adL_no {t v x y z : Int} (h : adE t v x y z ≠ 0) : adL t v x y z = [x, y, z] := if_neg h

theorem fitE_in {s : Int} (h : fitE s = 0) : Whole s := by
  by_cases g : -9223372036854775808 ≤ s ∧ s < 9223372036854775808
  · exact g
  · rw [fitE_no g] at h; cases h

set_option maxHeartbeats 1000000 in
theorem addM_any (g o c : Nat) (t v x y z : Int) (ht : Whole t) (hv : Whole v) (hx : Whole x) (hy : Whole y) (hz : Whole z) (w : World) (hI : Lst KL g o [x, y, z] w) :
    Calls Try.prog 52 #[.slice (some ⟨g, o, none⟩) 1 c, .int .i64 t, .int .i64 v] w fun e w' => AddP g o t v x y z w e w' := by
  have hp := fun w => product_any t v ht hv w
  by_cases h1 : fitE (t * v) = 0
  · have hs := fitE_in h1
    rw [fitV_yes hs, h1] at hp
    have hq := fun w => product_any t (t * v) ht hs w
    by_cases h2 : fitE (t * (t * v)) = 0
    · have hr := fitE_in h2
      rw [fitV_yes hr, h2] at hq
      have HE : Hid (adE t v x y z = or3 (plE x v) (plE y (t * v)) (plE z (t * (t * v)))) := by show _ = _; unfold adE; rw [if_pos h1, if_pos h2]
      have HA : Hid (∀ e w', CombM (mmE plE plE plE (fun j => [x, y, z].getD j 0) (fun j => [v, t * v, t * (t * v)].getD j 0)) (mmV plV plV plV (fun j => [x, y, z].getD j 0) (fun j => [v, t * v, t * (t * v)].getD j 0)) g o 1 [x, y, z] w e w' → AddP g o t v x y z w e w') := by
        rintro e w' ⟨k, err, rfl, hran, hL, hB, hO⟩
        have he : err = adE t v x y z := by
          rw [hran.first, HE.out]; rfl
        rcases hran.fin with ⟨rfl, h0⟩ | ⟨hk, h0, h3⟩
        · refine ⟨by rw [he], ?_, hB, hO⟩
          unfold adL
          rw [if_pos (by rw [← he]; exact h0)]
          exact hL
        · obtain rfl : k = 0 := by omega
          refine ⟨by rw [he], ?_, hB, hO⟩
          rw [adL_no (by rw [← he]; exact h3)]
          exact hL
      have HC : Hid (∀ W1 W2 : World, Below w.heap.size w W1 → W1.alloc (.cells #[.int .i64 v, .int .i64 (t * v), .int .i64 (t * (t * v))] 74) = W2 → ∀ e w',
          CombM (mmE plE plE plE (fun j => [x, y, z].getD j 0) (fun j => [v, t * v, t * (t * v)].getD j 0)) (mmV plV plV plV (fun j => [x, y, z].getD j 0) (fun j => [v, t * v, t * (t * v)].getD j 0)) g o 1 [x, y, z] W2 e w' → AddP g o t v x y z w e w') := by
        rintro W1 W2 c1 rfl e w' ⟨k, err, he, hran, hL, hB, hO⟩
        have c2 : Below w.heap.size w (W1.alloc (.cells #[.int .i64 v, .int .i64 (t * v), .int .i64 (t * (t * v))] 74)) := c1.alloc c1.size _
        have c3 := Outs.below (Outs.refl g o 3 w) c2 hI.lt
        exact HA.out e w' ⟨k, err, he, hran, hL, (But.of_below c2).trans hB, ⟨fun k hk => (hO.cell k hk).trans (c3.cell k hk), fun k => (hO.frozen k).trans (c3.frozen k)⟩⟩
      clear HA
      have HG := Lib.hid hI
      have HW := Lib.hid (And.intro hx (And.intro hy (And.intro hz (And.intro hv (And.intro hs hr)))))
      clear h1 h2 hs hr ht hv hx hy hz HE hI
      generalize t * (t * v) = s2 at *
      generalize t * v = s1 at *
      go_enter Try.func52, Try.ntmps52
      go_wp2_with fail
      refine (hp _).mono ?_
      rintro e W1 ⟨rfl, c1⟩
      clear hp
      go_wp2_with fail
      refine (hq _).mono ?_
      rintro e W2 ⟨rfl, c2⟩
      clear hq
      have c3 := Lib.hid (c1.trans (c2.mono c1.size))
      clear c1 c2
      go_wp2_with fail
      have c4 := alloc_below W2 (.cells #[.int .i64 v, .int .i64 s1, .int .i64 s2] 74)
      have hL := HG.out.below c3.out HG.out.lt
      have hL2 := hL.below c4 hL.lt
      have n1 := AtM.new W2 v s1 s2 74
      have hq := combM_any 61 plV plV plV plE plE plE way_mplus g o g o W2.heap.size 0 1 c 1 c 1 1 [x, y, z] (fun j => [x, y, z].getD j 0) (fun j => [v, s1, s2].getD j 0) rfl (by decide) (by decide) (by decide) _ hL2 hL2.lt (fun j hj => hL2.cell j hj) n1.lt
        (fun j hj => by
          rcases j with _ | _ | _ | j
          · exact n1.c0
          · exact n1.c1
          · exact n1.c2
          · omega) (.inr rfl) (by have := hL.lt; omega)
        (fun j hj => by
          obtain ⟨a1, a2, a3, a4, a5, a6⟩ := HW.out
          rcases j with _ | _ | _ | j
          · exact a1
          · exact a2
          · exact a3
          · omega)
        (fun j hj => by
          obtain ⟨a1, a2, a3, a4, a5, a6⟩ := HW.out
          rcases j with _ | _ | _ | j
          · exact a4
          · exact a5
          · exact a6
          · omega)
      refine hq.mono ?_
      intro e w' hC
      have hA := HC.out W2 _ c3.out rfl e w' hC
      obtain ⟨rfl, hR⟩ := id hA
      go_wp2_with fail
      go_ret
      exact hA
    · have HE : Hid (adE t v x y z = 6) := by
        show _ = _
        unfold adE; rw [if_pos h1, if_neg h2]
        rcases fitE_or (t * (t * v)) with h | h
        · exact absurd h h2
        · exact h
      have h6 : fitE (t * (t * v)) = 6 := by
        rcases fitE_or (t * (t * v)) with h | h
        · exact absurd h h2
        · exact h
      rw [h6] at hq
      have HP : Hid (∀ w', Below w.heap.size w w' → AddP g o t v x y z w (.returned (.int .i64 6)) w') := by
        intro w' b
        refine ⟨by rw [HE.out], ?_, But.of_below b, Outs.below (Outs.refl _ _ _ _) b hI.lt⟩
        rw [adL_no (by rw [HE.out]; decide)]
        exact hI.below b hI.lt
      clear h1 h2 hs ht hv hx hy hz HE hI h6
      generalize fitV (t * (t * v)) = s2 at *
      generalize t * v = s1 at *
      go_enter Try.func52, Try.ntmps52
      go_wp2_with fail
      refine (hp _).mono ?_
      rintro e W1 ⟨rfl, c1⟩
      go_wp2_with fail
      refine (hq _).mono ?_
      rintro e W2 ⟨rfl, c2⟩
      have c3 := Lib.hid (c1.trans (c2.mono c1.size))
      clear c1 c2 hp hq
      go_wp2_with fail
      go_ret
      exact HP.out _ c3.out
  · have h6 : fitE (t * v) = 6 := by
      rcases fitE_or (t * v) with h | h
      · exact absurd h h1
      · exact h
    have HE : Hid (adE t v x y z = 6) := by show _ = _; unfold adE; rw [if_neg h1]; exact h6
    rw [h6] at hp
    have HP : Hid (∀ w', Below w.heap.size w w' → AddP g o t v x y z w (.returned (.int .i64 6)) w') := by
      intro w' b
      refine ⟨by rw [HE.out], ?_, But.of_below b, Outs.below (Outs.refl _ _ _ _) b hI.lt⟩
      rw [adL_no (by rw [HE.out]; decide)]
      exact hI.below b hI.lt
    clear h1 ht hv hx hy hz HE hI h6
    generalize fitV (t * v) = s1 at *
    go_enter Try.func52, Try.ntmps52
    go_wp2_with fail
    refine (hp _).mono ?_
    rintro e W1 ⟨rfl, c1⟩
    have c3 := Lib.hid c1
    clear c1 hp
    go_wp2_with fail
    go_ret
    exact HP.out _ c3.out
end Go.Proofs.Ytebdlmjpgohngaa
