/-
  THE DOCUMENT'S OWN NUMBER OF A SIGN AND DIGITS, if it is of 64 bits with a sign. Condition: at least four digits, no more than a hundred.
-/
import Derived.Test.YtebdlmjpgohngaaRefNum
namespace Go.Proofs.Ytebdlmjpgohngaa
open Go.RowKit

/-- A size with a sign. -/
def signI (b : Bool) (v : Int) : Int := if b then -v else v

set_option maxHeartbeats 2000000 in
theorem whole_any (bl : Bool) (g n cap : Nat) (l : List Int) (hl : l.length = n) (h4 : 4 ≤ n) (h9 : n ≤ 100) (hc : n ≤ cap) (hd : Dig l) (w : World) (hN : Nums g l w) :
    Calls Try.prog 56 #[.bool bl, .slice (some ⟨g, 0, none⟩) n cap] w fun e w' => e = .returned (.tuple #[.int .i64 (fitV (signI bl (val l))), .int .i64 (fitE (signI bl (val l)))]) ∧ Below w.heap.size w w' := by
  have HM := Lib.hid (num4_word (j := 0) hd (by omega))
  go_enter Try.func56, Try.ntmps56
  go_wp2_with fail
  go_loopw [6] (fun i wr => ∃ j : Nat, 4 ≤ j ∧ j ≤ n ∧ i = .int .i64 j ∧ wr = w ∧ Hid (∀ t, 4 ≤ t → t < j → l.getD t 0 = 0)) (fun i _ => n - (intOf i).toNat)
  case atStart => exact ⟨4, by omega, by omega, rfl, rfl, fun t h1 h2 => by omega⟩
  case round =>
    obtain ⟨j, hj4, hj, rfl, rfl, HZ⟩ := hrel
    by_cases hlt : j < n
    · have c := hN.cell j (by omega)
      have d0 := (hd j (by omega)).1
      have j1 : (j : Int) < (n : Int) := by omega
      by_cases hp : 0 < l.getD j 0
      · have HB := Lib.hid (val_beyond hd hj4 (by omega) hp)
        have HF : Hid (¬ (-9223372036854775808 ≤ signI bl (val l) ∧ signI bl (val l) < 9223372036854775808)) := by
          have := HB.out
          show ¬ _
          unfold signI
          split <;> omega
        have HV := Lib.hid (fitV_no HF.out)
        have HE := Lib.hid (fitE_no HF.out)
        generalize l.getD j 0 = y at *
        go_wp2_with fail
        go_ret2
        exact ⟨by rw [HV.out, HE.out]; rfl, Below.refl _ _⟩
      · have hy : l.getD j 0 = 0 := by omega
        have HZ2 : Hid (∀ t, 4 ≤ t → t < j + 1 → l.getD t 0 = 0) := fun t h1 h2 => by
          by_cases e : t = j
          · subst e; exact hy
          · exact HZ.out t h1 (by omega)
        rw [hy] at c
        clear hp d0 HZ
        go_wp2_with fail
        go_roundw
        case rel => exact ⟨j + 1, by omega, by omega, by go_num, by trivial, HZ2⟩
        case measure => simp [intOf]; omega
    · have hj2 : j = n := by omega
      subst hj2
      have HW : Hid (val l = num4 l 0) := val_within (by omega) (fun t h1 h2 => HZ.out t h1 (by omega))
      have k4 : (4 : Int) ≤ (cap : Int) := by omega
      have hn4 : 0 + 3 < l.length := by omega
      have HH4 := Lib.hid h4
      have HHC := Lib.hid hc
      clear hlt hj4 hj
      go_wp2_with fail
      refine (number_any _ _ _ _ l hd hn4 (by decide) _ hN).mono ?_
      rintro e w1 ⟨rfl, k, rfl⟩
      obtain ⟨m, HMM⟩ : ∃ m, Hid (num4 l 0 = m) := ⟨_, rfl⟩
      have hm := HM.out
      unfold Word at hm
      rw [HMM.out] at hm ⊢
      have HW2 : Hid (val l = m) := HW.out.trans HMM.out
      have HB : Hid (Below wr.heap.size wr (wr.drewN k)) := drawn (Below.refl _ _) k
      obtain ⟨m0, m1⟩ := hm
      clear HM HW HZ HMM hN hd hn4 HHC HH4
      by_cases hz : m = 0
      · subst hz
        have HF : Hid (signI bl (val l) = 0) := by show _ = _; rw [HW2.out]; unfold signI; split <;> omega
        go_wp2_with fail
        go_ret2
        exact ⟨by rw [HF.out]; rfl, HB.out⟩
      · have hz2 : (m == 0) = false := by simpa using hz
        cases bl
        · have HF : Hid (signI false (val l) = m) := HW2.out
          by_cases h63 : m ≤ 9223372036854775807
          · have HV := Lib.hid (fitV_yes (s := m) ⟨by omega, by omega⟩)
            have HE := Lib.hid (fitE_yes (s := m) ⟨by omega, by omega⟩)
            go_wp2_with fail
            go_ret2
            exact ⟨by rw [HF.out, HV.out, HE.out]; rfl, HB.out⟩
          · have HV := Lib.hid (fitV_no (s := m) (by omega))
            have HE := Lib.hid (fitE_no (s := m) (by omega))
            have d1 : decide (m ≤ 9223372036854775807) = false := by simp; omega
            go_wp2_with fail
            go_ret2
            exact ⟨by rw [HF.out, HV.out, HE.out]; rfl, HB.out⟩
        · have HF : Hid (signI true (val l) = -m) := by show _ = _; rw [HW2.out]; rfl
          by_cases h63 : m ≤ 9223372036854775808
          · have HV := Lib.hid (fitV_yes (s := -m) ⟨by omega, by omega⟩)
            have HE := Lib.hid (fitE_yes (s := -m) ⟨by omega, by omega⟩)
            have u1 : IntKind.u64.wrap (m - 1) = m - 1 := by rw [IntKind.wrap_u64]; omega
            have u2 : wrap64 (m - 1) = m - 1 := by unfold wrap64; omega
            have u3 : wrap64 (-(m - 1)) = -(m - 1) := by unfold wrap64; omega
            have u4 : wrap64 (-(m - 1) - 1) = -(m - 1) - 1 := by unfold wrap64; omega
            go_wp2_with fail
            go_ret2
            exact ⟨by rw [HF.out, HV.out, HE.out, show -m = -(m - 1) - 1 by omega]; rfl, HB.out⟩
          · have HV := Lib.hid (fitV_no (s := -m) (by omega))
            have HE := Lib.hid (fitE_no (s := -m) (by omega))
            have d1 : decide (m ≤ 9223372036854775808) = false := by simp; omega
            go_wp2_with fail
            go_ret2
            exact ⟨by rw [HF.out, HV.out, HE.out]; rfl, HB.out⟩
end Go.Proofs.Ytebdlmjpgohngaa
