/-
  THE DOCUMENT'S SUM of two rows of digits: one digit more, the sum of the numbers. Condition: digits, as many of each.
-/
import Derived.Test.YtebdlmjpgohngaaDigCmp
namespace Go.Proofs.Ytebdlmjpgohngaa
open Go.RowKit

/-- One step of the sum. -/
theorem sum_step {o a b : List Int} {j : Nat} {c : Int} (ha : j < a.length) (hb : j < b.length) (hj : o.length = j) (h : val o + c * 65536 ^ j = val (a.take j) + val (b.take j)) :
    val (o ++ [(a.getD j 0 + b.getD j 0 + c) % 65536]) + (a.getD j 0 + b.getD j 0 + c) / 65536 * 65536 ^ (j + 1) = val (a.take (j + 1)) + val (b.take (j + 1)) := by
  rw [val_append, val_take a j ha, val_take b j hb, hj]
  simp only [val, Int.pow_succ]
  have e := Int.mul_ediv_add_emod (a.getD j 0 + b.getD j 0 + c) 65536
  generalize (a.getD j 0 + b.getD j 0 + c) / 65536 = q at *
  generalize (a.getD j 0 + b.getD j 0 + c) % 65536 = r at *
  have e2 : c = 65536 * q + r - a.getD j 0 - b.getD j 0 := by omega
  subst e2
  grind

set_option maxHeartbeats 1000000 in
theorem sum_any (ga gb n ca cb : Nat) (a b : List Int) (ha : a.length = n) (hb : b.length = n) (h8 : n ≤ 100) (da : Dig a) (db : Dig b) (w : World) (na : Nums ga a w) (nb : Nums gb b w) :
    Calls Try.prog 57 #[.slice (some ⟨ga, 0, none⟩) n ca, .slice (some ⟨gb, 0, none⟩) n cb] w fun e w' => Got e w w' (n + 1) (val a + val b) ∧ Below w.heap.size w w' := by
  go_enter Try.func57, Try.ntmps57
  go_wp2_with fail
  go_loopw [5, 6, 7] (fun v cv i wr => ∃ (j g cap : Nat) (c : Int) (o : List Int), j ≤ n ∧ i = .int .i64 j ∧ cv = .int .u64 c ∧ 0 ≤ c ∧ c ≤ 1 ∧ v = .slice (some ⟨g, 0, none⟩) j cap ∧ OwnRow wr w.heap.size (.slice (some ⟨g, 0, none⟩) j cap) o ∧ o.length = j ∧ Hid (Dig o) ∧ Hid (val o + c * 65536 ^ j = val (a.take j) + val (b.take j)) ∧ Below w.heap.size w wr) (fun _ _ i _ => n - (intOf i).toNat)
  case atStart => exact ⟨0, w.heap.size, 0, 0, [], by omega, rfl, rfl, by omega, by omega, rfl, OwnRow.start w _ (Nat.le_refl _), rfl, Dig.nil, by show _ = _; simp [val], alloc_below _ _⟩
  case round =>
    obtain ⟨j, g, cap, c, o, hj, rfl, rfl, hc0, hc1, rfl, own, ho, HD, HV, hB⟩ := hrel
    have hsz := hB.size
    by_cases hlt : j < n
    · have c1 := (na.below hB).cell j (by omega)
      have c2 := (nb.below hB).cell j (by omega)
      have d1 := da j (by omega)
      have d2 := db j (by omega)
      have HV2 := Lib.hid (sum_step (by omega) (by omega) ho HV.out)
      obtain ⟨x, HX⟩ : ∃ x, Hid (a.getD j 0 = x) := ⟨_, rfl⟩
      obtain ⟨y, HY⟩ : ∃ y, Hid (b.getD j 0 = y) := ⟨_, rfl⟩
      rw [HX.out] at c1 d1 HV2
      rw [HY.out] at c2 d2 HV2
      have j1 : (j : Int) < (n : Int) := by omega
      have u1 : IntKind.u64.wrap (x + y) = x + y := by rw [IntKind.wrap_u64]; omega
      have u2 : IntKind.u64.wrap (x + y + c) = x + y + c := by rw [IntKind.wrap_u64]; omega
      obtain ⟨z, hz⟩ : ∃ z, x + y + c = z := ⟨_, rfl⟩
      have z0 : 0 ≤ z := by omega
      have z1 : z < 18446744073709551616 := by omega
      have HZ : Hid (0 ≤ z % 65536 ∧ z % 65536 < 65536 ∧ 0 ≤ z / 65536 ∧ z / 65536 ≤ 1) := by show _ ∧ _; omega
      rw [hz] at HV2
      clear HV
      go_wp2_with fail
      go_quiet (fail)
      have own2 : OwnRow (wr.drewN nq) w.heap.size (.slice (some ⟨g, 0, none⟩) j cap) o := own
      have hB2 := drawn hB nq
      have hsz2 := hB2.size
      generalize wr.drewN nq = w2 at *
      clear own hB c1 c2
      go_wp2_with (at_builtin; refine app_row rfl _ _ rfl w.heap.size (by simp; omega) (.slice (some ⟨g, 0, none⟩) j cap) o rfl (own2.alloc _) _ 1 1 [z % 65536] rfl (Came.new _) (by simp; omega) ?_)
      intro v' w' own3 hb3
      have b3 := (more hB2 (.cells #[.int .u64 (z % 65536)] 99)).trans hb3
      have hl3 : (o ++ [z % 65536]).length = j + 1 := by simp [ho]
      obtain ⟨_, h1⟩ | ⟨g', cap', rfl, _, _, _, _⟩ := own3.nums
      · simp at h1
      rw [hl3] at own3 ⊢
      have HD2 : Hid (Dig (o ++ [z % 65536])) := HD.out.append (Dig.nil.cons HZ.out.1 HZ.out.2.1)
      clear own2 hB2 hb3 hsz hsz2
      go_wp2_with fail
      go_roundw
      case rel => exact ⟨j + 1, g', cap', z / 65536, o ++ [z % 65536], by omega, by go_num, rfl, HZ.out.2.2.1, HZ.out.2.2.2, rfl, own3, hl3, HD2, HV2, b3⟩
      case measure => simp [intOf]; omega
    · have hj2 : j = n := by omega
      subst hj2
      have HA : Hid (val (o ++ [c]) = val a + val b) := by
        have := HV.out
        show _ = _
        rw [List.take_of_length_le (by omega), List.take_of_length_le (by omega)] at this
        rw [val_append, ho, ← this]
        simp [val]
        exact Int.mul_comm _ _
      go_wp2_with (at_builtin; refine app_row rfl _ _ rfl w.heap.size (by simp; omega) (.slice (some ⟨g, 0, none⟩) j cap) o rfl (own.alloc _) _ 1 1 [c] rfl (Came.new _) (by simp; omega) ?_)
      intro v' w' own3 hb3
      have b3 := (more hB (.cells #[.int .u64 c] 99)).trans hb3
      have hl3 : (o ++ [c]).length = j + 1 := by simp [ho]
      obtain ⟨_, h1⟩ | ⟨g', cap', rfl, hg, hcap, _, hN⟩ := own3.nums
      · simp at h1
      rw [hl3] at own3 hcap ⊢
      have HG : Hid (Got (.returned (.slice (some ⟨g', 0, none⟩) (j + 1) cap')) w w' (j + 1) (val a + val b)) := ⟨g', cap', o ++ [c], rfl, hcap, hg, hl3, HD.out.append (Dig.nil.cons hc0 (by omega)), HA.out, hN⟩
      clear own hB hb3 hsz own3 hN HA
      go_wp2_with fail
      go_ret
      exact ⟨HG.out, b3⟩
end Go.Proofs.Ytebdlmjpgohngaa
