/-
  THE DOCUMENT'S PRODUCT of two rows of digits: as many digits as both have, the product of the numbers. Condition: digits, no more than a hundred of each.
-/
import Derived.Test.YtebdlmjpgohngaaDigSum
namespace Go.Proofs.Ytebdlmjpgohngaa
open Go.RowKit

set_option maxRecDepth 20000 in
theorem run_madeU (w : World) (n : Nat) (hn : n ≤ 1000) : (Instr.makeSlice 102 (.int .i64 (n : Int)) (.int .i64 (n : Int))).run Try.prog w = .ok (.slice (some ⟨w.heap.size, 0, none⟩) n n) (w.alloc (.cells ((List.replicate n (0 : Int)).map (Value.int .u64)).toArray 99)) := by
  obtain ⟨i0, hi, hz0, hz1, hz2⟩ := info_parts infoU64
  have := run_make (P := Try.prog) w 102 99 i0 (.int .u64 0) Try.underlying102 hi hz0 .i64 .i64 (n : Int) (n : Int) (by omega) (by omega) (by rw [hz2]; omega) (by omega)
  rw [this, hz1]
  simp only [Int.toNat_natCast, Nat.mul_one]
  congr 3
  apply Array.ext
  · simp [madeCells]
  · intro k h1 h2
    simp [madeCells, Value.cells, Nat.mod_one]

theorem getD_set_ne {l : List Int} {i t : Nat} {x : Int} (h : i ≠ t) : (l.set i x).getD t 0 = l.getD t 0 := by
  simp [List.getD_eq_getElem?_getD, List.getElem?_set_ne h]

/-- One step of a round: what comes to the place i + k, and what is carried. -/
theorem mul_step {o b : List Int} {i k : Nat} {c x v0 : Int} (hk : k < b.length) (hi : i + k < o.length) (h : val o + c * 65536 ^ (i + k) = v0 + x * 65536 ^ i * val (b.take k)) :
    val (o.set (i + k) ((o.getD (i + k) 0 + x * b.getD k 0 + c) % 65536)) + (o.getD (i + k) 0 + x * b.getD k 0 + c) / 65536 * 65536 ^ (i + (k + 1)) = v0 + x * 65536 ^ i * val (b.take (k + 1)) := by
  rw [val_set _ _ _ hi, val_take b k hk, ← Nat.add_assoc, Int.pow_succ, Int.pow_add]
  rw [Int.pow_add] at h
  have e := Int.mul_ediv_add_emod (o.getD (i + k) 0 + x * b.getD k 0 + c) 65536
  generalize (o.getD (i + k) 0 + x * b.getD k 0 + c) / 65536 = q at *
  generalize (o.getD (i + k) 0 + x * b.getD k 0 + c) % 65536 = r at *
  generalize o.getD (i + k) 0 = y at *
  have e2 : c = 65536 * q + r - y - x * b.getD k 0 := by omega
  subst e2
  grind

/-- A round's end. -/
theorem mul_round {o a b : List Int} {i m : Nat} {c x v0 : Int} (hb : b.length = m) (hx : a.getD i 0 = x) (ha : i < a.length) (hi : i + m < o.length) (hz : o.getD (i + m) 0 = 0) (h0 : v0 = val (a.take i) * val b)
    (h : val o + c * 65536 ^ (i + m) = v0 + x * 65536 ^ i * val (b.take m)) : val (o.set (i + m) c) = val (a.take (i + 1)) * val b := by
  rw [val_set _ _ _ hi, hz, val_take a i ha, hx]
  rw [List.take_of_length_le (by omega)] at h
  subst h0
  grind

set_option maxRecDepth 100000 in
set_option maxHeartbeats 2000000 in
theorem prodRows_any (ga gb n m ca cb : Nat) (a b : List Int) (ha : a.length = n) (hb : b.length = m) (h8 : n ≤ 100) (h9 : m ≤ 100) (da : Dig a) (db : Dig b) (w : World) (na : Nums ga a w) (nb : Nums gb b w) :
    Calls Try.prog 59 #[.slice (some ⟨ga, 0, none⟩) n ca, .slice (some ⟨gb, 0, none⟩) m cb] w fun e w' => Got e w w' (n + m) (val a * val b) ∧ Below w.heap.size w w' := by
  have hmk := run_madeU w (n + m) (by omega)
  rw [show ((n + m : Nat) : Int) = (n : Int) + (m : Int) by omega] at hmk
  have wn : wrap64 ((n : Int) + (m : Int)) = (n : Int) + (m : Int) := by unfold wrap64; omega
  have HI := Lib.hid (Nums.made w (List.replicate (n + m) 0))
  have HB := Lib.hid (alloc_below w (.cells ((List.replicate (n + m) (0 : Int)).map (Value.int .u64)).toArray 99))
  generalize (Obj.cells ((List.replicate (n + m) (0 : Int)).map (Value.int .u64)).toArray 99) = ob at *
  go_enter Try.func59, Try.ntmps59
  go_wp2_with fail
  go_loopw [6] (fun i wr => ∃ (j : Nat) (o : List Int), j ≤ n ∧ i = .int .i64 j ∧ o.length = n + m ∧ Nums w.heap.size o wr ∧ Below w.heap.size w wr ∧ Hid (Dig o) ∧ Hid (val o = val (a.take j) * val b) ∧ Hid (∀ t, j + m ≤ t → t < n + m → o.getD t 0 = 0)) (fun i _ => n - (intOf i).toNat)
  case atStart => exact ⟨0, List.replicate (n + m) 0, by omega, rfl, by simp, HI.out, HB.out, dig_zeros _, by show _ = _; simp [val_zeros, val], fun t _ ht => by simp [List.getD_eq_getElem?_getD, ht]⟩
  case round =>
    obtain ⟨i, o, hi, rfl, ho, no, hB, HD, HV, HZ⟩ := hrel
    by_cases hlt : i < n
    · have i1 : (i : Int) < (n : Int) := by omega
      have dx := da i (by omega)
      obtain ⟨x, HX⟩ : ∃ x, Hid (a.getD i 0 = x) := ⟨_, rfl⟩
      rw [HX.out] at dx
      go_wp2_with fail
      generalize wr = w1 at *
      go_loopw [7, 8] (fun cv kv wi => ∃ (k : Nat) (c : Int) (q : List Int), k ≤ m ∧ kv = .int .i64 k ∧ cv = .int .u64 c ∧ 0 ≤ c ∧ c < 65536 ∧ q.length = n + m ∧ Nums w.heap.size q wi ∧ Below w.heap.size w wi ∧ Hid (Dig q) ∧ Hid (val q + c * 65536 ^ (i + k) = val o + x * 65536 ^ i * val (b.take k)) ∧ Hid (∀ t, i + m ≤ t → t < n + m → q.getD t 0 = 0)) (fun _ kv _ => m - (intOf kv).toNat)
      case atStart => exact ⟨0, 0, o, by omega, rfl, rfl, by omega, by omega, ho, no, hB, HD, by show _ = _; simp [val], HZ⟩
      case round =>
        obtain ⟨k, c, q, hk, rfl, rfl, hc0, hc1, hq, nq0, hB2, HD2, HV2, HZ2⟩ := hrel
        by_cases hkm : k < m
        · have k1 : (k : Int) < (m : Int) := by omega
          have hikq : i + k < q.length := by omega
          have cx := (na.below hB2).cell i (by omega)
          have cy := (nb.below hB2).cell k (by omega)
          have co := nq0.cell (i + k) (by omega)
          have fo := nq0.frozen (i + k) (by omega)
          have dy := db k (by omega)
          have dz := HD2.out (i + k) (by omega)
          have HM := Lib.hid (mul_step (by omega) (by omega) HV2.out)
          obtain ⟨y, HY⟩ : ∃ y, Hid (b.getD k 0 = y) := ⟨_, rfl⟩
          obtain ⟨z, HZZ⟩ : ∃ z, Hid (q.getD (i + k) 0 = z) := ⟨_, rfl⟩
          rw [HX.out] at cx
          rw [HY.out] at cy dy HM
          rw [HZZ.out] at co dz HM
          have hs := step_num dz dx dy ⟨hc0, hc1⟩
          have ik0 : (0 : Int) ≤ (i : Int) + (k : Int) := by omega
          have ik1 : (i : Int) + (k : Int) < ((n + m : Nat) : Int) := by omega
          have ik2 : (i : Int) + (k : Int) < (n : Int) + (m : Int) := by omega
          have ik3 : wrap64 ((i : Int) + (k : Int)) = (i : Int) + (k : Int) := by unfold wrap64; omega
          have u1 : IntKind.u64.wrap (x * y) = x * y := by rw [IntKind.wrap_u64]; omega
          have u2 : IntKind.u64.wrap (z + x * y) = z + x * y := by rw [IntKind.wrap_u64]; omega
          have u3 : IntKind.u64.wrap (z + x * y + c) = z + x * y + c := by rw [IntKind.wrap_u64]; omega
          obtain ⟨s, hS⟩ : ∃ s, z + x * y + c = s := ⟨_, rfl⟩
          rw [hS] at HM hs
          have s0 : 0 ≤ s := hs.2.2.1
          have s1 : s < 18446744073709551616 := by omega
          have HS : Hid (0 ≤ s % 65536 ∧ s % 65536 < 65536 ∧ 0 ≤ s / 65536 ∧ s / 65536 < 65536) := by show _ ∧ _; omega
          have u4 : IntKind.u64.wrap s = s := by rw [IntKind.wrap_u64]; omega
          have HS0 := Lib.hid s0
          have HS1 := Lib.hid s1
          have HN := Lib.hid nq0
          have HB3 := Lib.hid hB2
          have HKM := Lib.hid hkm
          have HQ := Lib.hid hq
          have HIK := Lib.hid hikq
          clear HV2 nq0 hs dx dy dz hB2 hc0 hc1 hq hikq s0 s1 hkm hk
          go_wp2_with fail
          go_quiet (fail)
          have HN2 : Hid (Nums w.heap.size q (wr.drewN nq)) := HN.out.drewN nq
          have HB4 := Lib.hid (drawn HB3.out nq)
          have co2 : (wr.drewN nq).cell? ⟨w.heap.size, i + k, none⟩ = some (.int .u64 z) := co
          have fo2 : (wr.drewN nq).frozen? ⟨w.heap.size, i + k, none⟩ = false := fo
          generalize wr.drewN nq = w2 at *
          have HN3 := Lib.hid (HN2.out.set (i + k) (s % 65536) HIK.out)
          have HB5 := Lib.hid (HB4.out.setCell (p := ⟨w.heap.size, i + k, none⟩) (Nat.le_refl _) (.int .u64 (s % 65536)))
          have s0 := HS0.out
          have s1 := HS1.out
          clear HN HB3 HN2 HB4 co fo cx cy u1 u2 u3 hS
          go_wp2_with fail
          go_roundw
          case rel =>
            have hkm := HKM.out
            refine ⟨k + 1, s / 65536, q.set (i + k) (s % 65536), by omega, by go_num, rfl, HS.out.2.2.1, HS.out.2.2.2, by rw [List.length_set]; exact HQ.out, HN3.out, HB5.out, HD2.out.set _ HS.out.1 HS.out.2.1, HM, fun t h1 h2 => ?_⟩
            exact (getD_set_ne (by omega : i + k ≠ t)).trans (HZ2.out t h1 h2)
          case measure => have hkm := HKM.out; simp [intOf]; omega
        · have hk2 : k = m := by omega
          subst hk2
          have i0 : i + k < q.length := by omega
          have ia : i < a.length := by omega
          have hz := HZ2.out (i + k) (by omega) (by omega)
          have co := nq0.cell (i + k) (by omega)
          have fo := nq0.frozen (i + k) (by omega)
          have HN := Lib.hid (nq0.set (i + k) c i0)
          have HB3 := Lib.hid (hB2.setCell (p := ⟨w.heap.size, i + k, none⟩) (Nat.le_refl _) (.int .u64 c))
          have HF := Lib.hid (mul_round hb HX.out ia i0 hz HV.out HV2.out)
          have ik0 : (0 : Int) ≤ (i : Int) + (k : Int) := by omega
          have ik1 : (i : Int) + (k : Int) < ((n + k : Nat) : Int) := by omega
          have ik2 : (i : Int) + (k : Int) < (n : Int) + (k : Int) := by omega
          have ik3 : wrap64 ((i : Int) + (k : Int)) = (i : Int) + (k : Int) := by unfold wrap64; omega
          rw [hz] at co
          have HC := Lib.hid (And.intro hc0 hc1)
          have HQ := Lib.hid hq
          have HLT := Lib.hid hlt
          clear HV2 nq0 hB2 hz hc0 hc1 hq dx hkm hk i0 ia hlt hi ho no hB
          go_wp2_with fail
          go_roundw
          case rel =>
            have hlt := HLT.out
            obtain ⟨hc0, hc1⟩ := HC.out
            have hq := HQ.out
            refine ⟨i + 1, q.set (i + k) c, by omega, by go_num, by rw [List.length_set]; exact hq, HN.out, HB3.out, HD2.out.set _ hc0 hc1, HF, fun t h1 h2 => ?_⟩
            exact (getD_set_ne (by omega : i + k ≠ t)).trans (HZ2.out t (by omega) h2)
          case measure => have hlt := HLT.out; simp [intOf]; omega
    · have hj2 : i = n := by omega
      subst hj2
      have HG : Hid (Got (.returned (.slice (some ⟨w.heap.size, 0, none⟩) (i + m) (i + m))) w wr (i + m) (val a * val b)) := ⟨w.heap.size, i + m, o, rfl, Nat.le_refl _, Nat.le_refl _, ho, HD.out, by rw [HV.out, List.take_of_length_le (by omega)], no⟩
      go_wp2_with fail
      go_ret
      exact ⟨HG.out, hB⟩
end Go.Proofs.Ytebdlmjpgohngaa
