/-
  WHOLE: what the statement on parts that stand one behind the other answers. No condition.
-/
import Derived.Test.YtebdlmjpgohngaaShD
import Derived.Test.YtebdlmjpgohngaaHisN
import Derived.BigQuiet
namespace Go.Proofs.Ytebdlmjpgohngaa
open Go.RowKit

/-- What is said of two parts, one behind the other, of a row of parts. -/
structure Parts (f : Nat → Nat) (m k q : Nat) : Prop where
  zero : f 0 = 0
  all : f k = m
  le : ∀ i, f i ≤ m
  low : ∀ i, i < k → f i + q ≤ f (i + 1)
  high : ∀ i, i < k → f (i + 1) ≤ f i + q + 1
  less : ∀ i, i + 1 < k → f (i + 2) + f i ≤ f (i + 1) + f (i + 1)

theorem parts_are (m k : Nat) (hk : 0 < k) : Parts (cutF m k) m k (m / k) := by
  refine ⟨cutF_zero m k, cutF_all m k hk, cutF_le m k hk, fun i hi => ?_, fun i hi => ?_, fun i hi => ?_⟩
  · rw [cutF_step m k i hi]; omega
  · rw [cutF_step m k i hi]; split <;> omega
  · have a := cutF_step m k i (by omega)
    have b := cutF_step m k (i + 1) hi
    rw [show i + 2 = i + 1 + 1 from rfl]
    generalize m / k = q at *
    generalize cutF m k = f at *
    split at a <;> split at b <;> omega

/-- A block holds the parts. -/
structure PartsAt (g : Nat) (f : Nat → Nat) (K : Nat) (w : World) : Prop where
  lt : g < w.heap.size
  cells : ∀ i, i < K → w.cell? ⟨g, i * 2, none⟩ = some (.int .i64 (f i : Int)) ∧ w.cell? ⟨g, i * 2 + 1, none⟩ = some (.int .i64 (f (i + 1) : Int))
theorem PartsAt.below {g : Nat} {f : Nat → Nat} {K B : Nat} {w w' : World} (h : PartsAt g f K w) (b : Go.RowKit.Below B w w') (hB : g < B) : PartsAt g f K w' :=
  ⟨Nat.lt_of_lt_of_le h.lt b.size, fun i hi => ⟨(b.cell hB).trans (h.cells i hi).1, (b.cell hB).trans (h.cells i hi).2⟩⟩
theorem Lst.parts {g : Nat} {f : Nat → Nat} {K : Nat} {w : World} (h : Lst KN g 0 (spanL f K) w) : PartsAt g f K w := by
  refine ⟨h.lt, fun i hi => ?_⟩
  obtain ⟨e0, e1⟩ := spanL_at f K i hi
  have hl := spanL_len f K
  have c0 := h.cell (i * 2) (by omega)
  have c1 := h.cell (i * 2 + 1) (by omega)
  rw [Nat.zero_add] at c0 c1
  rw [show (spanL f K).getD (i * 2) KN.z = (f i : Int) from e0] at c0
  rw [show (spanL f K).getD (i * 2 + 1) KN.z = (f (i + 1) : Int) from e1] at c1
  exact ⟨c0, c1⟩

set_option maxRecDepth 20000 in
set_option maxHeartbeats 2000000 in
theorem whole_k (m p0 kk k : Nat) (hm : m < 4294967296) (hk : p0 % 64 = kk) (hkk : kk + 1 = k) (w : World) :
    Calls Try.prog 4 #[.int .u32 (m : Int), .int .u8 (p0 : Int)] w fun e w' => e = .returned (.bool true) ∧ Go.RowKit.Below w.heap.size w w' := by
  have hC := cut_any (m : Int) (k : Int) (by omega) w
  rw [show partsK (m : Int) (k : Int) = k by unfold partsK; rw [if_neg (by omega)]; rfl] at hC
  simp only [Int.toNat_natCast] at hC
  have HP := Lib.hid (parts_are m k (by omega))
  obtain ⟨q, hq⟩ : ∃ q : Nat, m / k = q := ⟨_, rfl⟩
  rw [hq] at HP
  have hqm : q ≤ m := by rw [← hq]; exact Nat.div_le_self _ _
  have hquo : Int.tdiv (m : Int) (k : Int) = (q : Int) := by rw [← hq]; rfl
  have hrem : Int.tmod (p0 : Int) 64 = (kk : Int) := by rw [← hk]; rfl
  generalize cutF m k = f at *
  have HM := Lib.hid (And.intro hm (And.intro hqm (And.intro hkk (show kk < 64 by omega))))
  have WM := Lib.hid (wrap_in (m : Int) (by omega) (by omega))
  have WK := Lib.hid (wrap_in (kk : Int) (by omega) (by omega))
  have Q1 := Lib.hid (wrap_in (q : Int) (by omega) (by omega))
  have Q2 := Lib.hid (wrap_in ((q : Int) + 1) (by omega) (by omega))
  have w1 : wrap64 (1 + (kk : Int)) = (k : Int) := by rw [wrap_in _ (by omega) (by omega)]; omega
  have w2 : wrap64 ((k : Int) - 1) = (kk : Int) := by rw [wrap_in _ (by omega) (by omega)]; omega
  have hpz : ¬ (k : Int) = 0 := by omega
  have i1 : (kk : Int) < (k : Int) := by omega
  have i2 : (0 : Int) < (k : Int) := by omega
  clear hm hqm hq hk hkk
  go_enter Try.func4, Try.ntmps4
  go_wp2_with fail
  rw [WM.out, WK.out, w1]
  refine hC.mono ?_
  rintro e w3 ⟨v, ⟨rfl, hv⟩, hb⟩
  obtain ⟨-, ⟨-, h0⟩ | ⟨g, cap, rfl, -, -, -, hl⟩⟩ := hv.lst
  · exact absurd h0 (by have := HM.out; omega)
  have HC := Lib.hid hl.parts
  have HB := Lib.hid hb
  have c0 := (HC.out.cells 0 (by have := HM.out; omega)).1
  have c1 := (HC.out.cells kk (by have := HM.out; omega)).2
  rw [HP.out.zero, Nat.zero_mul] at c0
  rw [HM.out.2.2.1, HP.out.all] at c1
  clear hv hl hb hC hrem
  go_wp2_with fail
  clear c0 c1 w2 w1
  have HQ := Lib.hid hquo
  clear hquo
  go_loopw [43] (fun c wr => ∃ (t : Nat), t ≤ k ∧ c = .int .i64 (t : Int) ∧ Hid (PartsAt g f k wr) ∧ Hid (Go.RowKit.Below w.heap.size w wr)) (fun c _ => k - (intOf c).toNat)
  case atStart => exact ⟨0, Nat.zero_le _, rfl, HC, HB⟩
  case round =>
    obtain ⟨t, ht, rfl, HC, HB⟩ := hrel
    by_cases hlt : t < k
    · have hlt2 : (t : Int) < (k : Int) := by omega
      have HT := Lib.hid hlt
      have HN := Lib.hid (next_num hlt (by have := HM.out; omega))
      have lo := HP.out.low t hlt
      have hi := HP.out.high t hlt
      have fm := HP.out.le (t + 1)
      obtain ⟨y, hy⟩ : ∃ y, f (t + 1) = y := ⟨_, rfl⟩
      obtain ⟨x, hx⟩ : ∃ x, f t = x := ⟨_, rfl⟩
      obtain ⟨c0, c1⟩ := HC.out.cells t hlt
      rw [hy] at c1 lo hi fm
      rw [hx] at c0 lo hi
      have hM := HM.out
      have lg := HC.out.lt
      obtain ⟨z, hz⟩ : ∃ z : Nat, z = y - x := ⟨_, rfl⟩
      have SZ := Lib.hid (show wrap64 ((y : Int) - (x : Int)) = (z : Int) by rw [wrap_in _ (by omega) (by omega)]; omega)
      have g1 : decide ((z : Int) < (q : Int)) = false := decide_eq_false (by omega)
      have g2 : decide ((q : Int) + 1 < (z : Int)) = false := decide_eq_false (by omega)
      have n1 : decide (z < q) = false := decide_eq_false (by omega)
      by_cases h0 : t = 0
      · have g0 : decide (0 < (t : Int)) = false := decide_eq_false (by omega)
        have n0 : decide (0 < t) = false := decide_eq_false (by omega)
        have b4 := alloc_below wr (.cells #[.int .i64 (x : Int), .int .i64 (y : Int)] 25)
        have e0 : (wr.alloc (.cells #[.int .i64 (x : Int), .int .i64 (y : Int)] 25)).cell? ⟨wr.heap.size, 0, none⟩ = some (.int .i64 (x : Int)) := by simp [go_sem]
        have e1 : (wr.alloc (.cells #[.int .i64 (x : Int), .int .i64 (y : Int)] 25)).cell? ⟨wr.heap.size, 1, none⟩ = some (.int .i64 (y : Int)) := by simp [go_sem]
        have P4 := Lib.hid (HC.out.below b4 lg)
        have B4 := Lib.hid (HB.out.trans (b4.mono HB.out.size))
        clear hlt ht lo hi fm hM hy hx hz b4 h0 lg
        go_wp2_with fail
        rw [SZ.out]
        obtain ⟨w4, hw4⟩ : ∃ w4, wr.alloc (.cells #[.int .i64 (x : Int), .int .i64 (y : Int)] 25) = w4 := ⟨_, rfl⟩
        rw [hw4] at P4 B4 e0 e1 ⊢
        clear hw4 c0 c1
        have q1 := Q1.out
        have q2 := Q2.out
        have hquo := HQ.out
        go_quiet (fail)
        clear q1 q2 hquo g0 g1 g2 n0 n1 e0 e1
        go_wp2_with fail
        go_roundw
        case rel => exact ⟨t + 1, HT.out, congrArg (Value.int .i64) HN.out.1, Lib.hid ⟨P4.out.lt, P4.out.cells⟩, Lib.hid (drawB B4.out _)⟩
        case measure => exact HN.out.2
      · have g0 : decide (0 < (t : Int)) = true := decide_eq_true (by omega)
        have n0 : decide (0 < t) = true := decide_eq_true (by omega)
        obtain ⟨t', ht'⟩ : ∃ t' : Nat, t' = t - 1 := ⟨_, rfl⟩
        have e2 : t' + 1 = t := by omega
        have hle := HP.out.less t' (by omega)
        have lo' := HP.out.low t' (by omega)
        have hi' := HP.out.high t' (by omega)
        rw [show t' + 2 = t + 1 by omega, e2, hy, hx] at hle
        rw [e2, hx] at lo' hi'
        obtain ⟨x', hx'⟩ : ∃ x', f t' = x' := ⟨_, rfl⟩
        rw [hx'] at hle lo' hi'
        have i3 : (t' : Int) < (k : Int) := by omega
        obtain ⟨p, hp⟩ : ∃ p : Nat, p = x - x' := ⟨_, rfl⟩
        have SP := Lib.hid (show wrap64 ((x : Int) - (x' : Int)) = (p : Int) by rw [wrap_in _ (by omega) (by omega)]; omega)
        have ST := Lib.hid (show wrap64 ((t : Int) - 1) = (t' : Int) by rw [wrap_in _ (by omega) (by omega)]; omega)
        have g3 : decide ((p : Int) < (z : Int)) = false := decide_eq_false (by omega)
        have n3 : decide (p < z) = false := decide_eq_false (by omega)
        have L5 := Lib.hid (show t' < k by omega)
        have X1 := Lib.hid (show f (t' + 1) = x by rw [e2]; exact hx)
        have X2 := Lib.hid hx'
        have b4 := alloc_below wr (.cells #[.int .i64 (x : Int), .int .i64 (y : Int)] 25)
        have e0 : (wr.alloc (.cells #[.int .i64 (x : Int), .int .i64 (y : Int)] 25)).cell? ⟨wr.heap.size, 0, none⟩ = some (.int .i64 (x : Int)) := by simp [go_sem]
        have e1 : (wr.alloc (.cells #[.int .i64 (x : Int), .int .i64 (y : Int)] 25)).cell? ⟨wr.heap.size, 1, none⟩ = some (.int .i64 (y : Int)) := by simp [go_sem]
        have P4 := Lib.hid (HC.out.below b4 lg)
        have B4 := Lib.hid (HB.out.trans (b4.mono HB.out.size))
        clear hlt ht lo hi fm hM hy hx hz b4 h0 lg hle lo' hi' e2 ht' hx' hp
        go_wp2_with fail
        rw [SZ.out]
        obtain ⟨w4, hw4⟩ : ∃ w4, wr.alloc (.cells #[.int .i64 (x : Int), .int .i64 (y : Int)] 25) = w4 := ⟨_, rfl⟩
        rw [hw4] at P4 B4 e0 e1 ⊢
        clear hw4 c0 c1
        obtain ⟨d0, d1⟩ := P4.out.cells t' L5.out
        rw [X2.out] at d0
        rw [X1.out] at d1
        have sp := SP.out
        have st := ST.out
        have q1 := Q1.out
        have q2 := Q2.out
        have hquo := HQ.out
        go_quiet (fail)
        clear d0 d1 sp st g3 n3 i3 q1 q2 hquo g0 g1 g2 n0 n1 e0 e1
        go_wp2_with fail
        go_roundw
        case rel => exact ⟨t + 1, HT.out, congrArg (Value.int .i64) HN.out.1, Lib.hid ⟨P4.out.lt, P4.out.cells⟩, Lib.hid (drawB B4.out _)⟩
        case measure => exact HN.out.2
    · have hlt2 : ¬ (t : Int) < (k : Int) := by omega
      clear hlt ht hpz
      go_wp2_with fail
      refine (fixed_any _).mono ?_
      rintro e w4 ⟨rfl, hb3⟩
      go_wp2_with fail
      go_ret
      exact ⟨rfl, HB.out.trans (hb3.mono HB.out.size)⟩

theorem whole_any (m p : Int) (h1 : 0 ≤ m) (h2 : m < 4294967296) (h3 : 0 ≤ p) (w : World) :
    Calls Try.prog 4 #[.int .u32 m, .int .u8 p] w fun e w' => e = .returned (.bool true) ∧ Go.RowKit.Below w.heap.size w w' := by
  obtain ⟨m, rfl⟩ : ∃ n : Nat, m = (n : Int) := ⟨m.toNat, by omega⟩
  obtain ⟨p, rfl⟩ : ∃ n : Nat, p = (n : Int) := ⟨p.toNat, by omega⟩
  exact whole_k m p (p % 64) (p % 64 + 1) (by omega) rfl rfl w
end Go.Proofs.Ytebdlmjpgohngaa
