/-
  CONFIG: Check: what is wrong with a config: the first field, in their order, that is below its least or above its most. No condition.
-/
import Derived.Test.YtebdlmjpgohngaaCfg
namespace Go.Proofs.Ytebdlmjpgohngaa
open Go.RowKit

/-- A config's numbers, and the fields' bytes, least, most, and what is told above, by their places. -/
def nf (k c b t d l p : Int) : Nat → Int | 0 => k | 1 => c | 2 => b | 3 => t | 4 => d | 5 => l | _ => p
def fB : Nat → Int | 0 => 1 | 1 => 2 | 2 => 2 | 3 => 2 | 4 => 1 | 5 => 4 | _ => 2
def fLo (x : Int) : Nat → Int | 0 => 0 | 1 => x | 2 => 2 | 3 => 1 | 4 => 0 | 5 => 1 | _ => 1
def fHi (y : Int) : Nat → Int | 0 => 1 | 1 => y | 2 => 256 | 3 => 4096 | 4 => 32 | 5 => 1048576 | _ => 1024
def fAb (z : Int) : Nat → Int | 0 => 3 | 1 => z | _ => 4
/-- What those from a place on tell. -/
def tl (k c b t d l p : Int) : Nat → Int
  | 0 => st k 0 1 3 (st c (cLo k) (cHi k) (cAb k) (st b 2 256 4 (st t 1 4096 4 (st d 0 32 4 (st l 1 1048576 4 (st p 1 1024 4 0))))))
  | 1 => st c (cLo k) (cHi k) (cAb k) (st b 2 256 4 (st t 1 4096 4 (st d 0 32 4 (st l 1 1048576 4 (st p 1 1024 4 0)))))
  | 2 => st b 2 256 4 (st t 1 4096 4 (st d 0 32 4 (st l 1 1048576 4 (st p 1 1024 4 0))))
  | 3 => st t 1 4096 4 (st d 0 32 4 (st l 1 1048576 4 (st p 1 1024 4 0)))
  | 4 => st d 0 32 4 (st l 1 1048576 4 (st p 1 1024 4 0))
  | 5 => st l 1 1048576 4 (st p 1 1024 4 0)
  | 6 => st p 1 1024 4 0
  | _ => 0
theorem tl_step (k c b t d l p : Int) (j : Nat) (h : j < 7) : tl k c b t d l p j = st (nf k c b t d l p j) (fLo (cLo k) j) (fHi (cHi k) j) (fAb (cAb k) j) (tl k c b t d l p (j + 1)) := by
  match j with
  | 0 => rfl
  | 1 => rfl
  | 2 => rfl
  | 3 => rfl
  | 4 => rfl
  | 5 => rfl
  | 6 => rfl
  | n + 7 => omega

theorem index_any (x y z : Int) (j : Nat) (h : j < 7) (w : World) : (Instr.index 94 (fieldsV x y z) (.int .i64 (j : Int))).run Try.prog w = .ok (.agg #[.int .i64 (fB j), .int .i64 (fLo x j), .int .i64 (fHi y j), .int .i64 (fAb z j)]) w := by
  match j with
  | 0 => show _ = _; kernel_rfl
  | 1 => show _ = _; kernel_rfl
  | 2 => show _ = _; kernel_rfl
  | 3 => show _ = _; kernel_rfl
  | 4 => show _ = _; kernel_rfl
  | 5 => show _ = _; kernel_rfl
  | 6 => show _ = _; kernel_rfl
  | n + 7 => omega

/-- Seven numbers lie in a block. -/
def Seven (N : Nat) (f : Nat → Int) (w : World) : Prop := N < w.heap.size ∧ ∀ j, j < 7 → w.cell? ⟨N, j, none⟩ = some (.int .i64 (f j))
theorem Seven.below {N B : Nat} {f : Nat → Int} {w w' : World} (h : Seven N f w) (b : Below B w w') (hB : N < B) : Seven N f w' :=
  ⟨Nat.lt_of_lt_of_le h.1 b.size, fun j hj => (b.cell (by exact hB)).trans (h.2 j hj)⟩
theorem Seven.new (k c b t d l p : Int) (w : World) (ty : TypeId) : Seven w.heap.size (nf k c b t d l p) (w.alloc (.cells #[.int .i64 k, .int .i64 c, .int .i64 b, .int .i64 t, .int .i64 d, .int .i64 l, .int .i64 p] ty)) := by
  refine ⟨by simp, fun j hj => ?_⟩
  match j with
  | 0 => simp [go_sem, nf]
  | 1 => simp [go_sem, nf]
  | 2 => simp [go_sem, nf]
  | 3 => simp [go_sem, nf]
  | 4 => simp [go_sem, nf]
  | 5 => simp [go_sem, nf]
  | 6 => simp [go_sem, nf]
  | n + 7 => omega

set_option maxHeartbeats 2000000 in
theorem check_any (k c b t d l p : Int) (w : World) :
    Calls Try.prog 29 #[cf k c b t d l p] w fun e w' => e = .returned (.int .i64 (chk k c b t d l p)) ∧ Below w.heap.size w w' := by
  have hn := numbers_any k c b t d l p
  have hf := fields_any k
  unfold cf at *
  have b0 := (Below.refl w.heap.size w).alloc (Nat.le_refl _) (.cells #[.int .i64 k, .int .i64 c, .int .i64 b, .int .i64 t, .int .i64 d, .int .i64 l, .int .i64 p] 31)
  have s0 : (w.alloc (.cells #[.int .i64 k, .int .i64 c, .int .i64 b, .int .i64 t, .int .i64 d, .int .i64 l, .int .i64 p] 31)).heap.size = w.heap.size + 1 := by simp
  have c0 : (w.alloc (.cells #[.int .i64 k, .int .i64 c, .int .i64 b, .int .i64 t, .int .i64 d, .int .i64 l, .int .i64 p] 31)).cell? ⟨w.heap.size, 0, none⟩ = some (.int .i64 k) := by simp [go_sem]
  go_enter Try.func29, Try.ntmps29
  go_wp2_with fail
  refine (hn _).mono ?_
  rintro e w1 ⟨rfl, b1⟩
  clear hn
  have s1 := b1.size
  have c1 := (b1.cell (p := ⟨w.heap.size, 0, none⟩) (by show w.heap.size < _; omega)).trans c0
  have b01 := b0.trans (b1.mono (by omega))
  have q1 := Seven.new k c b t d l p w1 90
  have b2 := (Below.refl w1.heap.size w1).alloc (Nat.le_refl _) (.cells #[.int .i64 k, .int .i64 c, .int .i64 b, .int .i64 t, .int .i64 d, .int .i64 l, .int .i64 p] 90)
  have c2 := (b2.cell (p := ⟨w.heap.size, 0, none⟩) (by show w.heap.size < _; omega)).trans c1
  have b02 := b01.trans (b2.mono (by omega))
  clear b0 s0 c0 b1 c1 b01 b2
  go_wp2_with fail
  refine (hf _).mono ?_
  rintro e w2 ⟨rfl, b3⟩
  have q2 := q1.below b3 q1.1
  have b03 := b02.trans (b3.mono (by have := b02.size; omega))
  have HK : Hid (chk k c b t d l p = tl k c b t d l p 0) := rfl
  obtain ⟨N, hN⟩ : ∃ N, w1.heap.size = N := ⟨_, rfl⟩
  rw [hN] at q2 ⊢
  clear hf q1 b02 b3 c2 s1 hN
  have hx := index_any (cLo k) (cHi k) (cAb k)
  have hs := tl_step k c b t d l p
  generalize fieldsV (cLo k) (cHi k) (cAb k) = FV at *
  generalize fLo (cLo k) = lo at *
  generalize fHi (cHi k) = hi at *
  generalize fAb (cAb k) = ab at *
  generalize nf k c b t d l p = nn at *
  have t7 : Hid (tl k c b t d l p 7 = 0) := rfl
  generalize tl k c b t d l p = tt at *
  go_wp2_with fail
  go_loopw [11] (fun v11 wr => ∃ j : Nat, j ≤ 7 ∧ v11 = .int .i64 (j : Int) ∧ Hid (chk k c b t d l p = tt j) ∧ Below w2.heap.size w2 wr) (fun v11 _ => 7 - (intOf v11).toNat)
  case atStart => exact ⟨0, by omega, rfl, HK, Below.refl _ _⟩
  case round =>
    obtain ⟨j, hj, rfl, HJ, bel⟩ := hrel
    by_cases hlt : j < 7
    · have i1 : (j : Int) < 7 := by omega
      have hxj := hx j hlt
      have q3 := q2.below bel q2.1
      have ba := (Below.refl wr.heap.size wr).alloc (Nat.le_refl _) (.cells #[.int .i64 (fB j), .int .i64 (lo j), .int .i64 (hi j), .int .i64 (ab j)] 93)
      have cn := (q3.below ba q3.1).2 j hlt
      have HE := Lib.hid (HJ.out.trans (hs j hlt))
      have HB := Lib.hid (b03.trans ((bel.trans (ba.mono bel.size)).mono b03.size))
      have HBL := Lib.hid (bel.trans (ba.mono bel.size))
      generalize fB j = fb at *
      generalize lo j = x at *
      generalize hi j = y at *
      generalize ab j = z at *
      generalize nn j = n at *
      clear hx hs q2 q3 ba bel b03 HK HJ t7
      by_cases h1 : n < x
      · have HR : Hid (chk k c b t d l p = 3) := HE.out.trans (if_pos h1)
        clear HE
        go_wp2_with fail
        go_quiet (fail)
        go_wp2_with fail
        go_ret
        exact ⟨by rw [HR.out]; rfl, by first | exact HB.out | exact below_drewN HB.out _⟩
      · by_cases h2 : y < n
        · have HR : Hid (chk k c b t d l p = z) := HE.out.trans ((if_neg h1).trans (if_pos h2))
          clear HE
          go_wp2_with fail
          go_quiet (fail)
          go_wp2_with fail
          go_quiet (fail)
          go_wp2_with fail
          go_ret
          exact ⟨by rw [HR.out]; rfl, by first | exact HB.out | exact below_drewN HB.out _⟩
        · have HR : Hid (chk k c b t d l p = tt (j + 1)) := HE.out.trans ((if_neg h1).trans (if_neg h2))
          clear HE
          go_wp2_with fail
          go_quiet (fail)
          go_wp2_with fail
          go_quiet (fail)
          go_wp2_with fail
          go_roundw
          case rel => exact ⟨j + 1, by omega, by go_num, HR, below_drewN HBL.out _⟩
          case measure => simp [intOf]; omega
    · have i1 : ¬ (j : Int) < 7 := by omega
      obtain rfl : j = 7 := by omega
      have HR := Lib.hid (HJ.out.trans t7.out)
      have HB := Lib.hid (b03.trans (bel.mono b03.size))
      clear hx hs q2 bel b03 HK HJ t7
      go_wp2_with fail
      go_ret
      exact ⟨by rw [HR.out]; rfl, by first | exact HB.out | exact below_drewN HB.out _⟩
end Go.Proofs.Ytebdlmjpgohngaa
