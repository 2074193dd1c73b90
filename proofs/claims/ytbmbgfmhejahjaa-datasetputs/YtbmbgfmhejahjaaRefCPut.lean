/-
  The document's Put of a config: its bytes as a text, nothing if it may not be. No condition.
-/
import Derived.Test.YtbmbgfmhejahjaaRefCheck
import Derived.Test.YtbmbgfmhejahjaaCNum
namespace Go.Proofs.Ytbmbgfmhejahjaa
open Go.RowKit

/-- Seven numbers in a block, and what was there ahead of all as it was. -/
structure On7 (N : Nat) (f : Nat → Int) (w0 w : World) : Prop where
  sv : Seven N f w
  bel : Below w0.heap.size w0 w
theorem On7.below {N : Nat} {f : Nat → Int} {w0 w w' : World} (h : On7 N f w0 w) (c : Below w.heap.size w w') : On7 N f w0 w' := ⟨h.sv.below c h.sv.1, h.bel.trans (c.mono h.bel.size)⟩
theorem On7.drew {N : Nat} {f : Nat → Int} {w0 w : World} (h : On7 N f w0 w) : On7 N f w0 w.drew := h.below (Below.refl _ w).drew

set_option maxHeartbeats 4000000 in
theorem refCPut_some (k c b t d l p : Nat) (hz : chk k c b t d l p = 0) (w : World) :
    Calls Try.prog 26 #[cf k c b t d l p] w fun e w' => e = .returned (.string (sb (cb k c b t d l p))) ∧ Below w.heap.size w w' := by
  have hk := refCheck_any k c b t d l p
  rw [hz] at hk
  obtain ⟨z0, z1, z2, z3, z4, z5, z6, z7, z8, z9, z10⟩ := chk_ok hz
  have p0 := refPut_any 1 k (by omega)
  rw [show cnt 1 = 1 from rfl] at p0
  have v0 : IntKind.u64.wrap (k : Int) = (k : Int) := by rw [IntKind.wrap_u64]; omega
  have s0 : (sb (bts k 1)).size = 1 := by rw [sb_size, bts_len]
  have p1 := refPut_any 2 c (by omega)
  rw [show cnt 2 = 2 from rfl] at p1
  have v1 : IntKind.u64.wrap (c : Int) = (c : Int) := by rw [IntKind.wrap_u64]; omega
  have s1 : (sb (bts c 2)).size = 2 := by rw [sb_size, bts_len]
  have p2 := refPut_any 2 b (by omega)
  rw [show cnt 2 = 2 from rfl] at p2
  have v2 : IntKind.u64.wrap (b : Int) = (b : Int) := by rw [IntKind.wrap_u64]; omega
  have s2 : (sb (bts b 2)).size = 2 := by rw [sb_size, bts_len]
  have p3 := refPut_any 2 t (by omega)
  rw [show cnt 2 = 2 from rfl] at p3
  have v3 : IntKind.u64.wrap (t : Int) = (t : Int) := by rw [IntKind.wrap_u64]; omega
  have s3 : (sb (bts t 2)).size = 2 := by rw [sb_size, bts_len]
  have p4 := refPut_any 1 d (by omega)
  rw [show cnt 1 = 1 from rfl] at p4
  have v4 : IntKind.u64.wrap (d : Int) = (d : Int) := by rw [IntKind.wrap_u64]; omega
  have s4 : (sb (bts d 1)).size = 1 := by rw [sb_size, bts_len]
  have p5 := refPut_any 4 l (by omega)
  rw [show cnt 4 = 4 from rfl] at p5
  have v5 : IntKind.u64.wrap (l : Int) = (l : Int) := by rw [IntKind.wrap_u64]; omega
  have s5 : (sb (bts l 4)).size = 4 := by rw [sb_size, bts_len]
  have p6 := refPut_any 2 p (by omega)
  rw [show cnt 2 = 2 from rfl] at p6
  have v6 : IntKind.u64.wrap (p : Int) = (p : Int) := by rw [IntKind.wrap_u64]; omega
  have s6 : (sb (bts p 2)).size = 2 := by rw [sb_size, bts_len]
  have HS : Hid (sb (cb k c b t d l p) = sb (bts k 1) ++ sb (bts c 2) ++ sb (bts b 2) ++ sb (bts t 2) ++ sb (bts d 1) ++ sb (bts l 4) ++ sb (bts p 2)) := by
    show _ = _
    have e1 : cb k c b t d l p = [] ++ bts (u64 (k : Int)) 1 ++ bts (u64 (c : Int)) 2 ++ bts (u64 (b : Int)) 2 ++ bts (u64 (t : Int)) 2 ++ bts (u64 (d : Int)) 1 ++ bts (u64 (l : Int)) 4 ++ bts (u64 (p : Int)) 2 := rfl
    rw [e1, List.nil_append, show u64 (k : Int) = k from by rw [u64_of _ (by omega) (by omega)]; rfl, show u64 (c : Int) = c from by rw [u64_of _ (by omega) (by omega)]; rfl, show u64 (b : Int) = b from by rw [u64_of _ (by omega) (by omega)]; rfl, show u64 (t : Int) = t from by rw [u64_of _ (by omega) (by omega)]; rfl, show u64 (d : Int) = d from by rw [u64_of _ (by omega) (by omega)]; rfl, show u64 (l : Int) = l from by rw [u64_of _ (by omega) (by omega)]; rfl, show u64 (p : Int) = p from by rw [u64_of _ (by omega) (by omega)]; rfl]
    simp only [sb_append]
  unfold cf at *
  generalize sb (bts k 1) = S0 at *
  generalize sb (bts c 2) = S1 at *
  generalize sb (bts b 2) = S2 at *
  generalize sb (bts t 2) = S3 at *
  generalize sb (bts d 1) = S4 at *
  generalize sb (bts l 4) = S5 at *
  generalize sb (bts p 2) = S6 at *
  have n1 : ¬ 9223372036854775807 < S0.size + S1.size := by omega
  have n2 : ¬ 9223372036854775807 < S0.size + S1.size + S2.size := by omega
  have n3 : ¬ 9223372036854775807 < S0.size + S1.size + S2.size + S3.size := by omega
  have n4 : ¬ 9223372036854775807 < S0.size + S1.size + S2.size + S3.size + S4.size := by omega
  have n5 : ¬ 9223372036854775807 < S0.size + S1.size + S2.size + S3.size + S4.size + S5.size := by omega
  have n6 : ¬ 9223372036854775807 < S0.size + S1.size + S2.size + S3.size + S4.size + S5.size + S6.size := by omega
  have b0 := (Below.refl w.heap.size w).alloc (Nat.le_refl _) (.cells #[.int .i64 k, .int .i64 c, .int .i64 b, .int .i64 t, .int .i64 d, .int .i64 l, .int .i64 p] 23)
  have q0 : On7 w.heap.size (nf k c b t d l p) w _ := ⟨Seven.new k c b t d l p w 23, b0⟩
  clear z0 z1 z2 z3 z4 z5 z6 z7 z8 z9 z10 hz b0 s0 s1 s2 s3 s4 s5 s6
  go_enter Try.func26, Try.ntmps26
  go_wp2_with fail
  generalize w.alloc (.cells #[.int .i64 k, .int .i64 c, .int .i64 b, .int .i64 t, .int .i64 d, .int .i64 l, .int .i64 p] 23) = w0 at *
  obtain ⟨N, hN⟩ : ∃ N, w.heap.size = N := ⟨_, rfl⟩
  have HN := Lib.hid hN
  rw [hN] at q0 ⊢
  clear hN
  refine (hk _).mono ?_
  rintro e w1 ⟨rfl, b1⟩
  replace q0 := q0.below b1
  clear hk b1
  go_wp2_with fail
  have q := q0.drew
  go_region_held3 (fun w' => w'.cell? ⟨N, 0, none⟩ = some (.int .i64 (k : Int)) ∧ w'.cell? ⟨N, 1, none⟩ = some (.int .i64 (c : Int)) ∧ w'.cell? ⟨N, 2, none⟩ = some (.int .i64 (b : Int)) ∧ w'.cell? ⟨N, 3, none⟩ = some (.int .i64 (t : Int)) ∧ w'.cell? ⟨N, 4, none⟩ = some (.int .i64 (d : Int)) ∧ w'.cell? ⟨N, 5, none⟩ = some (.int .i64 (l : Int)) ∧ w'.cell? ⟨N, 6, none⟩ = some (.int .i64 (p : Int))) (first | exact q.sv.cells | exact q0.sv.cells)
    (first
      | (go_at_call 27; refine (p0 _).mono ?_; rintro x w' ⟨rfl, c⟩; replace q := q.below c; clear c p0)
      | (go_at_call 27; refine (p1 _).mono ?_; rintro x w' ⟨rfl, c⟩; replace q := q.below c; clear c p1)
      | (go_at_call 27; refine (p2 _).mono ?_; rintro x w' ⟨rfl, c⟩; replace q := q.below c; clear c p2)
      | (go_at_call 27; refine (p3 _).mono ?_; rintro x w' ⟨rfl, c⟩; replace q := q.below c; clear c p3)
      | (go_at_call 27; refine (p4 _).mono ?_; rintro x w' ⟨rfl, c⟩; replace q := q.below c; clear c p4)
      | (go_at_call 27; refine (p5 _).mono ?_; rintro x w' ⟨rfl, c⟩; replace q := q.below c; clear c p5)
      | (go_at_call 27; refine (p6 _).mono ?_; rintro x w' ⟨rfl, c⟩; replace q := q.below c; clear c p6))
  go_wp2_with fail
  go_ret
  exact ⟨by rw [HS.out]; rfl, q.bel⟩

set_option maxHeartbeats 2000000 in
theorem refCPut_any (k c b t d l p : Int) (w : World) :
    Calls Try.prog 26 #[cf k c b t d l p] w fun e w' => e = .returned (.string (sb (cbs k c b t d l p))) ∧ Below w.heap.size w w' := by
  by_cases hz : chk k c b t d l p = 0
  · obtain ⟨z0, z1, z2, z3, z4, z5, z6, z7, z8, z9, z10⟩ := chk_ok hz
    rw [show cbs k c b t d l p = cb k c b t d l p from if_pos hz]
    obtain ⟨k, rfl⟩ := Int.eq_ofNat_of_zero_le (show 0 ≤ k by omega)
    obtain ⟨c, rfl⟩ := Int.eq_ofNat_of_zero_le (show 0 ≤ c by omega)
    obtain ⟨b, rfl⟩ := Int.eq_ofNat_of_zero_le (show 0 ≤ b by omega)
    obtain ⟨t, rfl⟩ := Int.eq_ofNat_of_zero_le (show 0 ≤ t by omega)
    obtain ⟨d, rfl⟩ := Int.eq_ofNat_of_zero_le (show 0 ≤ d by omega)
    obtain ⟨l, rfl⟩ := Int.eq_ofNat_of_zero_le (show 0 ≤ l by omega)
    obtain ⟨p, rfl⟩ := Int.eq_ofNat_of_zero_le (show 0 ≤ p by omega)
    exact refCPut_some k c b t d l p hz w
  · have HC : Hid (cbs k c b t d l p = []) := if_neg hz
    have g : (chk k c b t d l p != 0) = true := by simpa using hz
    have hk := refCheck_any k c b t d l p
    unfold cf at *
    have b0 := (Below.refl w.heap.size w).alloc (Nat.le_refl _) (.cells #[.int .i64 k, .int .i64 c, .int .i64 b, .int .i64 t, .int .i64 d, .int .i64 l, .int .i64 p] 23)
    clear hz
    generalize chk k c b t d l p = CK at *
    go_enter Try.func26, Try.ntmps26
    go_wp2_with fail
    refine (hk _).mono ?_
    rintro e w1 ⟨rfl, b1⟩
    have HB := Lib.hid (b0.trans (b1.mono b0.size))
    clear hk b0 b1
    go_wp2_with fail
    go_ret
    exact ⟨by rw [HC.out]; rfl, HB.out⟩
end Go.Proofs.Ytbmbgfmhejahjaa
