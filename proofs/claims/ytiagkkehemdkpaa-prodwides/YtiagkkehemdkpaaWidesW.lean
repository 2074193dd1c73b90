/-
  ProdWides' walk: products, sums and order of wide numbers, and long products and their order, are the document's. Condition: each number is of 64 bits.
-/
import Derived.Test.YtiagkkehemdkpaaRefAdd
import Derived.Test.YtiagkkehemdkpaaTimesAt
import Derived.Deep.DeepCutAuto
namespace Go.Proofs.Ytiagkkehemdkpaa
open Go.RowKit

theorem held4 {X Y : World} {a b : Nat} {ah al bh bl : Int} (hA : At2 a ah al X) (hB : At2 b bh bl X) (h : Below X.heap.size X Y) :
    (Y.cell? ⟨a, 0, none⟩ = some (.int .u64 ah) ∧ Y.cell? ⟨a, 1, none⟩ = some (.int .u64 al)) ∧ (Y.cell? ⟨b, 0, none⟩ = some (.int .u64 bh) ∧ Y.cell? ⟨b, 1, none⟩ = some (.int .u64 bl)) :=
  ⟨⟨(hA.below h).c0, (hA.below h).c1⟩, (hB.below h).c0, (hB.below h).c1⟩
theorem drewB {w0 w : World} (h : Below w0.heap.size w0 w) : Below w0.heap.size w0 w.drew := h.drew

/-- The six variables of the law. -/
structure All6 (a b g1 g3 gx gy : Nat) (ah al bh bl s0 s1 x0 x1 x2 y0 y1 y2 : Int) (w0 w : World) : Prop where
  A : At2 a ah al w
  B : At2 b bh bl w
  S : At2 g1 s0 s1 w
  T : At2 g3 s0 s1 w
  X : At3 gx x0 x1 x2 w
  Y : At3 gy y0 y1 y2 w
  bel : Below w0.heap.size w0 w
theorem All6.below {a b g1 g3 gx gy : Nat} {ah al bh bl s0 s1 x0 x1 x2 y0 y1 y2 : Int} {w0 w w' : World} (h : All6 a b g1 g3 gx gy ah al bh bl s0 s1 x0 x1 x2 y0 y1 y2 w0 w) (c : Below w.heap.size w w') : All6 a b g1 g3 gx gy ah al bh bl s0 s1 x0 x1 x2 y0 y1 y2 w0 w' :=
  ⟨h.A.below c, h.B.below c, h.S.below c, h.T.below c, h.X.below c, h.Y.below c, onto h.bel c⟩
theorem All6.cells {a b g1 g3 gx gy : Nat} {ah al bh bl s0 s1 x0 x1 x2 y0 y1 y2 : Int} {w0 w : World} (h : All6 a b g1 g3 gx gy ah al bh bl s0 s1 x0 x1 x2 y0 y1 y2 w0 w) :
    (w.cell? ⟨a, 0, none⟩ = some (.int .u64 ah) ∧ w.cell? ⟨a, 1, none⟩ = some (.int .u64 al)) ∧ (w.cell? ⟨b, 0, none⟩ = some (.int .u64 bh) ∧ w.cell? ⟨b, 1, none⟩ = some (.int .u64 bl)) ∧
    (w.cell? ⟨g1, 0, none⟩ = some (.int .u64 s0) ∧ w.cell? ⟨g1, 1, none⟩ = some (.int .u64 s1)) ∧ (w.cell? ⟨g3, 0, none⟩ = some (.int .u64 s0) ∧ w.cell? ⟨g3, 1, none⟩ = some (.int .u64 s1)) ∧
    (w.cell? ⟨gx, 0, none⟩ = some (.int .u64 x0) ∧ w.cell? ⟨gx, 1, none⟩ = some (.int .u64 x1) ∧ w.cell? ⟨gx, 2, none⟩ = some (.int .u64 x2)) ∧
    (w.cell? ⟨gy, 0, none⟩ = some (.int .u64 y0) ∧ w.cell? ⟨gy, 1, none⟩ = some (.int .u64 y1) ∧ w.cell? ⟨gy, 2, none⟩ = some (.int .u64 y2)) :=
  ⟨⟨h.A.c0, h.A.c1⟩, ⟨h.B.c0, h.B.c1⟩, ⟨h.S.c0, h.S.c1⟩, ⟨h.T.c0, h.T.c1⟩, ⟨h.X.c0, h.X.c1, h.X.c2⟩, h.Y.c0, h.Y.c1, h.Y.c2⟩

set_option maxRecDepth 100000 in
set_option maxHeartbeats 8000000 in
theorem wides_any (ah al bh bl n : Int) (h1 : Word ah) (h2 : Word al) (h3 : Word bh) (h4 : Word bl) (h5 : Word n) (w : World) :
    Calls Try.prog 3 #[.agg #[.int .u64 ah, .int .u64 al], .agg #[.int .u64 bh, .int .u64 bl], .int .u64 n] w fun e w' => e = .returned (.bool true) ∧ Below w.heap.size w w' := by
  obtain ⟨T, HT⟩ : ∃ T, Hid (ah * 18446744073709551616 + al + (bh * 18446744073709551616 + bl) = T) := ⟨_, rfl⟩
  obtain ⟨xA, xB, b0⟩ := boxes2 w ah al bh bl _ rfl
  go_enter Try.func3, Try.ntmps3
  go_wp2_with fail
  generalize (w.alloc (.cells #[.int .u64 ah, .int .u64 al] 24)).alloc (.cells #[.int .u64 bh, .int .u64 bl] 24) = W at *
  refine (add_any _ _ _ _ h1 h2 h3 h4 _).mono ?_
  rintro e w1 ⟨rfl, c1⟩
  rw [HT.out]
  have xA1 := (xA.below c1).alloc (.cells #[.int .u64 (sHi T), .int .u64 (sLo T)] 24)
  have xB1 := (xB.below c1).alloc (.cells #[.int .u64 (sHi T), .int .u64 (sLo T)] 24)
  have b1 := more (onto b0 c1) (.cells #[.int .u64 (sHi T), .int .u64 (sLo T)] 24)
  have s1 := At2.new w1 (sHi T) (sLo T)
  clear xA xB b0 c1
  have k0 := xA1.c0
  have k1 := xA1.c1
  have k2 := xB1.c0
  have k3 := xB1.c1
  go_wp2_with fail
  generalize w1.alloc (.cells #[.int .u64 (sHi T), .int .u64 (sLo T)] 24) = w2 at *
  generalize w1.heap.size = g1 at *
  refine (refAdd_any _ _ _ _ h1 h2 h3 h4 _).mono ?_
  rintro e w3 ⟨rfl, c3⟩
  rw [HT.out]
  have xA3 := (xA1.below c3).alloc (.cells #[.int .u64 (sHi T), .int .u64 (sLo T)] 24)
  have xB3 := (xB1.below c3).alloc (.cells #[.int .u64 (sHi T), .int .u64 (sLo T)] 24)
  have b3 := more (onto b1 c3) (.cells #[.int .u64 (sHi T), .int .u64 (sLo T)] 24)
  have s3 := (s1.below c3).alloc (.cells #[.int .u64 (sHi T), .int .u64 (sLo T)] 24)
  have t3 := At2.new w3 (sHi T) (sLo T)
  clear k0 k1 k2 k3 xA1 xB1 b1 s1 c3
  go_upto_region 3 with fail
  generalize w3.alloc (.cells #[.int .u64 (sHi T), .int .u64 (sLo T)] 24) = w4 at *
  generalize w3.heap.size = g3 at *
  have HB := Lib.hid b3
  have HS := Lib.hid s3
  have HT3 := Lib.hid t3
  clear b3 s3 t3
  go_cut [11, 12] (fun s11 s12 wx => ∃ gx gy : Nat, s11 = .pointer (some ⟨gx, 0, none⟩) ∧ s12 = .pointer (some ⟨gy, 0, none⟩) ∧
    At3 gx (p0 ((ah * 18446744073709551616 + al) * n)) (p1 ((ah * 18446744073709551616 + al) * n)) (p2 ((ah * 18446744073709551616 + al) * n)) wx ∧
    At3 gy (p0 ((bh * 18446744073709551616 + bl) * al)) (p1 ((bh * 18446744073709551616 + bl) * al)) (p2 ((bh * 18446744073709551616 + bl) * al)) wx ∧ Below w4.heap.size w4 wx)
  case first =>
    go_region_held3 (fun w' => (w'.cell? ⟨w.heap.size, 0, none⟩ = some (.int .u64 ah) ∧ w'.cell? ⟨w.heap.size, 1, none⟩ = some (.int .u64 al)) ∧ (w'.cell? ⟨w.heap.size + 1, 0, none⟩ = some (.int .u64 bh) ∧ w'.cell? ⟨w.heap.size + 1, 1, none⟩ = some (.int .u64 bl))) ((refine held4 xA3 xB3 ?_; repeat (with_reducible (first | exact Below.refl _ _ | refine drewB ?_ | refine more ?_ _ | refine drawn ?_ _))))
      ((go_at_call 10; refine (times_at _ _ _ (by assumption) (by assumption) (by assumption) _).mono ?_; rintro e w' ⟨rfl, o1, o2, o3, o4, o5, o6, rfl⟩))
    all_goals
      go_wp2_with fail
      go_meet
      refine ⟨_, _, rfl, rfl, ?_, ?_, ?_⟩
      · exact ⟨by simp <;> omega, by simp [go_sem, World.cell?_alloc_past], by simp [go_sem, World.cell?_alloc_past], by simp [go_sem, World.cell?_alloc_past]⟩
      · exact ⟨by simp <;> omega, by simp [go_sem, World.cell?_alloc_past], by simp [go_sem, World.cell?_alloc_past], by simp [go_sem, World.cell?_alloc_past]⟩
      · repeat (with_reducible (first | exact Below.refl _ _ | refine drewB ?_ | refine more ?_ _ | refine drawn ?_ _))
  case rest =>
    obtain ⟨gx, gy, rfl, rfl, x4, y4, c4⟩ := hcut
    have q0 : All6 w.heap.size (w.heap.size + 1) g1 g3 gx gy ah al bh bl (sHi T) (sLo T) (p0 ((ah * 18446744073709551616 + al) * n)) (p1 ((ah * 18446744073709551616 + al) * n)) (p2 ((ah * 18446744073709551616 + al) * n)) (p0 ((bh * 18446744073709551616 + bl) * al)) (p1 ((bh * 18446744073709551616 + bl) * al)) (p2 ((bh * 18446744073709551616 + bl) * al)) w wc := ⟨xA3.below c4, xB3.below c4, HS.out.below c4, HT3.out.below c4, x4, y4, onto HB.out c4⟩
    have q := q0.below (drewB (Below.refl _ wc))
    have hx : ∀ (a b c : Int) (w' : World), (Op.equalIn 10000 30 (.agg #[.int .u64 a, .int .u64 b, .int .u64 c]) (.agg #[.int .u64 a, .int .u64 b, .int .u64 c])).run Try.prog w' = .ok true w' := fun a b c w' => by
      rw [eq3]
      simp
    clear xA3 xB3 HS HT3 HB x4 y4 c4 HT
    go_wp2_with fail
    go_region_held3 (fun w' => (w'.cell? ⟨w.heap.size, 0, none⟩ = some (.int .u64 ah) ∧ w'.cell? ⟨w.heap.size, 1, none⟩ = some (.int .u64 al)) ∧ (w'.cell? ⟨w.heap.size + 1, 0, none⟩ = some (.int .u64 bh) ∧ w'.cell? ⟨w.heap.size + 1, 1, none⟩ = some (.int .u64 bl)) ∧
        (w'.cell? ⟨g1, 0, none⟩ = some (.int .u64 (sHi T)) ∧ w'.cell? ⟨g1, 1, none⟩ = some (.int .u64 (sLo T))) ∧ (w'.cell? ⟨g3, 0, none⟩ = some (.int .u64 (sHi T)) ∧ w'.cell? ⟨g3, 1, none⟩ = some (.int .u64 (sLo T))) ∧
        (w'.cell? ⟨gx, 0, none⟩ = some (.int .u64 (p0 ((ah * 18446744073709551616 + al) * n))) ∧ w'.cell? ⟨gx, 1, none⟩ = some (.int .u64 (p1 ((ah * 18446744073709551616 + al) * n))) ∧ w'.cell? ⟨gx, 2, none⟩ = some (.int .u64 (p2 ((ah * 18446744073709551616 + al) * n)))) ∧
        (w'.cell? ⟨gy, 0, none⟩ = some (.int .u64 (p0 ((bh * 18446744073709551616 + bl) * al))) ∧ w'.cell? ⟨gy, 1, none⟩ = some (.int .u64 (p1 ((bh * 18446744073709551616 + bl) * al))) ∧ w'.cell? ⟨gy, 2, none⟩ = some (.int .u64 (p2 ((bh * 18446744073709551616 + bl) * al))))) (first | exact q.cells | exact q0.cells)
      (first
        | (go_at_call 11; refine (fixed_any _).mono ?_; rintro e w' ⟨rfl, c⟩; replace q := q.below c; clear c)
        | (go_at_call 12; refine (mul_any _ _ (by assumption) (by assumption) _).mono ?_; rintro e w' ⟨rfl, c⟩; replace q := q.below c; clear c)
        | (go_at_call 13; refine (refMul_any _ _ (by assumption) (by assumption) _).mono ?_; rintro e w' ⟨rfl, c⟩; replace q := q.below c; clear c)
        | (go_at_call 14; refine (cmp_any _ _ _ _ (by assumption) (by assumption) _).mono ?_; rintro e w' ⟨rfl, c⟩; replace q := q.below c; clear c)
        | (go_at_call 15; refine (refCmp_any _ _ _ _ (by assumption) (by assumption) (by assumption) (by assumption) _).mono ?_; rintro e w' ⟨rfl, c⟩; replace q := q.below c; clear c)
        | (go_at_call 16; refine (refTimes_any _ _ _ (by assumption) (by assumption) (by assumption) _).mono ?_; rintro e w' ⟨rfl, c⟩; replace q := q.below c; clear c)
        | (go_at_call 17; refine (cmpLong_any _ _ _ _ _ _ _).mono ?_; rintro e w' ⟨rfl, c⟩; replace q := q.below c; clear c)
        | (go_at_call 18; refine (refCmpLong_any _ _ _ _ _ _ _).mono ?_; rintro e w' ⟨rfl, c⟩; replace q := q.below c; clear c))
    go_wp2_with fail
    go_ret
    exact ⟨rfl, q.bel⟩
end Go.Proofs.Ytiagkkehemdkpaa
