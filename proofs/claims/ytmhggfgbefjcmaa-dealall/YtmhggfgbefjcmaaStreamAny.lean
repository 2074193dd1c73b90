/-
  A STREAM AS A SOURCE, of whatever rounds: it hands out its key's numbers, and nothing but its own block turns. Conditions: the package's table of rounds holds nine numbers of 64 bits; fewer than 2^62 are taken.
-/
import Derived.Test.YtmhggfgbefjcmaaMixAny
namespace Go.Proofs.Ytmhggfgbefjcmaa
open Go.RowKit

/-- A key's i-th number. -/
def R3.at (r : R3) (k i : Int) : Int := r.mix (bits .xor .u64 k (r.mix i))

set_option maxHeartbeats 400000 in
theorem at_any (r : R3) (hok : r.ok) (k i : Int) (t : TypeId) (fr : Nat × Nat) (w : World) (hg : w.heap[0]? = some (.cells r.cells t fr)) :
    Calls Try.prog 75 #[.int .u64 k, .int .u64 i] w fun e w' => e = .returned (.int .u64 (r.at k i)) ∧ Below w.heap.size w w' := by
  have h0 : 0 < w.heap.size := (Array.getElem?_eq_some_iff.1 hg).1
  have HG := Lib.hid hg; clear hg
  go_enter Try.func75, Try.ntmps75
  go_wp2_with fail
  refine (mix_any r hok _ t fr _ HG.out).mono ?_
  rintro e w1 ⟨rfl, b1⟩
  go_wp2_with fail
  refine (mix_any r hok _ t fr _ (laid_below HG.out h0 b1)).mono ?_
  rintro e w2 ⟨rfl, b2'⟩
  have b2 := b1.trans (b2'.mono b1.size)
  go_wp2_with fail
  go_ret
  exact ⟨rfl, b2⟩

/-- A stream of a key lies at block b, of which t have been taken. -/
structure StreamAt (b : Nat) (k : Int) (t : Nat) (w : World) : Prop where
  lt : b < w.heap.size
  c0 : w.cell? ⟨b, 0, none⟩ = some (.int .u64 k)
  c1 : w.cell? ⟨b, 1, none⟩ = some (.int .u64 t)
  f1 : w.frozen? ⟨b, 1, none⟩ = false

theorem StreamAt.below {b : Nat} {k : Int} {t : Nat} {w w' : World} (h : StreamAt b k t w) (hb : Below w.heap.size w w') : StreamAt b k t w' :=
  ⟨Nat.lt_of_lt_of_le h.lt hb.size, (hb.cell (by exact h.lt)).trans h.c0, (hb.cell (by exact h.lt)).trans h.c1, (hb.frozen (by exact h.lt)).trans h.f1⟩
theorem StreamAt.but {b b' : Nat} {k : Int} {t : Nat} {w w' : World} (h : StreamAt b k t w) (hn : b ≠ b') (hb : But b' w w') : StreamAt b k t w' :=
  ⟨Nat.lt_of_lt_of_le h.lt hb.size, (hb.cell (by exact h.lt) (by exact hn)).trans h.c0, (hb.cell (by exact h.lt) (by exact hn)).trans h.c1, (hb.frozen (by exact h.lt) (by exact hn)).trans h.f1⟩
theorem StreamAt.made (w : World) (k : Int) : StreamAt w.heap.size k 0 (w.alloc (.cells #[.int .u64 k, .int .u64 0] 61)) :=
  ⟨by simp, by simp, by simp, by simp⟩
theorem StreamAt.next {b : Nat} {k : Int} {t : Nat} {w : World} (h : StreamAt b k t w) : StreamAt b k (t + 1) (w.setCell ⟨b, 1, none⟩ (.int .u64 ((t : Int) + 1))) := by
  refine ⟨by have := h.lt; simp [World.setCell]; omega, ?_, ?_, ?_⟩
  · rw [World.cell?_setCell_other _ _ _ _ (by simp)]; exact h.c0
  · exact (World.cell?_setCell_same _ _ _ h.c1).trans (by simp)
  · rw [World.frozen?_setCell]; exact h.f1

theorem new_any (k : Int) (w : World) :
    Calls Try.prog 18 #[.int .u64 k] w fun e w' => e = .returned (.pointer (some ⟨w.heap.size, 0, none⟩)) ∧ w.alloc (.cells #[.int .u64 k, .int .u64 0] 61) = w' := by
  go_enter Try.func18, Try.ntmps18
  go_wp2
  go_ret
  exact ⟨rfl, rfl⟩

theorem taken_any (b : Nat) (k : Int) (t : Nat) (w : World) (h : StreamAt b k t w) :
    Calls Try.prog 19 #[.pointer (some ⟨b, 0, none⟩)] w fun e w' => e = .returned (.int .u64 t) ∧ w = w' := by
  have c1 := h.c1
  go_enter Try.func19, Try.ntmps19
  go_wp2
  go_ret
  exact ⟨rfl, rfl⟩

set_option maxHeartbeats 400000 in
theorem next_any (r : R3) (hok : r.ok) (b : Nat) (k : Int) (n : Nat) (t : TypeId) (fr : Nat × Nat) (w : World) (hg : w.heap[0]? = some (.cells r.cells t fr)) (hn : n < 9223372036854775808) (h : StreamAt b k n w) :
    Calls Try.prog 74 #[.pointer (some ⟨b, 0, none⟩)] w fun e w' => e = .returned (.int .u64 (r.at k n)) ∧ StreamAt b k (n + 1) w' ∧ But b w w' := by
  have h0 : 0 < w.heap.size := (Array.getElem?_eq_some_iff.1 hg).1
  have c0 := h.c0
  have c1 := h.c1
  have HG := Lib.hid (show w.drew.heap[0]? = some (.cells r.cells t fr) from hg); clear hg
  have HS := Lib.hid (h.below (Below.refl _ _).drew)
  clear h
  go_enter Try.func74, Try.ntmps74
  go_wp2_with fail
  go_region_held3 (fun w' => w'.cell? ⟨b, 0, none⟩ = some (.int .u64 k) ∧ w'.cell? ⟨b, 1, none⟩ = some (.int .u64 n)) (first | exact ⟨c0, c1⟩ | exact ⟨d0, d1⟩)
    (first | (go_at_call 75; refine (at_any r hok _ _ t fr _ HG.out).mono ?_; rintro e w1 ⟨rfl, b1⟩; have hs := HS.out.below b1; have d0 := hs.c0; have d1 := hs.c1; have g1 := hs.f1; have hB := But.of_below (b := b) b1; have HS1 := Lib.hid hs; clear b1 hs))
  have hB2 := (But.refl b w).drew.trans hB
  clear hB
  go_wp2
  go_ret
  exact ⟨rfl, HS1.out.next, hB2.trans (But.setCell b 1 _ _)⟩

/-- A stream stands at its k-th number, and the rounds lie as they do. -/
def StreamS (r : R3) (t : TypeId) (fr : Nat × Nat) (b : Nat) (key : Int) (k : Nat) (w : World) : Prop := StreamAt b key k w ∧ w.heap[0]? = some (.cells r.cells t fr) ∧ 0 ≠ b

theorem stream_src (r : R3) (hok : r.ok) (t : TypeId) (fr : Nat × Nat) (b : Nat) (key : Int) : Src 40 (.pointer (some ⟨b, 0, none⟩)) 74 b 4611686018427387904 (StreamS r t fr b key) (fun k => r.at key k) :=
  ⟨fun _ => by kernel_rfl, fun _ => by kernel_rfl, fun k => r.mix_in _, fun k w hk h => by
    obtain ⟨h1, h2, h3⟩ := h
    refine (next_any r hok b key k t fr w h2 (by omega) h1).mono ?_
    rintro e w' ⟨he, h4, hB⟩
    exact ⟨he, ⟨h4, (hB.block _ (Array.getElem?_eq_some_iff.1 h2).1 h3).trans h2, h3⟩, hB⟩⟩

theorem stream_stays {r : R3} {t : TypeId} {fr : Nat × Nat} {b : Nat} {key : Int} {N : Nat} (hb : b < N) (hg : 0 < N) : Stays N (StreamS r t fr b key) := by
  intro k w w' ⟨h1, h2, h3⟩ hB
  exact ⟨⟨Nat.lt_of_lt_of_le h1.lt hB.size, (hB.cell (by exact hb)).trans h1.c0, (hB.cell (by exact hb)).trans h1.c1, (hB.frozen (by exact hb)).trans h1.f1⟩, (hB.block _ hg).trans h2, h3⟩
end Go.Proofs.Ytmhggfgbefjcmaa
