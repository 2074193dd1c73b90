/-
  mix AND stream, OF WHATEVER ROUNDS: Mix, At and a stream's Next answer a number of 64 bits that the rounds make of what they are handed, and turn no memory that was there but the stream's own. Conditions: the package's table of rounds holds nine numbers of 64 bits.
-/
import Derived.Test.YtmhggfgbefjcmaaDealFix
namespace Go.Proofs.Ytmhggfgbefjcmaa
open Go.RowKit

/-- Three rounds: by how many bits, by what, and what undoes it. -/
structure R3 where
  s0 : Int
  f0 : Int
  u0 : Int
  s1 : Int
  f1 : Int
  u1 : Int
  s2 : Int
  f2 : Int
  u2 : Int
def R3.cells (r : R3) : Array Value := #[.int .u64 r.s0, .int .u64 r.f0, .int .u64 r.u0, .int .u64 r.s1, .int .u64 r.f1, .int .u64 r.u1, .int .u64 r.s2, .int .u64 r.f2, .int .u64 r.u2]
/-- The shifts are not below 0. -/
def R3.ok (r : R3) : Prop := 0 ≤ r.s0 ∧ 0 ≤ r.s1 ∧ 0 ≤ r.s2

/-- One step. -/
def stG (s f z : Int) : Int := IntKind.u64.wrap (bits .xor .u64 z (z / 2 ^ min s.toNat 64) * f)
def R3.mix (r : R3) (x : Int) : Int := stG r.s2 r.f2 (stG r.s1 r.f1 (stG r.s0 r.f0 (IntKind.u64.wrap (x + 11400714819323198485))))

theorem wrap_in (x : Int) : 0 ≤ IntKind.u64.wrap x ∧ IntKind.u64.wrap x < 18446744073709551616 := by rw [IntKind.wrap_u64]; omega
theorem R3.mix_in (r : R3) (x : Int) : 0 ≤ r.mix x ∧ r.mix x < 18446744073709551616 := wrap_in _

/-- What a step leaves: the captured cell holds the new number, nothing below its block has turned. -/
structure Stepped (b : Nat) (z : Int) (w w' : World) : Prop where
  below : Below b w w'
  cell : w'.cell? ⟨b, 0, none⟩ = some (.int .u64 z)
  frozen : w'.frozen? ⟨b, 0, none⟩ = false

theorem stepped_mk (b : Nat) (z z' : Int) (w : World) (o : Obj) (hb : b < w.heap.size) (hc : w.cell? ⟨b, 0, none⟩ = some (.int .u64 z)) (hf : w.frozen? ⟨b, 0, none⟩ = false) :
    Stepped b z' w ((w.setCell ⟨b, 0, none⟩ (.int .u64 z')).alloc o) := by
  refine ⟨((Below.refl b w).setCell (p := ⟨b, 0, none⟩) (Nat.le_refl _) _).alloc (by simp; omega) _, ?_, ?_⟩
  · rw [World.cell?_alloc_past _ _ _ (by simp [World.setCell]; omega)]
    exact World.cell?_setCell_same _ _ _ hc
  · rw [World.frozen?_alloc_past _ _ _ (by simp [World.setCell]; omega), World.frozen?_setCell]
    exact hf
theorem Stepped.past {b : Nat} {z' : Int} {w w' : World} {o : Obj} (hb : b < w.heap.size) (h : Stepped b z' (w.alloc o) w') : Below b w w' :=
  ((Below.refl b w).alloc (by omega) o).trans h.below

set_option maxHeartbeats 400000 in
theorem step_any (s f u z : Int) (hs : 0 ≤ s) (b : Nat) (w : World) (hb : b < w.heap.size) (hc : w.cell? ⟨b, 0, none⟩ = some (.int .u64 z)) (hf : w.frozen? ⟨b, 0, none⟩ = false) :
    Calls Try.prog 78 #[.agg #[.int .u64 s, .int .u64 f, .int .u64 u], .pointer (some ⟨b, 0, none⟩)] w fun e w' => e = .returned (.tuple #[]) ∧ Stepped b (stG s f z) w w' := by
  have hk := stepped_mk b z
  go_enter Try.func78, Try.ntmps78
  go_wp2
  go_end0
  exact ⟨rfl, hk _ _ _ hb hc hf⟩

theorem g0 (r : R3) (w : World) : (Instr.index 108 (.agg r.cells) (.int .i64 0)).run Try.prog w = .ok (.agg #[.int .u64 r.s0, .int .u64 r.f0, .int .u64 r.u0]) w := by kernel_rfl
theorem g1 (r : R3) (w : World) : (Instr.index 108 (.agg r.cells) (.int .i64 1)).run Try.prog w = .ok (.agg #[.int .u64 r.s1, .int .u64 r.f1, .int .u64 r.u1]) w := by kernel_rfl
theorem g2 (r : R3) (w : World) : (Instr.index 108 (.agg r.cells) (.int .i64 2)).run Try.prog w = .ok (.agg #[.int .u64 r.s2, .int .u64 r.f2, .int .u64 r.u2]) w := by kernel_rfl

set_option maxHeartbeats 1000000 in
theorem first_any (r : R3) (hok : r.ok) (z : Int) (b : Nat) (t : TypeId) (fr : Nat × Nat) (w : World) (hg : w.heap[0]? = some (.cells r.cells t fr)) (hb : b < w.heap.size) (hc : w.cell? ⟨b, 0, none⟩ = some (.int .u64 z)) (hf : w.frozen? ⟨b, 0, none⟩ = false) :
    Calls Try.prog 77 #[.func (.func 78) #[] #[.pointer (some ⟨b, 0, none⟩)]] w fun e w' => e = .returned (.tuple #[]) ∧ Stepped b (stG r.s2 r.f2 (stG r.s1 r.f1 (stG r.s0 r.f0 z))) w w' := by
  have i0 := g0 r
  have i1 := g1 r
  have i2 := g2 r
  obtain ⟨k0, k1, k2⟩ := hok
  go_enter Try.func77, Try.ntmps77
  go_wp2_with (refine wpList_load_row rfl 108 _ rfl 0 rfl t _ fr _ hg Try.underlying108 rfl (by kernel_rfl) ?_)
  clear hg
  refine wp_loop_rounds 4 ?_
  rw [rounds_succ]
  go_wp2_with fail
  refine (step_any r.s0 _ _ z k0 b _ (by simp; omega) (by rw [World.cell?_alloc_past _ _ _ hb]; exact hc) (by rw [World.frozen?_alloc_past _ _ _ hb]; exact hf)).mono ?_
  rintro e w1 ⟨rfl, h1⟩
  have b1 := h1.past hb
  have c1 := h1.cell
  have f1 := h1.frozen
  have s1 : b < w1.heap.size := Nat.lt_of_lt_of_le hb b1.size
  clear h1
  go_wp2_with fail
  rw [rounds_succ]
  go_wp2_with fail
  refine (step_any r.s1 _ _ _ k1 b _ (by simp; omega) (by rw [World.cell?_alloc_past _ _ _ s1]; exact c1) (by rw [World.frozen?_alloc_past _ _ _ s1]; exact f1)).mono ?_
  rintro e w2 ⟨rfl, h2⟩
  have b2 := h2.past s1
  have c2 := h2.cell
  have f2 := h2.frozen
  have s2 : b < w2.heap.size := Nat.lt_of_lt_of_le s1 b2.size
  clear h2
  go_wp2_with fail
  rw [rounds_succ]
  go_wp2_with fail
  refine (step_any r.s2 _ _ _ k2 b _ (by simp; omega) (by rw [World.cell?_alloc_past _ _ _ s2]; exact c2) (by rw [World.frozen?_alloc_past _ _ _ s2]; exact f2)).mono ?_
  rintro e w3 ⟨rfl, h3⟩
  have b3 := h3.past s2
  have c3 := h3.cell
  have f3 := h3.frozen
  clear h3
  go_wp2_with fail
  rw [rounds_succ]
  go_wp2_with fail
  go_end0
  exact ⟨rfl, (b1.trans b2).trans b3, c3, f3⟩

theorem laid_below {B : Nat} {w w' : World} {cs : Array Value} {t : TypeId} {fr : Nat × Nat} (hg : w.heap[0]? = some (.cells cs t fr)) (hB : 0 < B) (h : Below B w w') : w'.heap[0]? = some (.cells cs t fr) :=
  (h.block 0 hB).trans hg

set_option maxHeartbeats 400000 in
theorem mix_any (r : R3) (hok : r.ok) (x : Int) (t : TypeId) (fr : Nat × Nat) (w : World) (hg : w.heap[0]? = some (.cells r.cells t fr)) :
    Calls Try.prog 76 #[.int .u64 x] w fun e w' => e = .returned (.int .u64 (r.mix x)) ∧ Below w.heap.size w w' := by
  have hmf : ∀ (fn : Fn) (first cap : Array Value) (w : World), (Instr.makeFunc fn first cap).run Try.prog w = .ok (.func fn first cap) w := fun _ _ _ _ => rfl
  have h0 : 0 < w.heap.size := (Array.getElem?_eq_some_iff.1 hg).1
  have HG := Lib.hid hg; clear hg
  go_enter Try.func76, Try.ntmps76
  go_wp2_with fail
  refine (first_any r hok _ w.heap.size t fr _ ((Below.heap_alloc _ _ _ h0).trans HG.out) (by simp) (by simp; rfl) (by simp)).mono ?_
  rintro e w1 ⟨rfl, h1⟩
  have b1 : Below w.heap.size w w1 := ((Below.refl _ w).alloc (Nat.le_refl _) _).trans h1.below
  have c1 := h1.cell
  clear h1
  go_wp2_with fail
  go_ret
  exact ⟨rfl, b1⟩
end Go.Proofs.Ytmhggfgbefjcmaa
