/-
  ROWS OF NUMBERS OF 64 BITS: what a slice that came in, or one of the call's own, holds; what an append onto a row of the call's own leaves. Condition: no more than 1000 numbers.
-/
import Derived.Test.YtebdlmjpgohngaaRows
import Derived.WalkKit
import Derived.WalkSpells
import Derived.WalkLawsBesides
import Derived.Lib.Hide
namespace Go.Proofs.Ytebdlmjpgohngaa
open Go.RowKit

theorem ret_int {k : IntKind} {a b : Int} (h : a = b) : Ending.returned (.int k a) = .returned (.int k b) := by rw [h]

/-- Some cells, one behind the other, hold these numbers. -/
def Row (w : World) (b off : Nat) (zs : List Int) : Prop := ∀ j, j < zs.length → w.cell? ⟨b, off + j, none⟩ = some (.int .u64 (zs.getD j 0))

/-- These numbers lie where a slice leads to. -/
def HoldsRow (w : World) (a : Option Addr) (l : List Int) : Prop := l = [] ∨ ∃ b off, a = some ⟨b, off, none⟩ ∧ b < w.heap.size ∧ Row w b off l

theorem HoldsRow.below {w w' : World} {a : Option Addr} {l : List Int} (h : HoldsRow w a l) (hb : Below w.heap.size w w') : HoldsRow w' a l := by
  rcases h with h | ⟨b, off, ha, hlt, hr⟩
  · exact .inl h
  · exact .inr ⟨b, off, ha, Nat.lt_of_lt_of_le hlt hb.size, fun j hj => (hb.cell (by exact hlt)).trans (hr j hj)⟩

theorem infoU64 : (Try.prog.info? 99).map (fun i => (i.zero, i.size, i.bytes)) = some (some (.int .u64 0), 1, 8) := by kernel_rfl

/-- What a slice that comes in holds: it is nil, or its numbers lie where it leads to. -/
def Came (w : World) (a : Option Addr) (n cap : Nat) (l : List Int) : Prop :=
  (a = none ∧ n = 0 ∧ cap = 0 ∧ l = []) ∨ ((∃ ad, a = some ad) ∧ l.length = n ∧ HoldsRow w a l)

theorem Came.row {w : World} {a : Option Addr} {n cap : Nat} {l : List Int} (h : Came w a n cap l) : l.length = n ∧ HoldsRow w a l := by
  rcases h with ⟨_, rfl, _, rfl⟩ | ⟨_, hl, hr⟩
  · exact ⟨rfl, .inl rfl⟩
  · exact ⟨hl, hr⟩
theorem Came.below {w w' : World} {B : Nat} {a : Option Addr} {n cap : Nat} {l : List Int} (h : Came w a n cap l) (hB : w.heap.size ≤ B) (hb : Below B w w') : Came w' a n cap l := by
  rcases h with h | ⟨h1, h2, h3⟩
  · exact .inl h
  · exact .inr ⟨h1, h2, h3.below (hb.mono hB)⟩
theorem Came.new {w : World} (x : Int) : Came (w.alloc (.cells #[.int .u64 x] 99)) (some ⟨w.heap.size, 0, none⟩) 1 1 [x] := by
  refine .inr ⟨⟨_, rfl⟩, rfl, .inr ⟨w.heap.size, 0, rfl, by simp, fun j hj => ?_⟩⟩
  have : j = 0 := by simp at hj; omega
  subst this
  simp

/-- A row of the call's own holds these numbers. -/
def OwnRow (w : World) (B : Nat) (v : Value) (l : List Int) : Prop := w.ownsRow B 99 1 v l.length (l.map (Value.int .u64))

theorem OwnRow.slice {w : World} {B : Nat} {v : Value} {l : List Int} (h : OwnRow w B v l) : ∃ a cap, v = .slice a l.length cap ∧ (l = [] ∨ ∃ g off, a = some ⟨g, off, none⟩ ∧ g < w.heap.size ∧ B ≤ g ∧ Row w g off l) := by
  obtain ⟨h1, ⟨rfl, h0⟩ | ⟨g, cap, cur, rfl, hB, hg, hc, hm, hs, ht⟩⟩ := h
  · exact ⟨none, 0, by rw [h0], .inl (List.eq_nil_of_length_eq_zero h0)⟩
  · refine ⟨_, cap, rfl, .inr ⟨g, 0, rfl, (Array.getElem?_eq_some_iff.1 hg).1, hB, fun j hj => ?_⟩⟩
    have e : (cur.toList.take (l.length * 1))[j]? = (l.map (Value.int .u64))[j]? := by rw [ht]
    rw [List.getElem?_take] at e
    simp only [Nat.mul_one, hj, if_true, List.getElem?_map, Array.getElem?_toList] at e
    simp only [World.cell?, hg, Nat.zero_add]
    simp [e, hj]

theorem OwnRow.start (w : World) (B : Nat) (hB : B ≤ w.heap.size) : OwnRow (w.alloc (.cells #[] 99)) B (.slice (some ⟨w.heap.size, 0, none⟩) 0 0) [] :=
  World.ownsRow_made w #[] 0 hB (Nat.zero_le _) rfl
theorem OwnRow.nil (w : World) (B : Nat) : OwnRow w B (.slice none 0 0) [] := ⟨rfl, .inl ⟨rfl, rfl⟩⟩
theorem OwnRow.alloc {w : World} {B : Nat} {v : Value} {l : List Int} (h : OwnRow w B v l) (o : Obj) : OwnRow (w.alloc o) B v l := World.ownsRow.alloc h o
theorem OwnRow.setCell {w : World} {B : Nat} {v : Value} {l : List Int} (h : OwnRow w B v l) {p : Addr} (hp : p.block < B) (u : Value) : OwnRow (w.setCell p u) B v l := ownsRow_setCell_below h hp u

theorem app_row {w : World} {ops : Array Oper} {rest : List Oper} {o : Oper} {a : Act} {Q : Exit → Act → World → Prop} (hw : Region.wanted o (yielded ops a.tmps) = true) (s x : Operand)
    (ho : o.op = .call { callee := .builtin .append, args := #[s, x], argTypes := #[102, 102] }) (B : Nat) (hB : B ≤ w.heap.size) (v : Value) (l : List Int) (hs : a.eval s = v) (hown : OwnRow w B v l)
    (A : Option Addr) (m c : Nat) (k : List Int) (hx : a.eval x = .slice A m c) (hk : Came w A m c k) (hm : l.length + k.length ≤ 1000)
    (h : ∀ v' w', OwnRow w' B v' (l ++ k) → Below B w w' → wpList Try.prog ops Q rest (a.put o.dst v') w') : wpList Try.prog ops Q (o :: rest) a w := by
  obtain ⟨i0, hi, hz0, hz1, hz2⟩ := info_parts infoU64
  refine wpList_step fun K hK => ?_
  rw [if_pos hw]
  rcases hk with ⟨rfl, rfl, rfl, rfl⟩ | ⟨⟨ad, rfl⟩, hl, hr⟩
  · have hrun := run_append_owned_none (P := Try.prog) (w := w) B 102 o.type 99 i0 1 Try.underlying102 hi v _ _ hown
    unfold Oper.wp
    simp [execOp, ho, resolve, invoke, builtin, hs, hx, hrun, Result.andThen]
    exact hK _ _ (h v w (by rw [List.append_nil]; exact hown) (Below.refl _ _))
  · refine wp_append_own w s x 102 ho B 99 i0 _ 1 8 Try.underlying102 hi hz0 hz1 hz2 rfl (by decide) v _ _ hs hown ad m c (k.map (Value.int .u64)) hx (by simp [hl]) ?_ ?_ (by unfold maxLen; omega) (by omega) hB ?_
    · intro j u hu
      have hj : j < k.length := by
        rcases Nat.lt_or_ge j k.length with h' | h'
        · exact h'
        · rw [List.getElem?_eq_none (by simpa using h')] at hu; cases hu
      rcases hr with rfl | ⟨b, off, e, hb, hr⟩
      · simp at hj
      · obtain rfl := Option.some.inj e
        rw [Go.WideShapes.add_plain, hr j hj]
        simp [hj] at hu ⊢
        exact hu
    · intro u hu
      obtain ⟨z, _, rfl⟩ := List.mem_map.1 hu
      rfl
    · intro v' w' h2 h3 _
      refine hK _ _ (h v' w' ?_ ?_)
      · unfold OwnRow
        rw [List.length_append, List.map_append, hl]; exact h2
      · exact (Below.refl B w).grown h3 hB (fun g hg => (World.ownsRow.lt hown g hg).1)
end Go.Proofs.Ytebdlmjpgohngaa
