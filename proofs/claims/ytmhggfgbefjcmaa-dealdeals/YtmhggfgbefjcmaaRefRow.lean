/-
  THE DOCUMENT'S OWN ROW 0, 1, .., and what an append onto a row of integers of the call's own leaves. Condition: no more than 1000 integers.
-/
import Derived.Test.YtmhggfgbefjcmaaDealFix
namespace Go.Proofs.Ytmhggfgbefjcmaa
open Go.RowKit

theorem OwnI.start (w : World) (B : Nat) (hB : B ≤ w.heap.size) : OwnI (w.alloc (.cells #[] 3)) B (.slice (some ⟨w.heap.size, 0, none⟩) 0 0) [] :=
  World.ownsRow_made w #[] 0 hB (Nat.zero_le _) rfl
theorem OwnI.alloc {w : World} {B : Nat} {v : Value} {l : List Int} (h : OwnI w B v l) (o : Obj) : OwnI (w.alloc o) B v l := World.ownsRow.alloc h o

/-- What is appended: the integers that a slice leads to. -/
def CameI (w : World) (a : Option Addr) (n : Nat) (l : List Int) : Prop := (∃ ad, a = some ad) ∧ l.length = n ∧ HoldsI w a l
theorem CameI.new {w : World} (x : Int) : CameI (w.alloc (.cells #[.int .i64 x] 3)) (some ⟨w.heap.size, 0, none⟩) 1 [x] :=
  ⟨⟨_, rfl⟩, rfl, lit_holds w [x]⟩

theorem app_int {w : World} {ops : Array Oper} {rest : List Oper} {o : Oper} {a : Act} {Q : Exit → Act → World → Prop} (hw : Region.wanted o (yielded ops a.tmps) = true) (s x : Operand)
    (ho : o.op = .call { callee := .builtin .append, args := #[s, x], argTypes := #[28, 28] }) (B : Nat) (hB : B ≤ w.heap.size) (v : Value) (l : List Int) (hs : a.eval s = v) (hown : OwnI w B v l)
    (A : Option Addr) (m c : Nat) (k : List Int) (hx : a.eval x = .slice A m c) (hk : CameI w A m k) (hm : l.length + k.length ≤ 1000)
    (h : ∀ v' w', OwnI w' B v' (l ++ k) → Below B w w' → v' ≠ .slice none 0 0 → wpList Try.prog ops Q rest (a.put o.dst v') w') (hv : v ≠ .slice none 0 0) : wpList Try.prog ops Q (o :: rest) a w := by
  obtain ⟨i0, hi, hz0, hz1, hz2⟩ := info_parts infoInt
  refine wpList_step fun K hK => ?_
  rw [if_pos hw]
  obtain ⟨⟨ad, rfl⟩, hl, hr⟩ := hk
  refine wp_append_own w s x 28 ho B 3 i0 _ 1 8 Try.underlying28 hi hz0 hz1 hz2 rfl (by decide) v _ _ hs hown ad m c (k.map (Value.int .i64)) hx (by simp [hl]) ?_ ?_ (by unfold maxLen; omega) (by omega) hB ?_
  · intro j u hu
    have hj : j < k.length := by
      rcases Nat.lt_or_ge j k.length with h' | h'
      · exact h'
      · rw [List.getElem?_eq_none (by simpa using h')] at hu; cases hu
    rcases hr with rfl | ⟨b, off, e, hb, hr⟩
    · simp at hj
    · obtain rfl := Option.some.inj e
      rw [Go.WideShapes.add_plain, hr j hj]
      simp [hj] at hu ⊢
      exact hu
  · intro u hu
    obtain ⟨z, _, rfl⟩ := List.mem_map.1 hu
    rfl
  · intro v' w' h2 h3 h4
    refine hK _ _ (h v' w' ?_ ?_ ?_)
    · unfold OwnI
      rw [List.length_append, List.map_append, hl]; exact h2
    · exact (Below.refl B w).grown h3 hB (fun g hg => (World.ownsRow.lt hown g hg).1)
    · exact fun h5 => hv (h4.1 h5).1

theorem upto_succ (n : Nat) : upto n ++ [(n : Int)] = upto (n + 1) := by simp [upto, List.range_succ]

set_option maxHeartbeats 1000000 in
theorem row_cap (n : Nat) (hn : n ≤ 300) (w : World) :
    Calls Try.prog 26 #[.int .i64 (n : Int)] w fun e w' => (∃ g cap, n ≤ cap ∧ e = .returned (.slice (some ⟨g, 0, none⟩) n cap) ∧ w.heap.size ≤ g ∧ Ints g (upto n) w') ∧ Below w.heap.size w w' := by
  go_enter Try.func26, Try.ntmps26
  go_wp2_with fail
  go_loopw [3, 4] (fun v i wr => ∃ (j g cap : Nat), j ≤ n ∧ i = .int .i64 j ∧ v = .slice (some ⟨g, 0, none⟩) j cap ∧ OwnI wr w.heap.size (.slice (some ⟨g, 0, none⟩) j cap) (upto j) ∧ Below w.heap.size w wr) (fun _ i _ => n - (intOf i).toNat)
  case atStart => exact ⟨0, w.heap.size, 0, by omega, rfl, rfl, OwnI.start w _ (Nat.le_refl _), (Below.refl _ w).alloc (Nat.le_refl _) _⟩
  case round =>
    obtain ⟨j, g, cap, hj, rfl, rfl, hown, hB⟩ := hrel
    have hsz := hB.size
    by_cases hlt : j < n
    · have hlen := upto_len j
      go_wp2_with (at_builtin; refine app_int rfl _ _ rfl w.heap.size (by simp; omega) (.slice (some ⟨g, 0, none⟩) j cap) (upto j) rfl (hown.alloc _) _ 1 1 [(j : Int)] rfl (CameI.new _) (by simp; omega) ?_ (fun h => by cases h))
      intro v' w' ho hb hnn
      have b2 := (hB.alloc (by omega) (.cells #[.int .i64 (j : Int)] 3)).trans hb
      rw [upto_succ] at ho
      obtain ⟨h1, _⟩ | ⟨g', cap', rfl, _, _, _, _⟩ := ho.ints
      · exact absurd h1 hnn
      rw [upto_len] at ho ⊢
      clear hown hB hb
      go_wp2_with fail
      go_roundw
      case rel => exact ⟨j + 1, g', cap', by omega, by go_num, rfl, ho, b2⟩
      case measure => simp [intOf]; omega
    · have hj2 : j = n := by omega
      subst hj2
      obtain ⟨h1, _⟩ | ⟨g', cap', e1, hg, hcap, _, hI⟩ := hown.ints
      · cases h1
      injection e1 with e1 e2 e3
      rw [upto_len, ← e3] at hcap
      clear e2 e3
      injection e1 with e1
      injection e1 with e1
      subst e1
      go_wp2_with fail
      go_ret
      exact ⟨⟨g, cap, hcap, rfl, hg, hI⟩, hB⟩

theorem row_any (n : Nat) (hn : n ≤ 300) (w : World) :
    Calls Try.prog 26 #[.int .i64 (n : Int)] w fun e w' => (∃ g cap, e = .returned (.slice (some ⟨g, 0, none⟩) n cap) ∧ w.heap.size ≤ g ∧ Ints g (upto n) w') ∧ Below w.heap.size w w' :=
  (row_cap n hn w).mono fun _ _ ⟨⟨g, cap, _, h1, h2, h3⟩, h4⟩ => ⟨⟨g, cap, h1, h2, h3⟩, h4⟩
end Go.Proofs.Ytmhggfgbefjcmaa
