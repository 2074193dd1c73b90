/-
  AN APPEND ONTO A ROW OF THE CALL's OWN, WITH WHERE THE NEW ONE LIES: where the old one lay, or in the block that was just made. Condition: no more than 2^20 elements.
-/
import Derived.Test.YtjaogmbeoldefaaRowE
import Derived.Deep.AppendLies
namespace Go.Proofs.Ytjaogmbeoldefaa
open Go.RowKit
section
variable {α : Type} {K : Kind α} {w : World}
theorem app_lies_wp (ok : K.Ok) {o : Oper} {a : Act} {KK : Act → World → Prop} {Q : Exit → Act → World → Prop} (s x : Operand)
    (ho : o.op = .call { callee := .builtin .append, args := #[s, x], argTypes := #[K.s, K.s] }) (B : Nat) (hB : B ≤ w.heap.size) (v : Value) (l : List α) (hs : a.eval s = v) (hown : Own K w B v l)
    (A : Option Addr) (m c : Nat) (k : List α) (hx : a.eval x = .slice A m c) (hk : CameE K w A m k) (hm : l.length + k.length ≤ 1048576) (h0 : 0 < m)
    (h : ∀ g cap w', Own K w' B (.slice (some ⟨g, 0, none⟩) (l.length + m) cap) (l ++ k) → w.grownBy w' v.ownBlock → (v.ownBlock = some g ∨ g = w.heap.size) → g < w'.heap.size → KK (a.put o.dst (.slice (some ⟨g, 0, none⟩) (l.length + m) cap)) w') : Oper.wp Try.prog o a w KK Q := by
  obtain ⟨i0, hi, hz0, hz1, hz2⟩ := info_parts ok.info
  have hb := ok.bytes
  obtain ⟨⟨ad, rfl⟩, hl, hr⟩ := hk
  refine wp_append_lies w s x K.s ho B K.e i0 _ 1 K.b ok.under hi hz0 hz1 hz2 (by rw [ok.cz]; rfl) (by decide) v _ _ hs hown ad m c (k.map K.enc) hx (by simp [hl]) ?_ ?_ h0 (by unfold maxLen; omega) (by have := Nat.mul_le_mul (show l.length + m ≤ 1048576 by omega) hb; omega) hB w.heap.size rfl ?_
  · intro j u hu
    have hj : j < k.length := by
      rcases Nat.lt_or_ge j k.length with h' | h'
      · exact h'
      · rw [List.getElem?_eq_none (by simpa using h')] at hu; cases hu
    rcases hr with rfl | ⟨b, off, e, hb, hr⟩
    · simp at hj
    · obtain rfl := Option.some.inj e
      rw [Go.WideShapes.add_plain, hr j hj]
      simp [hj] at hu ⊢
      exact hu
  · intro u hu
    obtain ⟨z, _, rfl⟩ := List.mem_map.1 hu
    exact ok.one z
  · intro g cap w' h2 h3 h4 h5
    refine h g cap w' ?_ h3 h4 h5
    unfold Own
    rw [List.length_append, List.map_append, hl]; exact h2
/-- Outside a drawn region. -/
theorem app_lies (ok : K.Ok) {ops : Array Oper} {rest : List Oper} {o : Oper} {a : Act} {Q : Exit → Act → World → Prop} (hw : Region.wanted o (yielded ops a.tmps) = true) (s x : Operand)
    (ho : o.op = .call { callee := .builtin .append, args := #[s, x], argTypes := #[K.s, K.s] }) (B : Nat) (hB : B ≤ w.heap.size) (v : Value) (l : List α) (hs : a.eval s = v) (hown : Own K w B v l)
    (A : Option Addr) (m c : Nat) (k : List α) (hx : a.eval x = .slice A m c) (hk : CameE K w A m k) (hm : l.length + k.length ≤ 1048576) (h0 : 0 < m)
    (h : ∀ g cap w', Own K w' B (.slice (some ⟨g, 0, none⟩) (l.length + m) cap) (l ++ k) → w.grownBy w' v.ownBlock → (v.ownBlock = some g ∨ g = w.heap.size) → g < w'.heap.size → wpList Try.prog ops Q rest (a.put o.dst (.slice (some ⟨g, 0, none⟩) (l.length + m) cap)) w') : wpList Try.prog ops Q (o :: rest) a w := by
  refine wpList_step fun KK hK => ?_
  rw [if_pos hw]
  exact app_lies_wp ok s x ho B hB v l hs hown A m c k hx hk hm h0 fun g cap w' h2 h3 h4 h5 => hK _ _ (h g cap w' h2 h3 h4 h5)
end
theorem But.grown {g : Nat} {w w' : World} (h : w.grownBy w' (some g)) : But g w w' := ⟨h.os, h.tape, h.output, h.size, fun k hk hn => h.block k hk (fun e => hn (Option.some.inj e))⟩
end Go.Proofs.Ytjaogmbeoldefaa
