/-
  AN APPEND, WHATEVER IT IS APPENDED TO (nil too); a row of the call's own behind what leaves its block alone. Condition: no more than 2^20 elements.
-/
import Derived.Test.YtbmbgfmhejahjaaBytes
namespace Go.Proofs.Ytbmbgfmhejahjaa
open Go.RowKit

section
variable {α : Type} {K : Kind α}
/-- An append, whatever it is appended to. -/
theorem app_wp0 {w : World} (ok : K.Ok) {o : Oper} {a : Act} {KK : Act → World → Prop} {Q : Exit → Act → World → Prop} (s x : Operand)
    (ho : o.op = .call { callee := .builtin .append, args := #[s, x], argTypes := #[K.s, K.s] }) (B : Nat) (hB : B ≤ w.heap.size) (v : Value) (l : List α) (hs : a.eval s = v) (hown : Own K w B v l)
    (A : Option Addr) (m c : Nat) (k : List α) (hx : a.eval x = .slice A m c) (hk : CameE K w A m k) (hm : l.length + k.length ≤ 1048576)
    (h : ∀ v' w', Own K w' B v' (l ++ k) → w.grownBy w' v.ownBlock → KK (a.put o.dst v') w') : Oper.wp Try.prog o a w KK Q := by
  obtain ⟨i0, hi, hz0, hz1, hz2⟩ := info_parts ok.info
  have hb := ok.bytes
  obtain ⟨⟨ad, rfl⟩, hl, hr⟩ := hk
  refine wp_append_own w s x K.s ho B K.e i0 _ 1 K.b ok.under hi hz0 hz1 hz2 (by rw [ok.cz]; rfl) (by decide) v _ _ hs hown ad m c (k.map K.enc) hx (by simp [hl]) ?_ ?_ (by unfold maxLen; omega) (by have := Nat.mul_le_mul (show l.length + m ≤ 1048576 by omega) hb; omega) hB ?_
  · intro j u hu
    have hj : j < k.length := by
      rcases Nat.lt_or_ge j k.length with h' | h'
      · exact h'
      · rw [List.getElem?_eq_none (by simpa using h')] at hu; cases hu
    rcases hr with rfl | ⟨b, off, e, hb, hr⟩
    · simp at hj
    · obtain rfl := Option.some.inj e
      rw [Go.WideShapes.add_plain, hr j hj]
      simp [hj] at hu ⊢
      exact hu
  · intro u hu
    obtain ⟨z, _, rfl⟩ := List.mem_map.1 hu
    exact ok.one z
  · intro v' w' h2 h3 _
    refine h v' w' ?_ h3
    unfold Own
    rw [List.length_append, List.map_append, hl]; exact h2
theorem step_e0 {w : World} (ok : K.Ok) {ops : Array Oper} {o : Oper} {a : Act} {KK : Act → World → Prop} {Q : Exit → Act → World → Prop} {E : Prop} (hw : Region.wanted o (yielded ops a.tmps) = true) (s x : Operand)
    (ho : o.op = .call { callee := .builtin .append, args := #[s, x], argTypes := #[K.s, K.s] }) (B : Nat) (hB : B ≤ w.heap.size) (v : Value) (l : List α) (hs : a.eval s = v) (hown : Own K w B v l)
    (A : Option Addr) (m c : Nat) (k : List α) (hx : a.eval x = .slice A m c) (hk : CameE K w A m k) (hm : l.length + k.length ≤ 1048576)
    (h : ∀ v' w', Own K w' B v' (l ++ k) → w.grownBy w' v.ownBlock → KK (a.put o.dst v') w') : if Region.wanted o (yielded ops a.tmps) = true then Oper.wp Try.prog o a w KK Q else E := by
  rw [if_pos hw]
  exact app_wp0 ok s x ho B hB v l hs hown A m c k hx hk hm h
theorem Own.keep {w w' : World} {B : Nat} {v : Value} {l : List α} (h : Own K w B v l) (hb : ∀ k, B ≤ k → k < w.heap.size → w'.heap[k]? = w.heap[k]?) : Own K w' B v l := by
  obtain ⟨h1, ⟨rfl, h0⟩ | ⟨g, cap, cur, rfl, hB, hg, hc, hm, hs, ht⟩⟩ := h
  · exact ⟨h1, .inl ⟨rfl, h0⟩⟩
  · exact ⟨h1, .inr ⟨g, cap, cur, rfl, hB, (hb g hB (Array.getElem?_eq_some_iff.1 hg).1).trans hg, hc, hm, hs, ht⟩⟩
end

/-- An append onto a row of the call's own, nil or not, outside a drawn region. -/
theorem app_own {α : Type} {K : Kind α} {w : World} (ok : K.Ok) {ops : Array Oper} {rest : List Oper} {o : Oper} {a : Act} {Q : Exit → Act → World → Prop} (hw : Region.wanted o (yielded ops a.tmps) = true) (s x : Operand)
    (ho : o.op = .call { callee := .builtin .append, args := #[s, x], argTypes := #[K.s, K.s] }) (B : Nat) (hB : B ≤ w.heap.size) (v : Value) (l : List α) (hs : a.eval s = v) (hown : Own K w B v l)
    (A : Option Addr) (m c : Nat) (k : List α) (hx : a.eval x = .slice A m c) (hk : CameE K w A m k) (hm : l.length + k.length ≤ 1048576)
    (h : ∀ v' w', Own K w' B v' (l ++ k) → Go.RowKit.Below B w w' → wpList Try.prog ops Q rest (a.put o.dst v') w') : wpList Try.prog ops Q (o :: rest) a w := by
  refine wpList_step fun KK hK => ?_
  rw [if_pos hw]
  refine app_wp0 ok s x ho B hB v l hs hown A m c k hx hk hm fun v' w' h2 h3 => hK _ _ (h v' w' h2 ?_)
  exact (Go.RowKit.Below.refl B w).grown h3 hB (fun g hg => (World.ownsRow.lt hown g hg).1)
theorem Own.below {α : Type} {K : Kind α} {w w' : World} {B : Nat} {v : Value} {l : List α} (h : Own K w B v l) (b : Go.RowKit.Below w.heap.size w w') : Own K w' B v l := h.keep fun k _ hk => b.block k hk
end Go.Proofs.Ytbmbgfmhejahjaa
