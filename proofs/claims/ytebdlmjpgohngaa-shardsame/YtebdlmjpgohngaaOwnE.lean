/-
  ROWS OF THE CALL's OWN, WHATEVER THEIR ELEMENTS: as they are read; appends onto them, nil or not, with where the new one lies; behind what leaves their block alone; the operations of a drawn region, one by one. Condition: no more than 2^20 elements.
-/
import Derived.Test.YtebdlmjpgohngaaRowE
import Derived.Laws.OwnMore
import Derived.Deep.AppendLies
import Derived.Test.YtebdlmjpgohngaaBut
namespace Go.Proofs.Ytebdlmjpgohngaa
open Go.RowKit

theorem Own.nil {α : Type} {K : Kind α} (w : World) (B : Nat) : Own K w B (.slice none 0 0) [] := ⟨rfl, .inl ⟨rfl, rfl⟩⟩
/-- What a row of the call's own holds, as it is read. -/
theorem Own.holds {α : Type} {K : Kind α} {w : World} {B : Nat} {v : Value} {l : List α} (h : Own K w B v l) : ∃ a cap, v = .slice a l.length cap ∧ (a = none → cap = 0) ∧ l.length ≤ cap ∧ (∀ ad, a = some ad → B ≤ ad.block ∧ ad.block < w.heap.size) ∧ HoldsE K w a l := by
  rcases h.lst with ⟨rfl, rfl⟩ | ⟨g, cap, rfl, hB, hc, _, hl⟩
  · exact ⟨none, 0, rfl, fun _ => rfl, Nat.le_refl _, fun _ h => (by cases h), .inl rfl⟩
  · refine ⟨_, cap, rfl, fun h => (by cases h), hc, fun ad h => ?_, hl.holds⟩
    obtain rfl := Option.some.inj h
    exact ⟨hB, hl.lt⟩

/-- An append of what a slice leads to, nil or not, outside a drawn region. -/
theorem app_any {α : Type} {K : Kind α} {w : World} (ok : K.Ok) {ops : Array Oper} {rest : List Oper} {o : Oper} {a : Act} {Q : Exit → Act → World → Prop} (hw : Region.wanted o (yielded ops a.tmps) = true) (s x : Operand)
    (ho : o.op = .call { callee := .builtin .append, args := #[s, x], argTypes := #[K.s, K.s] }) (B : Nat) (hB : B ≤ w.heap.size) (v : Value) (l : List α) (hs : a.eval s = v) (hown : Own K w B v l)
    (A : Option Addr) (m c : Nat) (k : List α) (hx : a.eval x = .slice A m c) (hl : k.length = m) (hA : A = none → c = 0) (hk : HoldsE K w A k) (hm : l.length + k.length ≤ 1048576) (hv : v ≠ .slice none 0 0)
    (h : ∀ v' w', Own K w' B v' (l ++ k) → Go.RowKit.Below B w w' → v' ≠ .slice none 0 0 → wpList Try.prog ops Q rest (a.put o.dst v') w') : wpList Try.prog ops Q (o :: rest) a w := by
  cases A with
  | some ad => exact app_e ok hw s x ho B hB v l hs hown (some ad) m c k hx ⟨⟨ad, rfl⟩, hl, hk⟩ hm hv h
  | none =>
    obtain rfl := hA rfl
    obtain rfl : k = [] := by
      rcases hk with h | ⟨_, _, h, _⟩
      · exact h
      · cases h
    obtain rfl : m = 0 := hl.symm
    obtain ⟨i0, hi, hz0, hz1, hz2⟩ := info_parts ok.info
    have hrun := run_append_owned_none (P := Try.prog) (w := w) B K.s o.type K.e i0 1 ok.under hi v _ _ hown
    refine wpList_step fun KK hK => ?_
    rw [if_pos hw]
    unfold Oper.wp execOp
    simp only [ho, resolve, invoke, builtin, Sem.run_bind, Sem.run_pure, Result.andThen_ok, List.map_toArray, List.map_cons, List.map_nil, hs, hx, hrun]
    exact hK _ _ (h v w (by rw [List.append_nil]; exact hown) (Go.RowKit.Below.refl B w) hv)

section
variable {α : Type} {K : Kind α}
/-- An append, whatever it is appended to. -/
theorem app_wp0 {w : World} (ok : K.Ok) {o : Oper} {a : Act} {KK : Act → World → Prop} {Q : Exit → Act → World → Prop} (s x : Operand)
    (ho : o.op = .call { callee := .builtin .append, args := #[s, x], argTypes := #[K.s, K.s] }) (B : Nat) (hB : B ≤ w.heap.size) (v : Value) (l : List α) (hs : a.eval s = v) (hown : Own K w B v l)
    (A : Option Addr) (m c : Nat) (k : List α) (hx : a.eval x = .slice A m c) (hk : CameE K w A m k) (hm : l.length + k.length ≤ 1048576)
    (h : ∀ v' w', Own K w' B v' (l ++ k) → w.grownBy w' v.ownBlock → KK (a.put o.dst v') w') : Oper.wp Try.prog o a w KK Q := by
  obtain ⟨i0, hi, hz0, hz1, hz2⟩ := info_parts ok.info
  have hb := ok.bytes
  obtain ⟨⟨ad, rfl⟩, hl, hr⟩ := hk
  refine wp_append_own w s x K.s ho B K.e i0 _ 1 K.b ok.under hi hz0 hz1 hz2 (by rw [ok.cz]; rfl) (by decide) v _ _ hs hown ad m c (k.map K.enc) hx (by simp [hl]) ?_ ?_ (by unfold maxLen; omega) (by have := Nat.mul_le_mul (show l.length + m ≤ 1048576 by omega) hb; omega) hB ?_
  · intro j u hu
    have hj : j < k.length := by
      rcases Nat.lt_or_ge j k.length with h' | h'
      · exact h'
      · rw [List.getElem?_eq_none (by simpa using h')] at hu; cases hu
    rcases hr with rfl | ⟨b, off, e, hb, hr⟩
    · simp at hj
    · obtain rfl := Option.some.inj e
      rw [Go.WideShapes.add_plain, hr j hj]
      simp [hj] at hu ⊢
      exact hu
  · intro u hu
    obtain ⟨z, _, rfl⟩ := List.mem_map.1 hu
    exact ok.one z
  · intro v' w' h2 h3 _
    refine h v' w' ?_ h3
    unfold Own
    rw [List.length_append, List.map_append, hl]; exact h2
theorem step_e0 {w : World} (ok : K.Ok) {ops : Array Oper} {o : Oper} {a : Act} {KK : Act → World → Prop} {Q : Exit → Act → World → Prop} {E : Prop} (hw : Region.wanted o (yielded ops a.tmps) = true) (s x : Operand)
    (ho : o.op = .call { callee := .builtin .append, args := #[s, x], argTypes := #[K.s, K.s] }) (B : Nat) (hB : B ≤ w.heap.size) (v : Value) (l : List α) (hs : a.eval s = v) (hown : Own K w B v l)
    (A : Option Addr) (m c : Nat) (k : List α) (hx : a.eval x = .slice A m c) (hk : CameE K w A m k) (hm : l.length + k.length ≤ 1048576)
    (h : ∀ v' w', Own K w' B v' (l ++ k) → w.grownBy w' v.ownBlock → KK (a.put o.dst v') w') : if Region.wanted o (yielded ops a.tmps) = true then Oper.wp Try.prog o a w KK Q else E := by
  rw [if_pos hw]
  exact app_wp0 ok s x ho B hB v l hs hown A m c k hx hk hm h
theorem Own.keep {w w' : World} {B : Nat} {v : Value} {l : List α} (h : Own K w B v l) (hb : ∀ k, B ≤ k → k < w.heap.size → w'.heap[k]? = w.heap[k]?) : Own K w' B v l := by
  obtain ⟨h1, ⟨rfl, h0⟩ | ⟨g, cap, cur, rfl, hB, hg, hc, hm, hs, ht⟩⟩ := h
  · exact ⟨h1, .inl ⟨rfl, h0⟩⟩
  · exact ⟨h1, .inr ⟨g, cap, cur, rfl, hB, (hb g hB (Array.getElem?_eq_some_iff.1 hg).1).trans hg, hc, hm, hs, ht⟩⟩
end

/-- An append onto a row of the call's own, nil or not, outside a drawn region. -/
theorem app_own {α : Type} {K : Kind α} {w : World} (ok : K.Ok) {ops : Array Oper} {rest : List Oper} {o : Oper} {a : Act} {Q : Exit → Act → World → Prop} (hw : Region.wanted o (yielded ops a.tmps) = true) (s x : Operand)
    (ho : o.op = .call { callee := .builtin .append, args := #[s, x], argTypes := #[K.s, K.s] }) (B : Nat) (hB : B ≤ w.heap.size) (v : Value) (l : List α) (hs : a.eval s = v) (hown : Own K w B v l)
    (A : Option Addr) (m c : Nat) (k : List α) (hx : a.eval x = .slice A m c) (hk : CameE K w A m k) (hm : l.length + k.length ≤ 1048576)
    (h : ∀ v' w', Own K w' B v' (l ++ k) → Go.RowKit.Below B w w' → wpList Try.prog ops Q rest (a.put o.dst v') w') : wpList Try.prog ops Q (o :: rest) a w := by
  refine wpList_step fun KK hK => ?_
  rw [if_pos hw]
  refine app_wp0 ok s x ho B hB v l hs hown A m c k hx hk hm fun v' w' h2 h3 => hK _ _ (h v' w' h2 ?_)
  exact (Go.RowKit.Below.refl B w).grown h3 hB (fun g hg => (World.ownsRow.lt hown g hg).1)
theorem Own.below {α : Type} {K : Kind α} {w w' : World} {B : Nat} {v : Value} {l : List α} (h : Own K w B v l) (b : Go.RowKit.Below w.heap.size w w') : Own K w' B v l := h.keep fun k _ hk => b.block k hk
theorem Own.base {α : Type} {K : Kind α} {w : World} {B C : Nat} {v : Value} {l : List α} (h : Own K w B v l) (hc : C ≤ B) : Own K w C v l := by
  obtain ⟨h1, ⟨rfl, h0⟩ | ⟨g, cap, cur, rfl, hB, hg, hc, hm, hs, ht⟩⟩ := h
  · exact ⟨h1, .inl ⟨rfl, h0⟩⟩
  · exact ⟨h1, .inr ⟨g, cap, cur, rfl, by omega, hg, hc, hm, hs, ht⟩⟩
theorem Own.but {α : Type} {K : Kind α} {w w' : World} {D b : Nat} {v : Value} {l : List α} (h : Own K w D v l) (hb : But b w w') (hn : b < D) : Own K w' D v l := h.keep fun k h1 h2 => hb.block k h2 (by omega)
theorem HoldsE.at {α : Type} {K : Kind α} {w : World} {a : Option Addr} {l : List α} (h : HoldsE K w a l) {n : Nat} (hn : n < l.length) : ∃ g off, a = some ⟨g, off, none⟩ ∧ g < w.heap.size ∧ ∀ j, j < l.length → w.cell? ⟨g, off + j, none⟩ = some (K.enc (l.getD j K.z)) := by
  rcases h with rfl | h
  · simp at hn
  · exact h
theorem But.onto {b c : Nat} {w w1 w2 : World} (h : But b w w1) (k : But c w1 w2) (hc : w.heap.size ≤ c) : But b w w2 :=
  ⟨k.os.trans h.os, k.tape.trans h.tape, k.output.trans h.output, Nat.le_trans h.size k.size, fun i hi hn => (k.block i (Nat.lt_of_lt_of_le hi h.size) (by omega)).trans (h.block i hi hn)⟩

section
variable {α : Type} {K : Kind α} {w : World}
theorem app_lies_wp (ok : K.Ok) {o : Oper} {a : Act} {KK : Act → World → Prop} {Q : Exit → Act → World → Prop} (s x : Operand)
    (ho : o.op = .call { callee := .builtin .append, args := #[s, x], argTypes := #[K.s, K.s] }) (B : Nat) (hB : B ≤ w.heap.size) (v : Value) (l : List α) (hs : a.eval s = v) (hown : Own K w B v l)
    (A : Option Addr) (m c : Nat) (k : List α) (hx : a.eval x = .slice A m c) (hk : CameE K w A m k) (hm : l.length + k.length ≤ 1048576) (h0 : 0 < m)
    (h : ∀ g cap w', Own K w' B (.slice (some ⟨g, 0, none⟩) (l.length + m) cap) (l ++ k) → w.grownBy w' v.ownBlock → (v.ownBlock = some g ∨ g = w.heap.size) → g < w'.heap.size → KK (a.put o.dst (.slice (some ⟨g, 0, none⟩) (l.length + m) cap)) w') : Oper.wp Try.prog o a w KK Q := by
  obtain ⟨i0, hi, hz0, hz1, hz2⟩ := info_parts ok.info
  have hb := ok.bytes
  obtain ⟨⟨ad, rfl⟩, hl, hr⟩ := hk
  refine wp_append_lies w s x K.s ho B K.e i0 _ 1 K.b ok.under hi hz0 hz1 hz2 (by rw [ok.cz]; rfl) (by decide) v _ _ hs hown ad m c (k.map K.enc) hx (by simp [hl]) ?_ ?_ h0 (by unfold maxLen; omega) (by have := Nat.mul_le_mul (show l.length + m ≤ 1048576 by omega) hb; omega) hB w.heap.size rfl ?_
  · intro j u hu
    have hj : j < k.length := by
      rcases Nat.lt_or_ge j k.length with h' | h'
      · exact h'
      · rw [List.getElem?_eq_none (by simpa using h')] at hu; cases hu
    rcases hr with rfl | ⟨b, off, e, hb, hr⟩
    · simp at hj
    · obtain rfl := Option.some.inj e
      rw [Go.WideShapes.add_plain, hr j hj]
      simp [hj] at hu ⊢
      exact hu
  · intro u hu
    obtain ⟨z, _, rfl⟩ := List.mem_map.1 hu
    exact ok.one z
  · intro g cap w' h2 h3 h4 h5
    refine h g cap w' ?_ h3 h4 h5
    unfold Own
    rw [List.length_append, List.map_append, hl]; exact h2
/-- Outside a drawn region. -/
theorem app_lies (ok : K.Ok) {ops : Array Oper} {rest : List Oper} {o : Oper} {a : Act} {Q : Exit → Act → World → Prop} (hw : Region.wanted o (yielded ops a.tmps) = true) (s x : Operand)
    (ho : o.op = .call { callee := .builtin .append, args := #[s, x], argTypes := #[K.s, K.s] }) (B : Nat) (hB : B ≤ w.heap.size) (v : Value) (l : List α) (hs : a.eval s = v) (hown : Own K w B v l)
    (A : Option Addr) (m c : Nat) (k : List α) (hx : a.eval x = .slice A m c) (hk : CameE K w A m k) (hm : l.length + k.length ≤ 1048576) (h0 : 0 < m)
    (h : ∀ g cap w', Own K w' B (.slice (some ⟨g, 0, none⟩) (l.length + m) cap) (l ++ k) → w.grownBy w' v.ownBlock → (v.ownBlock = some g ∨ g = w.heap.size) → g < w'.heap.size → wpList Try.prog ops Q rest (a.put o.dst (.slice (some ⟨g, 0, none⟩) (l.length + m) cap)) w') : wpList Try.prog ops Q (o :: rest) a w := by
  refine wpList_step fun KK hK => ?_
  rw [if_pos hw]
  exact app_lies_wp ok s x ho B hB v l hs hown A m c k hx hk hm h0 fun g cap w' h2 h3 h4 h5 => hK _ _ (h g cap w' h2 h3 h4 h5)
end
theorem But.grown {g : Nat} {w w' : World} (h : w.grownBy w' (some g)) : But g w w' := ⟨h.os, h.tape, h.output, h.size, fun k hk hn => h.block k hk (fun e => hn (Option.some.inj e))⟩

section
variable {P : Program} {md : Region.Mode} {Q : Exit → Act → World → Prop} {S : World → Prop} {l : List Oper} {i fuel : Nat} {oi : Oper} {v : Value} {listed : Array Bool} {a : Act} {w : World}
/-- An operation of a drawn region that yields its value wherever S holds comes first. -/
theorem takeQ (hi : l[i]? = some oi) (hs : Region.noSelect l.toArray = true) (hf : Region.free md l.toArray listed i = true) (hr : (Region.ready md l.toArray listed).contains i = true) (hQ : ∀ c a w, Q (.panic c) (a.put oi.dst v) w → Q (.panic c) a w)
    (hw : Region.wanted oi (yielded l.toArray a.tmps) = true) (hS : S w) (hy : ∀ w, S w → (execOp a.eval oi).run P w = .ok (.value v) w)
    (h : wpAnyH P md l.toArray Q S fuel (listed.setIfInBounds i true) (a.put oi.dst v) w) : wpAnyH P md l.toArray Q S (fuel + 1) listed a w :=
  wpAnyH_take (by simpa using hi) hs hf hr hQ (.inl ⟨hw, hy⟩) hS h
/-- One that alone may come next. -/
theorem callL (hr : Region.ready md l.toArray listed = [i]) (hi : l[i]? = some oi) (hw : Region.wanted oi (yielded l.toArray a.tmps) = true)
    (h : ∀ K' : Act → World → Prop, Shut (∀ a w, S w → (S w → wpAnyH P md l.toArray Q S fuel (listed.setIfInBounds i true) a w) → K' a w) → Oper.wp P oi a w K' Q) : wpAnyH P md l.toArray Q S (fuel + 1) listed a w :=
  wpAnyH_ready hr (by simp) (AllReadyH.cons (by simpa using hi) (fun K hK => by rw [if_pos hw]; exact h K hK) AllReadyH.nil)
end

section
variable {P : Program} {md : Region.Mode} {Q : Exit → Act → World → Prop} {S : World → Prop} {l : List Oper} {i j fuel : Nat} {oi oj : Oper} {listed : Array Bool} {a : Act} {w : World}
/-- Two that may come next. -/
theorem bothL (hr : Region.ready md l.toArray listed = [i, j]) (hi : l[i]? = some oi) (hj : l[j]? = some oj) (hw : Region.wanted oi (yielded l.toArray a.tmps) = true) (hv : Region.wanted oj (yielded l.toArray a.tmps) = true)
    (h : ∀ K' : Act → World → Prop, Shut (∀ a w, S w → (S w → wpAnyH P md l.toArray Q S fuel (listed.setIfInBounds i true) a w) → K' a w) → Oper.wp P oi a w K' Q)
    (k : ∀ K' : Act → World → Prop, Shut (∀ a w, S w → (S w → wpAnyH P md l.toArray Q S fuel (listed.setIfInBounds j true) a w) → K' a w) → Oper.wp P oj a w K' Q) : wpAnyH P md l.toArray Q S (fuel + 1) listed a w :=
  wpAnyH_ready hr (by simp) (AllReadyH.cons (by simpa using hi) (fun K hK => by rw [if_pos hw]; exact h K hK) (AllReadyH.cons (by simpa using hj) (fun K hK => by rw [if_pos hv]; exact k K hK) AllReadyH.nil))
end
end Go.Proofs.Ytebdlmjpgohngaa
