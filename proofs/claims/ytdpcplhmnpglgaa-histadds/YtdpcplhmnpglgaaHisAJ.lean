/-
  HistAdds: a histogram that is added to, beside the document's own. Conditions: each number is of 64 bits with a sign.
-/
import Derived.Test.YtdpcplhmnpglgaaHisAI
import Derived.Test.YtdpcplhmnpglgaaHisAE
import Derived.Test.YtdpcplhmnpglgaaHisN
import Derived.Test.YtdpcplhmnpglgaaArgsH
namespace Go.Proofs.Ytdpcplhmnpglgaa
open Go.RowKit

/-- All blocks are as they were, but those from B on below v. -/
structure ButI (B v : Nat) (w w' : World) : Prop where
  os : w'.os = w.os
  tape : w'.tape = w.tape
  output : w'.output = w.output
  size : w.heap.size ≤ w'.heap.size
  block : ∀ k, k < w.heap.size → k < B ∨ v ≤ k → w'.heap[k]? = w.heap[k]?
theorem ButI.below {B v B0 : Nat} {w w' : World} (h : ButI B v w w') (hB : B0 ≤ B) (hs : B0 ≤ w.heap.size) : Below B0 w w' :=
  ⟨h.os, h.tape, h.output, h.size, fun k hk => h.block k (by omega) (.inl (by omega))⟩
theorem AtM.keep {g o : Nat} {x y z : Int} {w w' : World} (h : AtM g o x y z w) (hs : w.heap.size ≤ w'.heap.size) (hb : w'.heap[g]? = w.heap[g]?) : AtM g o x y z w' :=
  ⟨Nat.lt_of_lt_of_le h.lt hs, (World.cell?_of_block (w := w) hb).trans h.c0, (World.cell?_of_block (w := w) hb).trans h.c1, (World.cell?_of_block (w := w) hb).trans h.c2⟩
theorem VarH.keep {v : Nat} {k b c : Int} {C M : Value} {w w' : World} (h : VarH v k b c C M w) (hs : w.heap.size ≤ w'.heap.size) (hb : w'.heap[v]? = w.heap[v]?) : VarH v k b c C M w' :=
  ⟨Nat.lt_of_lt_of_le h.lt hs, (World.cell?_of_block (w := w) hb).trans h.c0, (World.cell?_of_block (w := w) hb).trans h.c1, (World.cell?_of_block (w := w) hb).trans h.c2, (World.cell?_of_block (w := w) hb).trans h.c3, (World.cell?_of_block (w := w) hb).trans h.c4,
    (World.frozen?_of_block (w := w) hb).trans h.f0, (World.frozen?_of_block (w := w) hb).trans h.f1, (World.frozen?_of_block (w := w) hb).trans h.f2, (World.frozen?_of_block (w := w) hb).trans h.f3, (World.frozen?_of_block (w := w) hb).trans h.f4⟩
theorem HoldsE.keepN {N : Nat → Prop} {a : Option Addr} {l : List Int} {w w' : World} (h : HoldsE KL w a l) (o : ∀ ad, a = some ad → N ad.block) (hs : w.heap.size ≤ w'.heap.size) (hb : ∀ b, b < w.heap.size → N b → w'.heap[b]? = w.heap[b]?) : HoldsE KL w' a l := by
  rcases h with h | ⟨g, off, ha, hlt, hr⟩
  · exact .inl h
  · exact .inr ⟨g, off, ha, Nat.lt_of_lt_of_le hlt hs, fun j hj => (World.cell?_of_block (w := w) (hb g hlt (o _ ha))).trans (hr j hj)⟩
theorem Reads.keepN {N : Nat → Prop} {d : HD} {ac am : Option Addr} {nc nm : Nat} {w w' : World} (h : Reads d ac nc am nm w) (o : On N ac am) (hs : w.heap.size ≤ w'.heap.size) (hb : ∀ b, b < w.heap.size → N b → w'.heap[b]? = w.heap[b]?) : Reads d ac nc am nm w' :=
  ⟨h.nc, h.nm, h.hc.keepN o.1 hs hb, h.hm.keepN o.2 hs hb, h.wc, h.wm⟩

/-- A variable holds a histogram of the caller's own, whose numbers lie from B on below it. -/
def Hold (v B : Nat) (d : HD) (w : World) : Prop :=
  (d = zD ∧ VarH v 0 0 0 (.slice none 0 0) (.slice none 0 0) w) ∨ (∃ g m, Kept v g m d w ∧ B ≤ g ∧ g < v ∧ B ≤ m ∧ m < v)
theorem Hold.below {v B : Nat} {d : HD} {w w' : World} (h : Hold v B d w) (hb : Below w.heap.size w w') : Hold v B d w' := by
  rcases h with ⟨e, h⟩ | ⟨g, m, h, k⟩
  · exact .inl ⟨e, h.below hb h.lt⟩
  · exact .inr ⟨g, m, h.below hb, k⟩
theorem Hold.but {v B b : Nat} {d : HD} {w w' : World} (h : Hold v B d w) (hb : But b w w') (hn : v < b) : Hold v B d w' := by
  rcases h with ⟨e, h⟩ | ⟨g, m, h, k1, k2, k3, k4⟩
  · exact .inl ⟨e, h.but hb (by omega)⟩
  · exact .inr ⟨g, m, h.but2 (hb.fst (m := b)) (by omega) (by omega) (by omega) (by omega) (by omega) (by omega), k1, k2, k3, k4⟩
theorem Hold.read {v B : Nat} {d : HD} {w : World} (h : Hold v B d w) : ∃ ac nc cc am nm cm, VarH v d.k d.b d.c (.slice ac nc cc) (.slice am nm cm) w ∧ Reads d ac nc am nm w := by
  rcases h with ⟨rfl, h⟩ | ⟨g, m, h, k⟩
  · exact ⟨none, 0, 0, none, 0, 0, h, Reads.zero w⟩
  · exact h.read
theorem add_hold (v B : Nat) (d : HD) (b t x : Int) (ht : Whole t) (hx : Whole x) (w : World) (h : Hold v B d w) (D2 : HD) (E2 : Int) (hD : addD d b t x = D2) (hE : addE d b t x = E2) :
    Calls Try.prog 14 #[.pointer (some ⟨v, 0, none⟩), .int .i64 b, .int .i64 t, .int .i64 x] w fun e w' => e = .returned (.int .i64 E2) ∧ Hold v B D2 w' ∧ ButI B v w w' := by
  rcases h with ⟨rfl, h⟩ | ⟨g, m, h, k1, k2, k3, k4⟩
  · have hv := h.lt
    have hz : Wholes ([] : List Int) := fun j hj => absurd hj (Nat.not_lt_zero _)
    have hK : Kept v (w.heap.size + 1) (w.heap.size + 2) zD w := ⟨_, _, h, .inl ⟨rfl, rfl, rfl⟩, hz, hz, by omega, by omega, by omega⟩
    refine (add_any v _ _ zD b t x ht hx w hK).mono ?_
    rintro e w' ⟨rfl, -, hb⟩
    refine ⟨by rw [hE], .inl ⟨hD.symm.trans (addD_zero b t x).2, h.but2 hb (by omega) (by omega)⟩, hb.os, hb.tape, hb.output, hb.size, fun k hk _ => hb.block k hk (by omega) (by omega)⟩
  · refine (add_any v g m d b t x ht hx w h).mono ?_
    rintro e w' ⟨rfl, hK, hb⟩
    exact ⟨by rw [hE], .inr ⟨g, m, hD ▸ hK, k1, k2, k3, k4⟩, hb.os, hb.tape, hb.output, hb.size, fun k hk _ => hb.block k hk (by omega) (by omega)⟩

/-- A variable holds the document's own histogram; its numbers lie past v, and not in the variable. -/
structure Want (v vW : Nat) (d : HD) (ac : Option Addr) (nc cc : Nat) (am : Option Addr) (nm cm : Nat) (w : World) : Prop where
  V : VarH vW d.k d.b d.c (.slice ac nc cc) (.slice am nm cm) w
  R : Reads d ac nc am nm w
  Z : (ac = none → cc = 0) ∧ (am = none → cm = 0)
  O : On (fun b => v < b ∧ b ≠ vW) ac am
theorem Want.below {v vW : Nat} {d : HD} {ac : Option Addr} {nc cc : Nat} {am : Option Addr} {nm cm : Nat} {w w' : World} (h : Want v vW d ac nc cc am nm cm w) (hb : Below w.heap.size w w') : Want v vW d ac nc cc am nm cm w' :=
  ⟨h.V.below hb h.V.lt, h.R.below hb, h.Z, h.O⟩
theorem Want.butI {v B vW : Nat} {d : HD} {ac : Option Addr} {nc cc : Nat} {am : Option Addr} {nm cm : Nat} {w w' : World} (h : Want v vW d ac nc cc am nm cm w) (hb : ButI B v w w') (hv : v < vW) : Want v vW d ac nc cc am nm cm w' :=
  ⟨h.V.keep hb.size (hb.block vW h.V.lt (.inr (by omega))), h.R.keepN h.O hb.size (fun b hlt hN => hb.block b hlt (.inr (by omega))), h.Z, h.O⟩
theorem radd_want (d : HD) (ac am : Option Addr) (nc cc nm cm : Nat) (b t x : Int) (w : World) (h : Reads d ac nc am nm w) (z : (ac = none → cc = 0) ∧ (am = none → cm = 0)) (ht : Whole t) (hx : Whole x) (D2 : HD) (E2 : Int) (hD : addD d b t x = D2) (hE : addE d b t x = E2) :
    Calls Try.prog 15 #[.agg #[.int .i64 d.k, .int .i64 d.b, .int .i64 d.c, .slice ac nc cc, .slice am nm cm], .int .i64 b, .int .i64 t, .int .i64 x] w fun e w' =>
      ∃ ac' nc' cc' am' nm' cm', e = .returned (.tuple #[.agg #[.int .i64 D2.k, .int .i64 D2.b, .int .i64 D2.c, .slice ac' nc' cc', .slice am' nm' cm'], .int .i64 E2]) ∧ Reads D2 ac' nc' am' nm' w' ∧
        ((ac' = none → cc' = 0) ∧ (am' = none → cm' = 0)) ∧ (∀ N : Nat → Prop, (∀ b, w.heap.size ≤ b → N b) → On N ac am → On N ac' am') ∧ Below w.heap.size w w' := by
  have hk : D2.k = d.k ∧ D2.b = d.b ∧ D2.c = d.c := by
    subst hD
    unfold addD
    split
    · exact ⟨rfl, rfl, rfl⟩
    · split <;> exact ⟨rfl, rfl, rfl⟩
  refine (radd_any d ac am nc cc nm cm b t x w h z.1 z.2 ht hx).mono ?_
  rintro e w' ⟨ac', nc', cc', am', nm', cm', rfl, hR, hz, hO, hb⟩
  exact ⟨ac', nc', cc', am', nm', cm', by rw [hE, hk.1, hk.2.1, hk.2.2], hD ▸ hR, hz, hO, hb⟩

/-- What New hands back: once it lies in a variable. -/
def NewA (d : HD) (E : Int) (w : World) (e : Ending) (w' : World) : Prop :=
  ∃ ac nc cc am nm cm, e = .returned (.tuple #[.agg #[.int .i64 d.k, .int .i64 d.b, .int .i64 d.c, .slice ac nc cc, .slice am nm cm], .int .i64 E]) ∧ Below w.heap.size w w' ∧
    ∀ w2, Below w'.heap.size w' w2 → VarH w'.heap.size d.k d.b d.c (.slice ac nc cc) (.slice am nm cm) w2 → Hold w'.heap.size w.heap.size d w2
/-- What the document's New hands back. -/
def RNewA (d : HD) (E : Int) (w : World) (e : Ending) (w' : World) : Prop :=
  ∃ ac nc cc am nm cm, e = .returned (.tuple #[.agg #[.int .i64 d.k, .int .i64 d.b, .int .i64 d.c, .slice ac nc cc, .slice am nm cm], .int .i64 E]) ∧ Below w.heap.size w w' ∧ Reads d ac nc am nm w' ∧
    ((ac = none → cc = 0) ∧ (am = none → cm = 0)) ∧ On (fun b => w.heap.size ≤ b ∧ b < w'.heap.size) ac am
theorem NewP.are {k b c : Int} {p q : Nat} {w : World} {e : Ending} {w' : World} (h : NewP k b c p q w e w') : NewA ⟨k, b, c, List.replicate p 0, List.replicate (q * 3) 0⟩ 0 w e w' := by
  obtain ⟨g, m, rfl, h1, h2, g1, g2, hgm, hb⟩ := h
  refine ⟨_, _, _, _, _, _, rfl, hb, fun w2 b2 hv => .inr ⟨g, m, ?_, g1, h1.lt, g2, h2.lt⟩⟩
  have l1 := h1.lt
  have l2 := h2.lt
  exact NewP.kept hv (h1.below b2 h1.lt) (h2.below b2 h2.lt) hgm (by omega) (by omega)
theorem zeros_all (n : Nat) : Wholes (List.replicate n (0 : Int)) := by
  intro j hj
  simp at hj
  rw [show (List.replicate n (0 : Int)).getD j 0 = 0 by simp [List.getD_eq_getElem?_getD, hj]]
  exact ⟨by omega, by omega⟩
theorem RNewP.are {k b c : Int} {p q : Nat} {w : World} {e : Ending} {w' : World} (h : RNewP k b c p q w e w') : RNewA ⟨k, b, c, List.replicate p 0, List.replicate (q * 3) 0⟩ 0 w e w' := by
  obtain ⟨C, M, rfl, h1, h2, hb⟩ := h
  have a1 : ∃ ac nc cc, C = .slice ac nc cc ∧ (List.replicate p (0 : Int)).length = nc ∧ HoldsE KL w' ac (List.replicate p 0) ∧ (ac = none → cc = 0) ∧ ∀ ad, ac = some ad → w.heap.size ≤ ad.block ∧ ad.block < w'.heap.size := by
    rcases h1.lst with ⟨rfl, h0⟩ | ⟨g, cap, rfl, hB, -, -, hL⟩
    · exact ⟨none, 0, 0, rfl, by rw [h0]; rfl, .inl h0, fun _ => rfl, fun ad h => by cases h⟩
    · exact ⟨_, _, cap, rfl, rfl, hL.holds, fun h => (by cases h), fun ad h => (by
        obtain rfl := Option.some.inj h
        have := hL.lt
        show w.heap.size ≤ g ∧ g < _
        omega)⟩
  have a2 : ∃ am nm cm, M = .slice am nm cm ∧ (List.replicate (q * 3) (0 : Int)).length = nm * 3 ∧ HoldsE KL w' am (List.replicate (q * 3) 0) ∧ (am = none → cm = 0) ∧ ∀ ad, am = some ad → w.heap.size ≤ ad.block ∧ ad.block < w'.heap.size := by
    obtain ⟨hl, ⟨rfl, h0⟩ | ⟨g, cap, rfl, hB, -, -, hL⟩⟩ := h2.lst
    · exact ⟨none, 0, 0, rfl, by rw [hl, h0], .inl (by rw [h0]; rfl), fun _ => rfl, fun ad h => by cases h⟩
    · exact ⟨_, _, cap, rfl, hl, hL.holds, fun h => (by cases h), fun ad h => (by
        obtain rfl := Option.some.inj h
        have := hL.lt
        show w.heap.size ≤ g ∧ g < _
        omega)⟩
  obtain ⟨ac, nc, cc, rfl, c1, c2, c3, c4⟩ := a1
  obtain ⟨am, nm, cm, rfl, m1, m2, m3, m4⟩ := a2
  exact ⟨ac, nc, cc, am, nm, cm, rfl, hb, ⟨c1, m1, c2, m2, zeros_all _, zeros_all _⟩, ⟨c3, m3⟩, c4, m4⟩

theorem new_both (k b c : Int) : ∃ d E, (E = 0 → rightD d = true) ∧ d.lc.length ≤ 65792 ∧ d.lm.length ≤ 771 ∧
    (∀ w, Calls Try.prog 10 #[.int .i64 k, .int .i64 b, .int .i64 c] w fun e w' => NewA d E w e w') ∧
    (∀ w, Calls Try.prog 11 #[.int .i64 k, .int .i64 b, .int .i64 c] w fun e w' => RNewA d E w e w') := by
  by_cases hp : 1 ≤ b ∧ b ≤ 257 ∧ ((k = 0 ∧ 2 ≤ c ∧ c ≤ 256) ∨ (k = 1 ∧ c = 0))
  · obtain ⟨b1, b2, h⟩ := hp
    obtain ⟨B, rfl⟩ : ∃ B : Nat, b = (B : Int) := ⟨b.toNat, by omega⟩
    rcases h with ⟨rfl, c1, c2⟩ | ⟨rfl, rfl⟩
    · obtain ⟨C, rfl⟩ : ∃ C : Nat, c = (C : Int) := ⟨c.toNat, by omega⟩
      have hm := mul_room b1 b2 c1 c2
      have hl : lenC 0 (B : Int) (C : Int) = ((B * C : Nat) : Int) := by rw [(may_0 b1 b2 rfl c1 c2).2.1]; simp
      have hq : lenM 0 (B : Int) (C : Int) = ((0 : Nat) : Int) := (may_0 b1 b2 rfl c1 c2).2.2
      have hn : ((B * C : Nat) : Int) = (B : Int) * (C : Int) := by simp
      refine ⟨⟨0, B, C, List.replicate (B * C) 0, List.replicate (0 * 3) 0⟩, 0, fun _ => ?_, by simp only [List.length_replicate]; omega, by simp only [List.length_replicate]; omega,
        fun w => (new_yes 0 B C (B * C) 0 hl hq (by omega) w).mono fun e w' h => h.are, fun w => (rnew_0 0 rfl B C (by omega) (by omega) (by omega) (by omega) w).mono fun e w' h => h.are⟩
      unfold rightD
      simp only [List.length_replicate, decide_eq_true_eq]
      rw [hl, hq]
      omega
    · have hl : lenC 1 (B : Int) 0 = ((0 : Nat) : Int) := (may_1 b1 b2 rfl rfl).2.1
      have hq : lenM 1 (B : Int) 0 = (B : Int) := (may_1 b1 b2 rfl rfl).2.2
      refine ⟨⟨1, B, 0, List.replicate 0 0, List.replicate (B * 3) 0⟩, 0, fun _ => ?_, by simp only [List.length_replicate]; omega, by simp only [List.length_replicate]; omega,
        fun w => (new_yes 1 B 0 0 B hl hq (by omega) w).mono fun e w' h => h.are, fun w => (rnew_1 B (by omega) (by omega) w).mono fun e w' h => h.are⟩
      unfold rightD
      simp only [List.length_replicate, decide_eq_true_eq]
      rw [hl, hq]
      omega
  · have hm := may_no hp
    have h0 : lenC k b c + lenM k b c = 0 := by
      have e1 : lenC k b c = 0 := if_neg (by omega)
      have e2 : lenM k b c = 0 := if_neg (by omega)
      rw [e1, e2]; rfl
    refine ⟨zD, 1, fun h => (by cases h), Nat.zero_le _, Nat.zero_le _, fun w => (new_no k b c h0 w).mono ?_, fun w => (rnew_no k b c hm w).mono ?_⟩
    · rintro e w' ⟨rfl, hb⟩
      exact ⟨none, 0, 0, none, 0, 0, rfl, hb, fun w2 _ hv => .inl ⟨rfl, hv⟩⟩
    · rintro e w' ⟨rfl, hb⟩
      exact ⟨none, 0, 0, none, 0, 0, rfl, hb, Reads.zero w', ⟨fun _ => rfl, fun _ => rfl⟩, fun ad h => (by cases h), fun ad h => by cases h⟩
end Go.Proofs.Ytdpcplhmnpglgaa
