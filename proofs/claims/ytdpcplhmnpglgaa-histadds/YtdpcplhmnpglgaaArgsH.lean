/-
  WHAT CAME IN: histograms and shapes by value, slices of facts, of numbers of 32 bits. No condition.
-/
import Derived.Test.YtdpcplhmnpglgaaHisM
import Derived.ProofKit
import Derived.OpenShut
import Derived.ShutString
import Derived.Lib.SmallJoins
import Derived.Deep.Slices
import Derived.ChangeSame
import Derived.Carry
namespace Go.Proofs.Ytdpcplhmnpglgaa
open Go.ChangeShapes Go.WideShapes Go.ChangeAt Go.RowKit

theorem own : ownKnob Try.prog.godebug = none := by kernel_rfl
theorem laidOut : laidOutB Try.prog = true := by kernel_rfl
theorem block_lt {w : World} {b off : Nat} {v : Value} (h : w.cell? ⟨b, off, none⟩ = some v) : b < w.heap.size := by
  rcases Nat.lt_or_ge b w.heap.size with h' | h'
  · exact h'
  · simp [World.cell?, Array.getElem?_eq_none h'] at h
theorem plain_of {w : World} {a : Addr} {v : Value} (h : w.cell? a = some v) : ∃ b off, a = ⟨b, off, none⟩ ∧ b < w.heap.size := by
  obtain ⟨b, off, f⟩ := a
  cases f with
  | none =>
    refine ⟨b, off, rfl, ?_⟩
    rcases Nat.lt_or_ge b w.heap.size with h' | h'
    · exact h'
    · simp [World.cell?, Array.getElem?_eq_none h'] at h
  | some f => simp [World.cell?] at h; split at h <;> cases h
theorem in_i64 {x : Int} (h : (Lit.int .i64 x).wf = true) : Whole x := by
  simp [Lit.wf, IntKind.min, IntKind.max, IntKind.signed, IntKind.bits] at h
  exact ⟨by omega, by omega⟩
theorem in_u32 {x : Int} (h : (Lit.int .u32 x).wf = true) : 0 ≤ x ∧ x < 4294967296 := by
  simp [Lit.wf, IntKind.min, IntKind.max, IntKind.signed, IntKind.bits] at h
  omega
theorem in_u8 {x : Int} (h : (Lit.int .u8 x).wf = true) : 0 ≤ x ∧ x < 256 := by
  simp [Lit.wf, IntKind.min, IntKind.max, IntKind.signed, IntKind.bits] at h
  omega
theorem cellsInt : Try.prog.cellsOf 3 = 1 := by kernel_rfl
theorem cellsI64 : Try.prog.cellsOf 2 = 1 := by kernel_rfl
theorem cellsI64s : Try.prog.cellsOf 26 = 1 := by kernel_rfl
theorem cellsMoms : Try.prog.cellsOf 27 = 1 := by kernel_rfl
theorem cellsMoment : Try.prog.cellsOf 47 = 3 := by kernel_rfl
theorem cellsFact : Try.prog.cellsOf 38 = 3 := by kernel_rfl
theorem cellsShape : Try.prog.cellsOf 23 = 3 := by kernel_rfl
theorem cellsHist : Try.prog.cellsOf 29 = 5 := by kernel_rfl

theorem open_u32s {H : Type} {enc : TypeId × Value → H} {W : World} {sp : Nat → Bool} {held : Bool} {a : Option Addr} {len cap : Nat} {d : DataW H} {p : List MemPlace}
    (h : DataW.Trod enc Try.prog W 0 sp held 55 (.slice a len cap) d p) : ∃ l : List Int, l.length = len ∧ HoldsE K32 W a l ∧ ∀ z ∈ l, 0 ≤ z ∧ z < 4294967296 := by
  obtain ⟨fuel, hf⟩ := h
  rcases open_ints Try.underlying55 Try.underlying56 (by kernel_rfl) hf with ⟨hcs, _⟩ | ⟨x, l, c, zs, hcs, _, hl, hm, hz, _, hcell, hwz⟩
  · simp [Value.cells] at hcs
    obtain ⟨rfl, rfl, rfl⟩ := hcs
    exact ⟨[], rfl, .inl rfl, fun _ h => by cases h⟩
  · simp [Value.cells] at hcs
    obtain ⟨rfl, rfl, rfl⟩ := hcs
    have hz' : len ≤ zs.length := by split at hz <;> omega
    refine ⟨zs.take len, by simp; omega, ?_, fun z hz => in_u32 (hwz z (List.mem_of_mem_take hz))⟩
    by_cases h0 : len = 0
    · subst h0; exact .inl (by simp)
    · obtain ⟨b, off, rfl, hc⟩ := ints_at hcell (by omega)
      refine .inr ⟨b, off, rfl, block_lt (hc 0 (by omega)), fun j hj => ?_⟩
      simp at hj
      rw [hc j (by omega)]
      simp [List.getD_eq_getElem?_getD, show j < len by omega, K32]
theorem wholes_of {l : List Int} (h : ∀ z ∈ l, Whole z) : Wholes l := by
  intro j hj
  have : l.getD j 0 ∈ l := by simp [List.getD_eq_getElem?_getD, hj]
  exact h _ this
theorem trod_i64s {H : Type} {enc : TypeId × Value → H} {W : World} {sp : Nat → Bool} {held : Bool} {m : Nat} {v : Value} {x : DataW H × List MemPlace}
    (h : DataW.trod enc Try.prog W 0 sp held m 26 [v] = some x) : ∃ (a : Option Addr) (n cap : Nat) (l : List Int), v = .slice a n cap ∧ l.length = n ∧ n ≤ cap ∧ (a = none → cap = 0) ∧ HoldsE KL W a l ∧ Wholes l := by
  rcases open_ints Try.underlying26 Try.underlying2 (by kernel_rfl) h with ⟨hcs, _⟩ | ⟨x, l, c, zs, hcs, _, hl, hm, hz, _, hcell, hwz⟩
  · simp at hcs
    exact ⟨none, 0, 0, [], hcs, rfl, Nat.le_refl _, fun _ => rfl, .inl rfl, fun j h => by simp at h⟩
  · simp at hcs
    have hz' : l ≤ zs.length := by split at hz <;> omega
    refine ⟨some x, l, c, zs.take l, hcs, by simp; omega, hl, fun h => (by cases h), ?_, wholes_of fun z hz => in_i64 (hwz z (List.mem_of_mem_take hz))⟩
    by_cases h0 : l = 0
    · subst h0; exact .inl (by simp)
    · obtain ⟨b, off, rfl, hc⟩ := ints_at hcell (by omega)
      refine .inr ⟨b, off, rfl, block_lt (hc 0 (by omega)), fun j hj => ?_⟩
      simp at hj
      rw [hc j (by omega)]
      simp [List.getD_eq_getElem?_getD, show j < l by omega, KL]
theorem trod_mom {H : Type} {enc : TypeId × Value → H} {W : World} {sp : Nat → Bool} {held : Bool} {m : Nat} {c0 c1 c2 : Value} {x : DataW H × List MemPlace}
    (h : DataW.trod enc Try.prog W 0 sp held m 47 [c0, c1, c2] = some x) : ∃ a b c : Int, c0 = .int .i64 a ∧ c1 = .int .i64 b ∧ c2 = .int .i64 c ∧ Whole a ∧ Whole b ∧ Whole c := by
  obtain ⟨xs, n, _, _, hl, hlen, hf⟩ := DataW.trod_struct Try.underlying47 h
  match xs, hlen with
  | [y0, y1, y2], _ =>
    have e0 := hf 0 _ rfl
    have e1 := hf 1 _ rfl
    have e2 := hf 2 _ rfl
    simp [cellsI64] at e0 e1 e2
    obtain ⟨a0, k0, _, w0⟩ := DataW.trod_int Try.underlying2 e0
    obtain ⟨a1, k1, _, w1⟩ := DataW.trod_int Try.underlying2 e1
    obtain ⟨a2, k2, _, w2⟩ := DataW.trod_int Try.underlying2 e2
    simp at k0 k1 k2
    exact ⟨a0, a1, a2, k0, k1, k2, in_i64 w0, in_i64 w1, in_i64 w2⟩
theorem trod_fact {H : Type} {enc : TypeId × Value → H} {W : World} {sp : Nat → Bool} {held : Bool} {m : Nat} {c0 c1 c2 : Value} {x : DataW H × List MemPlace}
    (h : DataW.trod enc Try.prog W 0 sp held m 38 [c0, c1, c2] = some x) : ∃ a b c : Int, c0 = .int .i64 a ∧ c1 = .int .i64 b ∧ c2 = .int .i64 c ∧ Whole a ∧ Whole b ∧ Whole c := by
  obtain ⟨xs, n, _, _, hl, hlen, hf⟩ := DataW.trod_struct Try.underlying38 h
  match xs, hlen with
  | [y0, y1, y2], _ =>
    have e0 := hf 0 _ rfl
    have e1 := hf 1 _ rfl
    have e2 := hf 2 _ rfl
    simp [cellsI64, cellsInt] at e0 e1 e2
    obtain ⟨a0, k0, _, w0⟩ := DataW.trod_int Try.underlying3 e0
    obtain ⟨a1, k1, _, w1⟩ := DataW.trod_int Try.underlying2 e1
    obtain ⟨a2, k2, _, w2⟩ := DataW.trod_int Try.underlying3 e2
    simp at k0 k1 k2
    exact ⟨a0, a1, a2, k0, k1, k2, in_i64 w0, in_i64 w1, in_i64 w2⟩
theorem trod_shape {H : Type} {enc : TypeId × Value → H} {W : World} {sp : Nat → Bool} {held : Bool} {m : Nat} {c0 c1 c2 : Value} {x : DataW H × List MemPlace}
    (h : DataW.trod enc Try.prog W 0 sp held m 23 [c0, c1, c2] = some x) : ∃ a b c : Int, c0 = .int .i64 a ∧ c1 = .int .i64 b ∧ c2 = .int .i64 c ∧ Whole a ∧ Whole b ∧ Whole c := by
  obtain ⟨xs, n, _, _, hl, hlen, hf⟩ := DataW.trod_struct Try.underlying23 h
  match xs, hlen with
  | [y0, y1, y2], _ =>
    have e0 := hf 0 _ rfl
    have e1 := hf 1 _ rfl
    have e2 := hf 2 _ rfl
    simp [cellsInt] at e0 e1 e2
    obtain ⟨a0, k0, _, w0⟩ := DataW.trod_int Try.underlying3 e0
    obtain ⟨a1, k1, _, w1⟩ := DataW.trod_int Try.underlying3 e1
    obtain ⟨a2, k2, _, w2⟩ := DataW.trod_int Try.underlying3 e2
    simp at k0 k1 k2
    exact ⟨a0, a1, a2, k0, k1, k2, in_i64 w0, in_i64 w1, in_i64 w2⟩
theorem trod_moms {H : Type} {enc : TypeId × Value → H} {W : World} {sp : Nat → Bool} {held : Bool} {m : Nat} {v : Value} {x : DataW H × List MemPlace}
    (h : DataW.trod enc Try.prog W 0 sp held m 27 [v] = some x) : ∃ (a : Option Addr) (n cap : Nat) (l : List Int), v = .slice a n cap ∧ l.length = n * 3 ∧ n ≤ cap ∧ (a = none → cap = 0) ∧ HoldsE KL W a l ∧ Wholes l := by
  rcases Go.Deep.open_slice Try.underlying27 h with ⟨hcs, _⟩ | ⟨x, l, c, m, n, Dd, Pl, hcs, _, hl, hm, hmm, _, hx⟩
  · simp at hcs
    exact ⟨none, 0, 0, [], hcs, rfl, Nat.le_refl _, fun _ => rfl, .inl rfl, fun j h => by simp at h⟩
  · simp at hcs
    have hlm : l ≤ m := by rw [hmm]; split <;> omega
    have each : ∀ i, i < l → ∃ q : Int × Int × Int, (W.cell? (x.add (i * 3)) = some (.int .i64 q.1) ∧ W.cell? (x.add (i * 3 + 1)) = some (.int .i64 q.2.1) ∧ W.cell? (x.add (i * 3 + 2)) = some (.int .i64 q.2.2)) ∧ Whole q.1 ∧ Whole q.2.1 ∧ Whole q.2.2 := by
      intro i hi
      obtain ⟨cs', h1, h2⟩ := hx i (by omega)
      rw [cellsMoment] at h1
      obtain ⟨_, hlen, hcell⟩ := World.cells?_some h1
      match cs', hlen with
      | [v0, v1, v2], _ =>
        obtain ⟨u, v, z, rfl, rfl, rfl, k⟩ := trod_mom h2
        have e0 := hcell 0 (by omega)
        have e1 := hcell 1 (by omega)
        have e2 := hcell 2 (by omega)
        rw [Go.Deep.add_add] at e0 e1 e2
        exact ⟨(u, v, z), ⟨by simpa using e0, by simpa using e1, by simpa using e2⟩, k⟩
    obtain ⟨q, hq⟩ := Go.Deep.choose_lt each
    refine ⟨some x, l, c, mapN (fun k => if k % 3 = 0 then (q (k / 3)).1 else if k % 3 = 1 then (q (k / 3)).2.1 else (q (k / 3)).2.2) (l * 3), hcs, mapN_len _ _, hl, fun h => (by cases h), ?_, ?_⟩
    · by_cases h0 : l = 0
      · subst h0; exact .inl rfl
      · obtain ⟨b, off, e, hb⟩ := plain_of (hq 0 (by omega)).1.1
        obtain ⟨b', off', f⟩ := x
        cases f with
        | some f => simp [Addr.add] at e
        | none =>
          have hb2 : b' < W.heap.size := by
            simp [Addr.add] at e
            omega
          refine .inr ⟨b', off', rfl, hb2, fun j hj => ?_⟩
          rw [mapN_len] at hj
          obtain ⟨k0, k1, k2⟩ := (hq (j / 3) (by omega)).1
          rw [Go.WideShapes.add_plain] at k0 k1 k2
          show W.cell? _ = some (.int .i64 ((mapN _ (l * 3)).getD j 0))
          rw [mapN_get _ hj]
          have h3 : j % 3 = 0 ∨ j % 3 = 1 ∨ j % 3 = 2 := by omega
          rcases h3 with h3 | h3 | h3
          · rw [if_pos h3, show off' + j = off' + j / 3 * 3 by omega]; exact k0
          · rw [if_neg (by omega), if_pos h3, show off' + j = off' + (j / 3 * 3 + 1) by omega]; exact k1
          · rw [if_neg (by omega), if_neg (by omega), show off' + j = off' + (j / 3 * 3 + 2) by omega]; exact k2
    · intro j hj
      rw [mapN_len] at hj
      rw [mapN_get _ hj]
      obtain ⟨k0, k1, k2⟩ := (hq (j / 3) (by omega)).2
      split
      · exact k0
      · split
        · exact k1
        · exact k2
theorem trod_facts {H : Type} {enc : TypeId × Value → H} {W : World} {sp : Nat → Bool} {held : Bool} {m : Nat} {v : Value} {x : DataW H × List MemPlace}
    (h : DataW.trod enc Try.prog W 0 sp held m 24 [v] = some x) : ∃ (a : Option Addr) (n cap : Nat) (l : List Int), v = .slice a n cap ∧ l.length = n * 3 ∧ n ≤ cap ∧ (a = none → cap = 0) ∧ HoldsE KL W a l ∧ Wholes l := by
  rcases Go.Deep.open_slice Try.underlying24 h with ⟨hcs, _⟩ | ⟨x, l, c, m, n, Dd, Pl, hcs, _, hl, hm, hmm, _, hx⟩
  · simp at hcs
    exact ⟨none, 0, 0, [], hcs, rfl, Nat.le_refl _, fun _ => rfl, .inl rfl, fun j h => by simp at h⟩
  · simp at hcs
    have hlm : l ≤ m := by rw [hmm]; split <;> omega
    have each : ∀ i, i < l → ∃ q : Int × Int × Int, (W.cell? (x.add (i * 3)) = some (.int .i64 q.1) ∧ W.cell? (x.add (i * 3 + 1)) = some (.int .i64 q.2.1) ∧ W.cell? (x.add (i * 3 + 2)) = some (.int .i64 q.2.2)) ∧ Whole q.1 ∧ Whole q.2.1 ∧ Whole q.2.2 := by
      intro i hi
      obtain ⟨cs', h1, h2⟩ := hx i (by omega)
      rw [cellsFact] at h1
      obtain ⟨_, hlen, hcell⟩ := World.cells?_some h1
      match cs', hlen with
      | [v0, v1, v2], _ =>
        obtain ⟨u, v, z, rfl, rfl, rfl, k⟩ := trod_fact h2
        have e0 := hcell 0 (by omega)
        have e1 := hcell 1 (by omega)
        have e2 := hcell 2 (by omega)
        rw [Go.Deep.add_add] at e0 e1 e2
        exact ⟨(u, v, z), ⟨by simpa using e0, by simpa using e1, by simpa using e2⟩, k⟩
    obtain ⟨q, hq⟩ := Go.Deep.choose_lt each
    refine ⟨some x, l, c, mapN (fun k => if k % 3 = 0 then (q (k / 3)).1 else if k % 3 = 1 then (q (k / 3)).2.1 else (q (k / 3)).2.2) (l * 3), hcs, mapN_len _ _, hl, fun h => (by cases h), ?_, ?_⟩
    · by_cases h0 : l = 0
      · subst h0; exact .inl rfl
      · obtain ⟨b, off, e, hb⟩ := plain_of (hq 0 (by omega)).1.1
        obtain ⟨b', off', f⟩ := x
        cases f with
        | some f => simp [Addr.add] at e
        | none =>
          have hb2 : b' < W.heap.size := by
            simp [Addr.add] at e
            omega
          refine .inr ⟨b', off', rfl, hb2, fun j hj => ?_⟩
          rw [mapN_len] at hj
          obtain ⟨k0, k1, k2⟩ := (hq (j / 3) (by omega)).1
          rw [Go.WideShapes.add_plain] at k0 k1 k2
          show W.cell? _ = some (.int .i64 ((mapN _ (l * 3)).getD j 0))
          rw [mapN_get _ hj]
          have h3 : j % 3 = 0 ∨ j % 3 = 1 ∨ j % 3 = 2 := by omega
          rcases h3 with h3 | h3 | h3
          · rw [if_pos h3, show off' + j = off' + j / 3 * 3 by omega]; exact k0
          · rw [if_neg (by omega), if_pos h3, show off' + j = off' + (j / 3 * 3 + 1) by omega]; exact k1
          · rw [if_neg (by omega), if_neg (by omega), show off' + j = off' + (j / 3 * 3 + 2) by omega]; exact k2
    · intro j hj
      rw [mapN_len] at hj
      rw [mapN_get _ hj]
      obtain ⟨k0, k1, k2⟩ := (hq (j / 3) (by omega)).2
      split
      · exact k0
      · split
        · exact k1
        · exact k2
theorem open_facts {H : Type} {enc : TypeId × Value → H} {W : World} {sp : Nat → Bool} {held : Bool} {a : Option Addr} {len cap : Nat} {d : DataW H} {p : List MemPlace}
    (h : DataW.Trod enc Try.prog W 0 sp held 24 (.slice a len cap) d p) : ∃ l : List Int, l.length = len * 3 ∧ HoldsE KL W a l ∧ Wholes l := by
  obtain ⟨fuel, hf⟩ := h
  obtain ⟨a', n, c, l, e, h1, h2, h3, h4, h5⟩ := trod_facts hf
  injection e with e1 e2 e3
  subst e1 e2 e3
  exact ⟨l, h1, h4, h5⟩

set_option maxRecDepth 20000 in
theorem open_shape {H : Type} {enc : TypeId × Value → H} {W : World} {base : Nat} {sp : Nat → Bool} {held : Bool} {v : Value} {dd : DataW H} {pp : List MemPlace}
    (hv : Value.okWide Try.prog W .any base 23 v) (h : DataW.Trod enc Try.prog W 0 sp held 23 v dd pp) :
    ∃ k b c : Int, v = .agg #[.int .i64 k, .int .i64 b, .int .i64 c] ∧ Whole k ∧ Whole b ∧ Whole c := by
  obtain ⟨cs, rfl, hsz, _⟩ : ∃ cs, v = .agg cs ∧ cs.size = Try.prog.cellsOf 23 ∧ Row.okWide Try.prog W .any base 23 cs := by
    simpa [Value.okWide, Try.underlying23] using hv
  rw [cellsShape] at hsz
  obtain ⟨l⟩ := cs
  match l, hsz with
  | [c0, c1, c2], _ =>
    obtain ⟨fuel, hf⟩ := h
    obtain ⟨a, b, c, rfl, rfl, rfl, k⟩ := trod_shape (show DataW.trod enc Try.prog W 0 sp held fuel 23 [c0, c1, c2] = _ from hf)
    exact ⟨a, b, c, rfl, k⟩

set_option maxRecDepth 20000 in
theorem open_hist {H : Type} {enc : TypeId × Value → H} {W : World} {base : Nat} {sp : Nat → Bool} {held : Bool} {v : Value} {dd : DataW H} {pp : List MemPlace}
    (hv : Value.okWide Try.prog W .any base 29 v) (h : DataW.Trod enc Try.prog W 0 sp held 29 v dd pp) :
    ∃ (d : HD) (ac : Option Addr) (nc cc : Nat) (am : Option Addr) (nm cm : Nat), v = .agg #[.int .i64 d.k, .int .i64 d.b, .int .i64 d.c, .slice ac nc cc, .slice am nm cm] ∧ Reads d ac nc am nm W ∧ (Whole d.k ∧ Whole d.b ∧ Whole d.c) ∧ nc ≤ cc ∧ nm ≤ cm ∧ (ac = none → cc = 0) ∧ (am = none → cm = 0) := by
  obtain ⟨cs, rfl, hsz, _⟩ : ∃ cs, v = .agg cs ∧ cs.size = Try.prog.cellsOf 29 ∧ Row.okWide Try.prog W .any base 29 cs := by
    simpa [Value.okWide, Try.underlying29] using hv
  rw [cellsHist] at hsz
  obtain ⟨l⟩ := cs
  match l, hsz with
  | [c0, c1, c2, c3, c4], _ =>
    obtain ⟨fuel, hf⟩ := h
    obtain ⟨xs, n, _, _, hl, hlen, hf⟩ := DataW.trod_struct Try.underlying29 (show DataW.trod enc Try.prog W 0 sp held fuel 29 [c0, c1, c2, c3, c4] = _ from hf)
    match xs, hlen with
    | [y0, y1, y2, y3, y4], _ =>
      have e0 := hf 0 _ rfl
      have e1 := hf 1 _ rfl
      have e2 := hf 2 _ rfl
      have e3 := hf 3 _ rfl
      have e4 := hf 4 _ rfl
      simp [cellsInt, cellsI64s, cellsMoms] at e0 e1 e2 e3 e4
      obtain ⟨k, k0, _, w0⟩ := DataW.trod_int Try.underlying3 e0
      obtain ⟨b, k1, _, w1⟩ := DataW.trod_int Try.underlying3 e1
      obtain ⟨c, k2, _, w2⟩ := DataW.trod_int Try.underlying3 e2
      simp at k0 k1 k2
      subst k0 k1 k2
      obtain ⟨ac, nc, cc, lc, rfl, h1, h2, h3, h4, h5⟩ := trod_i64s e3
      obtain ⟨am, nm, cm, lm, rfl, g1, g2, g3, g4, g5⟩ := trod_moms e4
      exact ⟨⟨k, b, c, lc, lm⟩, ac, nc, cc, am, nm, cm, rfl, ⟨h1, g1, h4, g4, h5, g5⟩, ⟨in_i64 w0, in_i64 w1, in_i64 w2⟩, h2, g2, h3, g3⟩
end Go.Proofs.Ytdpcplhmnpglgaa
