/-
  Several texts in one: each says what it shows at its head.
-/
import Derived.Test.YtebdlmjpgohngaaOwnE
import Derived.ProofKit
import Derived.OpenShut
import Derived.ShutString
import Derived.Lib.SmallJoins
import Derived.Deep.Slices
import Derived.ChangeSame
import Derived.Carry
import Derived.Test.YtebdlmjpgohngaaMgA
/- WHAT CAME IN, in short: numbers by their bits. No condition. -/
namespace Go.Proofs.Ytebdlmjpgohngaa
open Go.ChangeShapes Go.WideShapes Go.ChangeAt Go.RowKit

theorem own : ownKnob Try.prog.godebug = none := by kernel_rfl
theorem laidOut : laidOutB Try.prog = true := by kernel_rfl
theorem block_lt {w : World} {b off : Nat} {v : Value} (h : w.cell? ⟨b, off, none⟩ = some v) : b < w.heap.size := by
  rcases Nat.lt_or_ge b w.heap.size with h' | h'
  · exact h'
  · simp [World.cell?, Array.getElem?_eq_none h'] at h
theorem plain_of {w : World} {a : Addr} {v : Value} (h : w.cell? a = some v) : ∃ b off, a = ⟨b, off, none⟩ ∧ b < w.heap.size := by
  obtain ⟨b, off, f⟩ := a
  cases f with
  | none =>
    refine ⟨b, off, rfl, ?_⟩
    rcases Nat.lt_or_ge b w.heap.size with h' | h'
    · exact h'
    · simp [World.cell?, Array.getElem?_eq_none h'] at h
  | some f => simp [World.cell?] at h; split at h <;> cases h
theorem in_i64 {x : Int} (h : (Lit.int .i64 x).wf = true) : -9223372036854775808 ≤ x ∧ x ≤ 9223372036854775807 := by
  simp [Lit.wf, IntKind.min, IntKind.max, IntKind.signed, IntKind.bits] at h
  exact ⟨by omega, by omega⟩
theorem in_u32 {x : Int} (h : (Lit.int .u32 x).wf = true) : 0 ≤ x ∧ x < 4294967296 := by
  simp [Lit.wf, IntKind.min, IntKind.max, IntKind.signed, IntKind.bits] at h
  omega
theorem in_u8 {x : Int} (h : (Lit.int .u8 x).wf = true) : 0 ≤ x ∧ x < 256 := by
  simp [Lit.wf, IntKind.min, IntKind.max, IntKind.signed, IntKind.bits] at h
  omega
end Go.Proofs.Ytebdlmjpgohngaa

/- WHAT CAME IN: a sample, and what is asked, by value. No condition. -/
namespace Go.Proofs.Ytebdlmjpgohngaa
open Go.ChangeShapes Go.WideShapes Go.ChangeAt Go.RowKit

theorem whole_i64 {x : Int} (h : (Lit.int .i64 x).wf = true) : Whole x := by
  have := in_i64 h
  exact ⟨by omega, by omega⟩
theorem in_u16 {x : Int} (h : (Lit.int .u16 x).wf = true) : 0 ≤ x ∧ x < 65536 := by
  simp [Lit.wf, IntKind.min, IntKind.max, IntKind.signed, IntKind.bits] at h
  omega
theorem wholes_of {l : List Int} (h : ∀ z ∈ l, Whole z) : Wholes l := by
  intro j hj
  have : l.getD j 0 ∈ l := by simp [List.getD_eq_getElem?_getD, hj]
  exact h _ this
theorem cellsInt : Try.prog.cellsOf 3 = 1 := by kernel_rfl
theorem cellsConfig : Try.prog.cellsOf 31 = 7 := by kernel_rfl
theorem cellsMatrix : Try.prog.cellsOf 34 = 3 := by kernel_rfl
theorem cellsU16s : Try.prog.cellsOf 32 = 1 := by kernel_rfl
theorem cellsI64s : Try.prog.cellsOf 35 = 1 := by kernel_rfl
theorem cellsInts : Try.prog.cellsOf 36 = 1 := by kernel_rfl
theorem cellsSample : Try.prog.cellsOf 38 = 12 := by kernel_rfl
theorem cellsAsked : Try.prog.cellsOf 40 = 3 := by kernel_rfl

theorem trod_u16s {H : Type} {enc : TypeId × Value → H} {W : World} {sp : Nat → Bool} {held : Bool} {m : Nat} {v : Value} {x : DataW H × List MemPlace}
    (h : DataW.trod enc Try.prog W 0 sp held m 32 [v] = some x) : ∃ (a : Option Addr) (n cap : Nat) (l : List Int), v = .slice a n cap ∧ l.length = n ∧ n ≤ cap ∧ (a = none → cap = 0) ∧ HoldsE KW W a l ∧ In16 l := by
  rcases open_ints Try.underlying32 Try.underlying88 (by kernel_rfl) h with ⟨hcs, _⟩ | ⟨x, l, c, zs, hcs, _, hl, hm, hz, _, hcell, hwz⟩
  · simp at hcs
    exact ⟨none, 0, 0, [], hcs, rfl, Nat.le_refl _, fun _ => rfl, .inl rfl, fun _ h => by cases h⟩
  · simp at hcs
    have hz' : l ≤ zs.length := by split at hz <;> omega
    refine ⟨some x, l, c, zs.take l, hcs, by simp; omega, hl, fun h => (by cases h), ?_, fun z hz => in_u16 (hwz z (List.mem_of_mem_take hz))⟩
    by_cases h0 : l = 0
    · subst h0; exact .inl (by simp)
    · obtain ⟨b, off, rfl, hc⟩ := ints_at hcell (by omega)
      refine .inr ⟨b, off, rfl, block_lt (hc 0 (by omega)), fun j hj => ?_⟩
      simp at hj
      rw [hc j (by omega)]
      simp [List.getD_eq_getElem?_getD, show j < l by omega, KW]
theorem trod_i64s {H : Type} {enc : TypeId × Value → H} {W : World} {sp : Nat → Bool} {held : Bool} {m : Nat} {v : Value} {x : DataW H × List MemPlace}
    (h : DataW.trod enc Try.prog W 0 sp held m 35 [v] = some x) : ∃ (a : Option Addr) (n cap : Nat) (l : List Int), v = .slice a n cap ∧ l.length = n ∧ n ≤ cap ∧ (a = none → cap = 0) ∧ HoldsE KL W a l ∧ Wholes l := by
  rcases open_ints Try.underlying35 Try.underlying2 (by kernel_rfl) h with ⟨hcs, _⟩ | ⟨x, l, c, zs, hcs, _, hl, hm, hz, _, hcell, hwz⟩
  · simp at hcs
    exact ⟨none, 0, 0, [], hcs, rfl, Nat.le_refl _, fun _ => rfl, .inl rfl, fun j h => by simp at h⟩
  · simp at hcs
    have hz' : l ≤ zs.length := by split at hz <;> omega
    refine ⟨some x, l, c, zs.take l, hcs, by simp; omega, hl, fun h => (by cases h), ?_, wholes_of fun z hz => whole_i64 (hwz z (List.mem_of_mem_take hz))⟩
    by_cases h0 : l = 0
    · subst h0; exact .inl (by simp)
    · obtain ⟨b, off, rfl, hc⟩ := ints_at hcell (by omega)
      refine .inr ⟨b, off, rfl, block_lt (hc 0 (by omega)), fun j hj => ?_⟩
      simp at hj
      rw [hc j (by omega)]
      simp [List.getD_eq_getElem?_getD, show j < l by omega, KL]
theorem trod_ints {H : Type} {enc : TypeId × Value → H} {W : World} {sp : Nat → Bool} {held : Bool} {m : Nat} {v : Value} {x : DataW H × List MemPlace}
    (h : DataW.trod enc Try.prog W 0 sp held m 36 [v] = some x) : ∃ (a : Option Addr) (n cap : Nat) (l : List Int), v = .slice a n cap ∧ l.length = n ∧ n ≤ cap ∧ (a = none → cap = 0) ∧ HoldsE KN W a l ∧ Wholes l := by
  rcases open_ints Try.underlying36 Try.underlying3 (by kernel_rfl) h with ⟨hcs, _⟩ | ⟨x, l, c, zs, hcs, _, hl, hm, hz, _, hcell, hwz⟩
  · simp at hcs
    exact ⟨none, 0, 0, [], hcs, rfl, Nat.le_refl _, fun _ => rfl, .inl rfl, fun j h => by simp at h⟩
  · simp at hcs
    have hz' : l ≤ zs.length := by split at hz <;> omega
    refine ⟨some x, l, c, zs.take l, hcs, by simp; omega, hl, fun h => (by cases h), ?_, wholes_of fun z hz => whole_i64 (hwz z (List.mem_of_mem_take hz))⟩
    by_cases h0 : l = 0
    · subst h0; exact .inl (by simp)
    · obtain ⟨b, off, rfl, hc⟩ := ints_at hcell (by omega)
      refine .inr ⟨b, off, rfl, block_lt (hc 0 (by omega)), fun j hj => ?_⟩
      simp at hj
      rw [hc j (by omega)]
      simp [List.getD_eq_getElem?_getD, show j < l by omega, KN]
theorem trod_cfg {H : Type} {enc : TypeId × Value → H} {W : World} {sp : Nat → Bool} {held : Bool} {m : Nat} {c0 c1 c2 c3 c4 c5 c6 : Value} {x : DataW H × List MemPlace}
    (h : DataW.trod enc Try.prog W 0 sp held m 31 [c0, c1, c2, c3, c4, c5, c6] = some x) : ∃ k c b t d l p : Int, (c0 = .int .i64 k ∧ c1 = .int .i64 c ∧ c2 = .int .i64 b ∧ c3 = .int .i64 t ∧ c4 = .int .i64 d ∧ c5 = .int .i64 l ∧ c6 = .int .i64 p) ∧ Whole c ∧ Whole b := by
  obtain ⟨xs, n, _, _, hl, hlen, hf⟩ := DataW.trod_struct Try.underlying31 h
  match xs, hlen with
  | [y0, y1, y2, y3, y4, y5, y6], _ =>
    have e0 := hf 0 _ rfl
    have e1 := hf 1 _ rfl
    have e2 := hf 2 _ rfl
    have e3 := hf 3 _ rfl
    have e4 := hf 4 _ rfl
    have e5 := hf 5 _ rfl
    have e6 := hf 6 _ rfl
    simp [cellsInt] at e0 e1 e2 e3 e4 e5 e6
    obtain ⟨a0, k0, _, w0⟩ := DataW.trod_int Try.underlying3 e0
    obtain ⟨a1, k1, _, w1⟩ := DataW.trod_int Try.underlying3 e1
    obtain ⟨a2, k2, _, w2⟩ := DataW.trod_int Try.underlying3 e2
    obtain ⟨a3, k3, _, w3⟩ := DataW.trod_int Try.underlying3 e3
    obtain ⟨a4, k4, _, w4⟩ := DataW.trod_int Try.underlying3 e4
    obtain ⟨a5, k5, _, w5⟩ := DataW.trod_int Try.underlying3 e5
    obtain ⟨a6, k6, _, w6⟩ := DataW.trod_int Try.underlying3 e6
    simp at k0 k1 k2 k3 k4 k5 k6
    exact ⟨a0, a1, a2, a3, a4, a5, a6, ⟨k0, k1, k2, k3, k4, k5, k6⟩, whole_i64 w1, whole_i64 w2⟩
theorem trod_mat {H : Type} {enc : TypeId × Value → H} {W : World} {sp : Nat → Bool} {held : Bool} {m : Nat} {c0 c1 c2 : Value} {x : DataW H × List MemPlace}
    (h : DataW.trod enc Try.prog W 0 sp held m 34 [c0, c1, c2] = some x) : ∃ (r q : Int) (a : Option Addr) (n c : Nat) (C : List Int), (c0 = .int .i64 r ∧ c1 = .int .i64 q ∧ c2 = .slice a n c) ∧ C.length = n ∧ HoldsE KW W a C ∧ In16 C := by
  obtain ⟨xs, n, _, _, hl, hlen, hf⟩ := DataW.trod_struct Try.underlying34 h
  match xs, hlen with
  | [y0, y1, y2], _ =>
    have e0 := hf 0 _ rfl
    have e1 := hf 1 _ rfl
    have e2 := hf 2 _ rfl
    simp [cellsInt, cellsU16s] at e0 e1 e2
    obtain ⟨r, k1, _, w1⟩ := DataW.trod_int Try.underlying3 e0
    obtain ⟨q, k2, _, w2⟩ := DataW.trod_int Try.underlying3 e1
    simp at k1 k2
    subst k1 k2
    obtain ⟨a, n', cap, C, rfl, h1, h2, h3, h4, h5⟩ := trod_u16s e2
    exact ⟨r, q, a, n', cap, C, ⟨rfl, rfl, rfl⟩, h1, h4, h5⟩

set_option maxRecDepth 20000 in
theorem open_sample {H : Type} {enc : TypeId × Value → H} {W : World} {base : Nat} {sp : Nat → Bool} {held : Bool} {v : Value} {dd : DataW H} {pp : List MemPlace}
    (hv : Value.okWide Try.prog W .any base 38 v) (h : DataW.Trod enc Try.prog W 0 sp held 38 v dd pp) :
    ∃ (s : SD) (aC aT aW : Option Addr) (cC cT cW : Nat), v = .agg (smpA s.k s.c s.b s.t s.d s.l s.p s.r s.q (.slice aC s.C.length cC) (.slice aT s.T.length cT) (.slice aW s.W.length cW)) ∧ HoldsE KW W aC s.C ∧ HoldsE KL W aT s.T ∧ HoldsE KN W aW s.W ∧ In16 s.C ∧ Wholes s.T ∧ Wholes s.W ∧ Whole s.c ∧ Whole s.b := by
  obtain ⟨cs, rfl, hsz, _⟩ : ∃ cs, v = .agg cs ∧ cs.size = Try.prog.cellsOf 38 ∧ Row.okWide Try.prog W .any base 38 cs := by
    simpa [Value.okWide, Try.underlying38] using hv
  rw [cellsSample] at hsz
  obtain ⟨l⟩ := cs
  match l, hsz with
  | [c0, c1, c2, c3, c4, c5, c6, c7, c8, c9, c10, c11], _ =>
    obtain ⟨fuel, hf⟩ := h
    obtain ⟨xs, n, _, _, hl, hlen, hf⟩ := DataW.trod_struct Try.underlying38 (show DataW.trod enc Try.prog W 0 sp held fuel 38 [c0, c1, c2, c3, c4, c5, c6, c7, c8, c9, c10, c11] = _ from hf)
    match xs, hlen with
    | [y0, y1, y2, y3], _ =>
      have e0 := hf 0 _ rfl
      have e1 := hf 1 _ rfl
      have e2 := hf 2 _ rfl
      have e3 := hf 3 _ rfl
      simp [cellsConfig, cellsMatrix, cellsI64s, cellsInts] at e0 e1 e2 e3
      obtain ⟨k, c, b, t, d, lf, p, ⟨rfl, rfl, rfl, rfl, rfl, rfl, rfl⟩, wc, wb⟩ := trod_cfg e0
      obtain ⟨r, q, aC, nC, cC, C, ⟨rfl, rfl, rfl⟩, hC1, hC2, hC3⟩ := trod_mat e1
      obtain ⟨aT, nT, cT, T, rfl, hT1, -, -, hT4, hT5⟩ := trod_i64s e2
      obtain ⟨aW, nW, cW, W', rfl, hW1, -, -, hW4, hW5⟩ := trod_ints e3
      subst hC1 hT1 hW1
      exact ⟨⟨k, c, b, t, d, lf, p, r, q, C, T, W'⟩, aC, aT, aW, cC, cT, cW, rfl, hC2, hT4, hW4, hC3, hT5, hW5, wc, wb⟩
set_option maxRecDepth 20000 in
theorem open_asked {H : Type} {enc : TypeId × Value → H} {W : World} {base : Nat} {sp : Nat → Bool} {held : Bool} {v : Value} {dd : DataW H} {pp : List MemPlace}
    (hv : Value.okWide Try.prog W .any base 40 v) (h : DataW.Trod enc Try.prog W 0 sp held 40 v dd pp) :
    ∃ (col parts : Int) (a : Option Addr) (c : Nat) (R : List Int), v = .agg #[.int .i64 col, .slice a R.length c, .int .i64 parts] ∧ R.length ≤ c ∧ (a = none → c = 0) ∧ HoldsE KN W a R ∧ Wholes R := by
  obtain ⟨cs, rfl, hsz, _⟩ : ∃ cs, v = .agg cs ∧ cs.size = Try.prog.cellsOf 40 ∧ Row.okWide Try.prog W .any base 40 cs := by
    simpa [Value.okWide, Try.underlying40] using hv
  rw [cellsAsked] at hsz
  obtain ⟨l⟩ := cs
  match l, hsz with
  | [c0, c1, c2], _ =>
    obtain ⟨fuel, hf⟩ := h
    obtain ⟨xs, n, _, _, hl, hlen, hf⟩ := DataW.trod_struct Try.underlying40 (show DataW.trod enc Try.prog W 0 sp held fuel 40 [c0, c1, c2] = _ from hf)
    match xs, hlen with
    | [y0, y1, y2], _ =>
      have e0 := hf 0 _ rfl
      have e1 := hf 1 _ rfl
      have e2 := hf 2 _ rfl
      simp [cellsInt, cellsInts] at e0 e1 e2
      obtain ⟨r, k1, _, w1⟩ := DataW.trod_int Try.underlying3 e0
      obtain ⟨q, k2, _, w2⟩ := DataW.trod_int Try.underlying3 e2
      simp at k1 k2
      subst k1 k2
      obtain ⟨a, n', cap, R, rfl, h1, h2, h3, h4, h5⟩ := trod_ints e1
      subst h1
      exact ⟨r, q, a, cap, R, rfl, h2, h3, h4, h5⟩
end Go.Proofs.Ytebdlmjpgohngaa
