/-
  PERMUTES: are these the numbers of so many rows, each once: by the program, whose map holds what has been, and by the document. Condition: at most 2^20 numbers.
-/
import Derived.Test.YtjaogmbeoldefaaBin0
import Derived.Maps.OwnSet
namespace Go.Proofs.Ytjaogmbeoldefaa
open Go.RowKit Go.Maps

theorem lawN : Keyed Try.prog 3 := int_keyed Try.underlying3
theorem zeroU (w : World) : (zeroValue 83).run Try.prog w = .ok (.agg #[]) w := by kernel_rfl
theorem makeMapN (w : World) (n : Int) : (Instr.makeMap 82 (some (.int .i64 n))).run Try.prog w = .ok (.map (some w.heap.size)) (w.alloc (.map #[] 0)) := by
  simp [Instr.makeMap, run_underlying Try.underlying82, asInt, asIntOf, Result.andThen]

/-- The set of the first k numbers. -/
def hadL (p : List Int) (k : Nat) : DataW Unit := setOf (.agg []) ((p.take k).map (Lit.int .i64))
theorem hadL_zero (p : List Int) : hadL p 0 = .map [] := by simp [hadL, setOf]
theorem hadL_succ (p : List Int) (k : Nat) (hk : k < p.length) : hadL p (k + 1) = (hadL p k).put (.int .i64 (p.getD k 0)) (.agg []) := by
  unfold hadL
  rw [List.take_add_one, List.getElem?_eq_getElem hk, List.map_append]
  have e : p.getD k 0 = p[k] := by simp [List.getD_eq_getElem?_getD, hk]
  rw [e]
  exact setOf_snoc _ _ _
theorem any_int (x : Int) : ∀ l : List Int, (l.map (Lit.int .i64)).any (fun y : Lit => y.sameKey (.int .i64 x)) = l.contains x
  | [] => rfl
  | a :: r => by
    rw [List.map_cons, List.any_cons, List.contains_cons, any_int x r]
    congr 1
    show decide (IntKind.i64 = IntKind.i64 ∧ a = x) = (x == a)
    by_cases e : a = x
    · subst e
      simp
    · have e' : ¬ x = a := fun h => e h.symm
      simp [e, e']
theorem has_hadL (p : List Int) (k : Nat) (x : Int) : Maps.has (hadL p k) (.int .i64 x) = (p.take k).contains x := by
  unfold hadL
  rw [has_setOf _ _ _ (fun y hy => by obtain ⟨_, _, rfl⟩ := List.mem_map.1 hy; trivial)]
  exact any_int x _
theorem had_yes {p : List Int} {k : Nat} (hk : k < p.length) (h : Maps.has (hadL p k) (.int .i64 (p.getD k 0)) = true) : ∃ i, i < k ∧ p.getD i 0 = p.getD k 0 := by
  rw [has_hadL, List.contains_iff_mem] at h
  obtain ⟨i, hi, e⟩ := List.mem_take_iff_getElem.1 h
  have hi' : i < k ∧ i < p.length := by omega
  exact ⟨i, hi'.1, by rw [← e]; simp [List.getD_eq_getElem?_getD, hi'.2]⟩
theorem had_no {p : List Int} {k : Nat} (hk : k < p.length) (h : Maps.has (hadL p k) (.int .i64 (p.getD k 0)) = false) : ∀ i, i < k → p.getD i 0 ≠ p.getD k 0 := by
  intro i hi e
  rw [has_hadL] at h
  have : (p.take k).contains (p.getD k 0) = true := by
    rw [List.contains_iff_mem, List.mem_take_iff_getElem]
    exact ⟨i, by omega, by rw [← e]; simp [List.getD_eq_getElem?_getD, show i < p.length by omega]⟩
  rw [this] at h
  cases h

/-- Whole numbers of 64 bits. -/
def In64s (T : List Int) : Prop := ∀ x ∈ T, -9223372036854775808 ≤ x ∧ x ≤ 9223372036854775807
theorem wf64 {x : Int} (h : -9223372036854775808 ≤ x ∧ x ≤ 9223372036854775807) : (Lit.int .i64 x).wf = true := by
  simp [Lit.wf, IntKind.min, IntKind.max, IntKind.signed, IntKind.bits]
  omega
theorem In64s.at {p : List Int} (h : In64s p) {k : Nat} (hk : k < p.length) : -9223372036854775808 ≤ p.getD k 0 ∧ p.getD k 0 ≤ 9223372036854775807 := h _ (getD_mem hk)
theorem up_is {k n : Nat} (h : k < n) (hb : n ≤ 16777216) : Value.int .i64 (wrap64 ((k : Int) + 1)) = .int .i64 ((k + 1 : Nat) : Int) := by
  have : wrap64 ((k : Int) + 1) = ((k + 1 : Nat) : Int) := by unfold wrap64; omega
  rw [this]
theorem up_less {k n : Nat} (h : k < n) (hb : n ≤ 16777216) : n - (intOf (Value.int .i64 (wrap64 ((k : Int) + 1)))).toNat < n - (intOf (Value.int .i64 (k : Int))).toNat := by
  rw [up_is h hb]
  simp [intOf]
  omega
theorem Chk.step {p : List Int} {k : Nat} (h : Chk p k) (h1 : 0 ≤ p.getD k 0 ∧ p.getD k 0 < (p.length : Int)) (h2 : ∀ i, i < k → p.getD i 0 ≠ p.getD k 0) : Chk p (k + 1) := by
  intro t ht
  by_cases e : t = k
  · subst e; exact ⟨h1, h2⟩
  · exact h t (by omega)

set_option maxHeartbeats 2000000 in
set_option maxRecDepth 100000 in
theorem permutes_any (a : Option Addr) (n cap : Nat) (p : List Int) (hn : p.length = n) (hb : n ≤ 1048576) (h64 : In64s p) (r : Int) (w : World) (hr : HoldsE KN w a p) :
    Calls Try.prog 39 #[.slice a n cap, .int .i64 r] w fun x w' => x = .returned (.bool (permB p r)) ∧ Below w.heap.size w w' := by
  by_cases h1 : (n : Int) = r
  · have hmm := makeMapN
    have HN := Lib.hid hn
    have HR := Lib.hid (show ((p.length : Nat) : Int) = r by rw [hn]; exact h1)
    have g1 : ((n : Int) != r) = false := by simpa using h1
    have HB := Lib.hid hb
    have hL0 := World.ownsMap_made (P := Try.prog) (k := 3) (R := unitElem (H := Unit)) w
    clear hn h1 hb
    go_enter Try.func39, Try.ntmps39
    go_wp2_with fail
    go_loopw [18] (fun i wr => ∃ k : Nat, k ≤ n ∧ i = .int .i64 (k : Int) ∧ wr.ownsMap Try.prog 3 unitElem w.heap.size k (hadL p k) ∧ Below w.heap.size w wr ∧ w.heap.size + 1 ≤ wr.heap.size ∧ Hid (Chk p k)) (fun i _ => n - (intOf i).toNat)
    case atStart => exact ⟨0, Nat.zero_le _, rfl, by rw [hadL_zero]; exact hL0, (Below.refl _ _).alloc (Nat.le_refl _) _, by simp, fun t ht => by omega⟩
    case round =>
      obtain ⟨k, hk, rfl, hown, hnx, hws, HC⟩ := hrel
      clear hL0
      by_cases hlt : k < n
      · have hkp : k < p.length := by rw [HN.out]; exact hlt
        obtain ⟨g, off, rfl, hg, hrow⟩ := hr.at hkp
        obtain ⟨x, HX⟩ : ∃ x, Hid (p.getD k 0 = x) := ⟨_, rfl⟩
        have hx64 := h64.at hkp
        have cx : wr.cell? ⟨g, off + k, none⟩ = some (.int .i64 x) := by rw [← HX.out]; exact (hnx.cell (by exact hg)).trans (hrow k hkp)
        rw [HX.out] at hx64
        have hkey : keyOf Try.prog 3 (.int .i64 x) = some (.int .i64 x) := keyOf_int_mk Try.underlying3 (wf64 hx64)
        have i1 : (k : Int) < (n : Int) := by omega
        have HLT := Lib.hid hlt
        have HNX := Lib.hid (up_is hlt (by have := HB.out; omega))
        have HNL := Lib.hid (up_less hlt (by have := HB.out; omega))
        have hb20 : k < maxLen := by have := HB.out; unfold maxLen; omega
        have HS := Lib.hid (hadL_succ p k hkp)
        have HY : Hid (Maps.has (hadL p k) (.int .i64 x) = true → ∃ i, i < k ∧ p.getD i 0 = p.getD k 0) := fun h => had_yes hkp (by rw [HX.out]; exact h)
        have HNO : Hid (Maps.has (hadL p k) (.int .i64 x) = false → ∀ i, i < k → p.getD i 0 ≠ p.getD k 0) := fun h => had_no hkp (by rw [HX.out]; exact h)
        have HKP := Lib.hid hkp
        rw [HX.out] at HS
        clear hrow hr hx64 hlt hkp h64
        obtain ⟨bh, HBH⟩ : ∃ bh, Hid (Maps.has (hadL p k) (.int .i64 x) = bh) := ⟨_, rfl⟩
        have ebh := HBH.out
        cases bh with
        | true =>
          obtain ⟨i, hi, hie⟩ := HY.out ebh
          have HZ : Hid (permB p r = false) := permB_dup HKP.out hi hie
          clear hie hi
          go_wp2_with (first
            | (at_lookup; refine wpList_lookup_own_unit _ rfl _ _ 82 rfl 3 83 lawN Try.underlying82 (zeroU _) w.heap.size k _ rfl hown _ _ rfl hkey ?_))
          go_ret
          exact ⟨by rw [HZ.out]; rfl, hnx.alloc hnx.size _⟩
        | false =>
          by_cases hin : 0 ≤ x ∧ x < r
          · have cw := within_any x r (wr.alloc (.cells #[] 83))
            rw [decide_eq_true hin] at cw
            have HC2 : Hid (Chk p (k + 1)) := HC.out.step (by rw [HX.out, HR.out]; exact hin) (HNO.out ebh)
            clear hin
            go_wp2_with (first
              | (at_lookup; refine wpList_lookup_own_unit _ rfl _ _ 82 rfl 3 83 lawN Try.underlying82 (zeroU _) w.heap.size k _ rfl hown _ _ rfl hkey ?_)
              | (go_at_call 38; refine cw.mono ?_; rintro e w' ⟨rfl, rfl⟩)
              | (at_mapUpdate; refine wpList_mapUpdate_own _ rfl _ _ _ 82 rfl 3 83 lawN Try.underlying82 (unitElem (H := Unit)) w.heap.size k _ rfl (hown.alloc _) hb20 _ _ _ rfl rfl hkey _ [] unitElem_mk ?_; intro w1 hown1 hgrow1))
            have s1 := hgrow1.size
            simp at s1
            go_roundw
            case rel => exact ⟨k + 1, HLT.out, HNX.out, by rw [HS.out]; exact hown1, (hnx.alloc hnx.size _).grown hgrow1 (by simp; omega) (fun j hj => by cases hj; exact Nat.le_refl _), by omega, HC2⟩
            case measure => exact HNL.out
          · have cw := within_any x r (wr.alloc (.cells #[] 83))
            rw [decide_eq_false hin] at cw
            have HZ : Hid (permB p r = false) := permB_out HKP.out (by rw [HX.out, HR.out]; exact hin)
            clear hin
            go_wp2_with (first
              | (at_lookup; refine wpList_lookup_own_unit _ rfl _ _ 82 rfl 3 83 lawN Try.underlying82 (zeroU _) w.heap.size k _ rfl hown _ _ rfl hkey ?_)
              | (go_at_call 38; refine cw.mono ?_; rintro e w' ⟨rfl, rfl⟩))
            go_ret
            exact ⟨by rw [HZ.out]; rfl, hnx.alloc hnx.size _⟩
      · obtain rfl : k = n := by omega
        have HZ : Hid (permB p r = true) := permB_yes HR.out (by rw [HN.out]; exact HC.out)
        clear hlt hr h64 hown
        go_wp2_with fail
        go_ret
        exact ⟨by rw [HZ.out]; rfl, hnx⟩
  · have HZ : Hid (permB p r = false) := permB_len (by rw [hn]; exact h1)
    have g1 : ((n : Int) != r) = true := by simpa using h1
    rw [HZ.out]
    clear hn h1 hr h64
    go_enter Try.func39, Try.ntmps39
    go_wp2_with fail
    go_ret
    exact ⟨rfl, Below.refl _ _⟩
end Go.Proofs.Ytjaogmbeoldefaa
