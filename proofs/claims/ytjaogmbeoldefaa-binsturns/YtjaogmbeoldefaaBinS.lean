/-
  THE DOCUMENT's: are these the numbers of so many rows, each once; two matrices held against one another, cell by cell. Condition: at most 2^20 numbers and cells.
-/
import Derived.Test.YtjaogmbeoldefaaBinC
namespace Go.Proofs.Ytjaogmbeoldefaa
open Go.RowKit

/-- How often a number stands among the first k. -/
def cntTo (p : List Int) (x : Int) (k : Nat) : Nat := (p.take k).count x
theorem cntTo_zero (p : List Int) (x : Int) : cntTo p x 0 = 0 := by simp [cntTo]
theorem cntTo_le (p : List Int) (x : Int) (k : Nat) : cntTo p x k ≤ k := by
  unfold cntTo
  have := List.count_le_length (a := x) (l := p.take k)
  rw [List.length_take] at this
  omega
theorem cntTo_yes {p : List Int} {x : Int} {k : Nat} (hk : k < p.length) (h : p.getD k 0 = x) : cntTo p x (k + 1) = cntTo p x k + 1 := by
  unfold cntTo
  rw [List.take_add_one, List.getElem?_eq_getElem hk, List.count_append]
  have : p[k] = x := by rw [← h]; simp [List.getD_eq_getElem?_getD, hk]
  simp [this]
theorem cntTo_no {p : List Int} {x : Int} {k : Nat} (hk : k < p.length) (h : p.getD k 0 ≠ x) : cntTo p x (k + 1) = cntTo p x k := by
  unfold cntTo
  rw [List.take_add_one, List.getElem?_eq_getElem hk, List.count_append]
  have : p[k] ≠ x := by
    intro e; apply h; rw [← e]; simp [List.getD_eq_getElem?_getD, hk]
  simp [this]
theorem cntTo_all {p : List Int} {x : Int} {k : Nat} (hk : p.length ≤ k) : cntTo p x k = p.count x := by
  unfold cntTo; rw [List.take_of_length_le hk]
theorem permB_count {p : List Int} {r : Int} {t : Nat} (ht : t < p.length) (h : p.count ((t : Nat) : Int) ≠ 1) : permB p r = false := decide_eq_false fun k => h (k.2 t ht)
theorem permB_all {p : List Int} {r : Int} (h : ((p.length : Nat) : Int) = r) (hc : ∀ t, t < p.length → p.count ((t : Nat) : Int) = 1) : permB p r = true := decide_eq_true ⟨h, hc⟩

set_option maxHeartbeats 2000000 in
set_option maxRecDepth 20000 in
theorem refPermutes_any (a : Option Addr) (n cap : Nat) (p : List Int) (hn : p.length = n) (hb : n ≤ 1048576) (r : Int) (w : World) (hr : HoldsE KN w a p) :
    Calls Try.prog 26 #[.slice a n cap, .int .i64 r] w fun x w' => x = .returned (.bool (permB p r)) ∧ w = w' := by
  by_cases h1 : (n : Int) = r
  · have HN := Lib.hid hn
    have HR := Lib.hid (show ((p.length : Nat) : Int) = r by rw [hn]; exact h1)
    subst h1
    have HB := Lib.hid hb
    clear hn hb
    go_enter Try.func26, Try.ntmps26
    go_wp2_with fail
    go_loopw [5] (fun v wr => ∃ i : Nat, v = .int .i64 (i : Int) ∧ i ≤ n ∧ wr = w ∧ Hid (∀ t, t < i → p.count ((t : Nat) : Int) = 1)) (fun v _ => n - (intOf v).toNat)
    case atStart => exact ⟨0, rfl, by omega, rfl, fun t ht => by omega⟩
    case round =>
      obtain ⟨i, rfl, hi, rfl, HC⟩ := hrel
      by_cases hlt : i < n
      · have HLT := Lib.hid hlt
        have i1 : (i : Int) < (n : Int) := by omega
        have HU := Lib.hid (up_is hlt (show n ≤ 16777216 by have := HB.out; omega))
        have HV := Lib.hid (up_less hlt (show n ≤ 16777216 by have := HB.out; omega))
        clear hlt hi
        go_wp2_with fail
        go_loopw [6, 7] (fun cv v wq => ∃ k : Nat, v = .int .i64 (k : Int) ∧ k ≤ n ∧ cv = .int .i64 ((cntTo p (i : Int) k : Nat) : Int) ∧ wq = wr) (fun _ v _ => n - (intOf v).toNat)
        case atStart => exact ⟨0, rfl, by omega, by rw [cntTo_zero]; rfl, rfl⟩
        case round =>
          obtain ⟨k, rfl, hk, rfl, rfl⟩ := hrel
          by_cases hkl : k < n
          · have hkp : k < p.length := by rw [HN.out]; exact hkl
            obtain ⟨g, off, rfl, hg, hrow⟩ := hr.at hkp
            obtain ⟨x, HX⟩ : ∃ x, Hid (p.getD k 0 = x) := ⟨_, rfl⟩
            have cx : wr.cell? ⟨g, off + k, none⟩ = some (.int .i64 x) := by rw [← HX.out]; exact hrow k hkp
            have j1 : (k : Int) < (n : Int) := by omega
            have HKU := Lib.hid (up_is hkl (show n ≤ 16777216 by have := HB.out; omega))
            have HKV := Lib.hid (up_less hkl (show n ≤ 16777216 by have := HB.out; omega))
            have HKL := Lib.hid hkl
            have hcl := cntTo_le p (i : Int) k
            have HCU := Lib.hid (up_is (k := cntTo p (i : Int) k) (n := n + 1) (by omega) (show n + 1 ≤ 16777216 by have := HB.out; omega))
            by_cases e : x = (i : Int)
            · have HS := Lib.hid (cntTo_yes hkp (HX.out.trans e))
              subst e
              clear hrow hr hkp hkl hk hcl
              generalize cntTo p (i : Int) k = cc at *
              go_wp2_with fail
              go_roundw
              case rel => exact ⟨k + 1, HKU.out, HKL.out, by rw [HS.out]; exact HCU.out, trivial⟩
              case measure => exact HKV.out
            · have HS := Lib.hid (cntTo_no hkp (fun h => e (HX.out.symm.trans h)))
              have g1 : (x == (i : Int)) = false := by simpa using e
              clear hrow hr hkp hkl hk hcl e
              generalize cntTo p (i : Int) k = cc at *
              go_wp2_with fail
              go_roundw
              case rel => exact ⟨k + 1, HKU.out, HKL.out, by rw [HS.out], trivial⟩
              case measure => exact HKV.out
          · obtain rfl : n = k := by omega
            have HA := Lib.hid (cntTo_all (p := p) (x := (i : Int)) (k := n) (by rw [HN.out]; exact Nat.le_refl _))
            have HIP : Hid (i < p.length) := by show i < p.length; rw [HN.out]; exact HLT.out
            by_cases e : p.count ((i : Nat) : Int) = 1
            · have g1 : (((cntTo p (i : Int) n : Nat) : Int) != 1) = false := by rw [HA.out, e]; rfl
              have HC2 : Hid (∀ t, t < i + 1 → p.count ((t : Nat) : Int) = 1) := fun t ht => by
                by_cases e2 : t = i
                · subst e2; exact e
                · exact HC.out t (by omega)
              clear e hkl hk hr HC
              generalize cntTo p (i : Int) n = cc at *
              go_wp2_with fail
              go_roundw
              case rel => exact ⟨i + 1, HU.out, HLT.out, trivial, HC2⟩
              case measure => exact HV.out
            · have g1 : (((cntTo p (i : Int) n : Nat) : Int) != 1) = true := by rw [HA.out]; simp; omega
              have HZ : Hid (permB p (n : Int) = false) := permB_count HIP.out e
              clear e hkl hk hr HC
              generalize cntTo p (i : Int) n = cc at *
              go_wp2_with fail
              go_ret
              exact ⟨by rw [HZ.out]; rfl, rfl⟩
      · obtain rfl : n = i := by omega
        have HZ : Hid (permB p (n : Int) = true) := permB_all HR.out (fun t ht => HC.out t (by rw [← HN.out]; exact ht))
        clear hlt hi hr HC
        go_wp2_with fail
        go_ret
        exact ⟨by rw [HZ.out]; rfl, rfl⟩
  · have HZ : Hid (permB p r = false) := permB_len (by rw [hn]; exact h1)
    have g1 : ((n : Int) != r) = true := by simpa using h1
    rw [HZ.out]
    clear hn h1 hr
    go_enter Try.func26, Try.ntmps26
    go_wp2_with fail
    go_ret
    exact ⟨rfl, rfl⟩

/-- Are they the same matrix? -/
def SameM (r q : Int) (C : List Int) (s t : Int) (D : List Int) : Prop := r = s ∧ q = t ∧ C = D
instance (r q : Int) (C : List Int) (s t : Int) (D : List Int) : Decidable (SameM r q C s t D) := inferInstanceAs (Decidable (_ ∧ _ ∧ _))

set_option maxHeartbeats 2000000 in
set_option maxRecDepth 20000 in
theorem sameM_any (r q s t : Int) (a a2 : Option Addr) (n n2 c c2 : Nat) (C D : List Int) (hC : C.length = n) (hD : D.length = n2) (hb : n ≤ 1048576) (w : World) (hr : HoldsE KW w a C) (hr2 : HoldsE KW w a2 D) :
    Calls Try.prog 17 #[mx r q (.slice a n c), mx s t (.slice a2 n2 c2)] w fun x w' => x = .returned (.bool (decide (SameM r q C s t D))) ∧ Below w.heap.size w w' := by
  have HB1 := lay3_below w r q (.slice a n c)
  have HM1 := lay3_m w r q (.slice a n c)
  have HB2 := lay3_below (lay3 w r q (.slice a n c)) s t (.slice a2 n2 c2)
  have HM2 := lay3_m (lay3 w r q (.slice a n c)) s t (.slice a2 n2 c2)
  have hs1 := lay3_size w r q (.slice a n c)
  have HM1' := Lib.hid (HM1.on HB2)
  have HB := Lib.hid (HB1.trans (HB2.mono HB1.size))
  rw [hs1] at HM2
  have HM := Lib.hid HM2
  have HCN := Lib.hid hC
  have HDN := Lib.hid hD
  have HNB := Lib.hid hb
  obtain ⟨z, HZ⟩ : ∃ z, Hid (decide (SameM r q C s t D) = z) := ⟨_, rfl⟩
  rw [HZ.out]
  have HNO : Hid (¬ SameM r q C s t D → false = z) := fun h => by rw [← HZ.out]; exact (decide_eq_false h).symm
  have HYES : Hid (SameM r q C s t D → true = z) := fun h => by rw [← HZ.out]; exact (decide_eq_true h).symm
  clear hC hD hb HB1 HM1 HB2 HM2 hs1
  unfold mx
  go_enter Try.func17, Try.ntmps17
  by_cases h1 : r = s
  · have g1 : (r != s) = false := by simpa using h1
    by_cases h2 : q = t
    · have g2 : (q != t) = false := by simpa using h2
      by_cases h3 : n = n2
      · have g3 : ((n : Int) != (n2 : Int)) = false := by subst h3; simp
        have H123 := Lib.hid (And.intro h1 (And.intro h2 h3))
        clear h1 h2 h3
        go_wp2_with fail
        change Code.wp _ _ _ _ (lay3 (lay3 w r q (.slice a n c)) s t (.slice a2 n2 c2))
        generalize lay3 (lay3 w r q (.slice a n c)) s t (.slice a2 n2 c2) = w0 at *
        obtain ⟨N, hN⟩ : ∃ N, w.heap.size = N := ⟨_, rfl⟩
        have HNN := Lib.hid hN
        rw [hN] at HM1' HM ⊢
        clear hN
        go_loopw [5] (fun v wr => ∃ k : Nat, v = .int .i64 (k : Int) ∧ k ≤ n ∧ M3 N r q (.slice a n c) wr ∧ M3 (N + 1) s t (.slice a2 n2 c2) wr ∧ Below w.heap.size w wr ∧ Hid (∀ j, j < k → C.getD j 0 = D.getD j 0)) (fun v _ => n - (intOf v).toNat)
        case atStart => exact ⟨0, rfl, by omega, HM1'.out, HM.out, HB.out, fun j hj => by omega⟩
        case round =>
          obtain ⟨k, rfl, hk, A1, A2, hB, HE⟩ := hrel
          clear HM1' HM HB
          have d1 := A1.c2
          have d2 := A2.c2
          by_cases hlt : k < n
          · have hk1 : k < C.length := by rw [HCN.out]; exact hlt
            have hk2 : k < D.length := by rw [HDN.out, ← H123.out.2.2]; exact hlt
            obtain ⟨g, off, rfl, hg, hrow⟩ := hr.at hk1
            obtain ⟨g2, off2, rfl, hg2, hrow2⟩ := hr2.at hk2
            obtain ⟨x, HX⟩ : ∃ x, Hid (C.getD k 0 = x) := ⟨_, rfl⟩
            obtain ⟨y, HY⟩ : ∃ y, Hid (D.getD k 0 = y) := ⟨_, rfl⟩
            have cx : wr.cell? ⟨g, off + k, none⟩ = some (.int .u16 x) := by rw [← HX.out]; exact (hB.cell (by exact hg)).trans (hrow k hk1)
            have cy : wr.cell? ⟨g2, off2 + k, none⟩ = some (.int .u16 y) := by rw [← HY.out]; exact (hB.cell (by exact hg2)).trans (hrow2 k hk2)
            have i1 : (k : Int) < (n : Int) := by omega
            have i2 : (k : Int) < (n2 : Int) := by have := H123.out.2.2; omega
            have i0 : (0 : Int) ≤ (k : Int) := by omega
            have HU := Lib.hid (up_is hlt (show n ≤ 16777216 by have := HNB.out; omega))
            have HV := Lib.hid (up_less hlt (show n ≤ 16777216 by have := HNB.out; omega))
            have HLT := Lib.hid hlt
            have HA1 : Hid (∀ n', M3 N r q (.slice (some ⟨g, off, none⟩) n c) (wr.drewN n')) := fun n' => A1.drewN n'
            have HA2 : Hid (∀ n', M3 (N + 1) s t (.slice (some ⟨g2, off2, none⟩) n2 c2) (wr.drewN n')) := fun n' => A2.drewN n'
            have HBB : Hid (∀ n', Below w.heap.size w (wr.drewN n')) := fun n' => ⟨hB.os, hB.tape, hB.output, hB.size, hB.block⟩
            clear hr hr2 hrow hrow2 hk1 hk2 hlt hk A1 A2 hB hg hg2
            by_cases hxy : x = y
            · have HE2 : Hid (∀ t, t < k + 1 → C.getD t 0 = D.getD t 0) := fun t ht => by
                by_cases e : t = k
                · subst e; rw [HX.out, HY.out, hxy]
                · exact HE.out t (by omega)
              subst hxy
              clear HE
              go_wp2_with fail
              go_quiet (fail)
              go_wp2_with fail
              go_roundw
              case rel => exact ⟨k + 1, HU.out, HLT.out, HA1.out _, HA2.out _, HBB.out _, HE2⟩
              case measure => exact HV.out
            · have HF := Lib.hid <| HNO.out (fun h => hxy (by rw [← HX.out, ← HY.out, h.2.2]))
              have hxb : (x != y) = true := by simpa using hxy
              clear hxy
              go_wp2_with fail
              go_quiet (fail)
              go_wp2_with fail
              go_ret
              exact ⟨congrArg (fun b => Ending.returned (.bool b)) HF.out, HBB.out _⟩
          · have HF := Lib.hid <| HYES.out ⟨H123.out.1, H123.out.2.1, list_ext (by rw [HCN.out, HDN.out]; exact H123.out.2.2) (fun j hj => HE.out j (by rw [HCN.out] at hj; omega))⟩
            have hge : ¬ (k : Int) < (n : Int) := by omega
            clear hlt hk A1 A2 hr hr2
            go_wp2_with fail
            go_ret
            exact ⟨congrArg (fun b => Ending.returned (.bool b)) HF.out, hB⟩
      · have g3 : ((n : Int) != (n2 : Int)) = true := by simp; omega
        have HF := Lib.hid <| HNO.out (fun h => h3 (by rw [← HCN.out, ← HDN.out, h.2.2]))
        clear h1 h2 h3 hr hr2
        go_wp2_with fail
        go_ret
        exact ⟨congrArg (fun b => Ending.returned (.bool b)) HF.out, HB.out⟩
    · have g2 : (q != t) = true := by simpa using h2
      have HF := Lib.hid <| HNO.out (fun h => h2 h.2.1)
      clear h1 h2 hr hr2
      go_wp2_with fail
      go_ret
      exact ⟨congrArg (fun b => Ending.returned (.bool b)) HF.out, HB.out⟩
  · have g1 : (r != s) = true := by simpa using h1
    have HF := Lib.hid <| HNO.out (fun h => h1 h.1)
    clear h1 hr hr2
    go_wp2_with fail
    go_ret
    exact ⟨congrArg (fun b => Ending.returned (.bool b)) HF.out, HB.out⟩
end Go.Proofs.Ytjaogmbeoldefaa
