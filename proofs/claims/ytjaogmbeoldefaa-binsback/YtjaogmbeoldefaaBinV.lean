/-
  THE DOCUMENT's: are these the numbers of so many rows; two matrices held against one another; TURN: a column turned by a permutation, in a row of the call's own, or why not. Condition: at most 2^20 cells and numbers.
-/
import Derived.Test.YtjaogmbeoldefaaBinC
namespace Go.Proofs.Ytjaogmbeoldefaa
open Go.RowKit

/-- How often a number stands among the first k. -/
def cntTo (p : List Int) (x : Int) (k : Nat) : Nat := (p.take k).count x
theorem cntTo_zero (p : List Int) (x : Int) : cntTo p x 0 = 0 := by simp [cntTo]
theorem cntTo_le (p : List Int) (x : Int) (k : Nat) : cntTo p x k ≤ k := by
  unfold cntTo
  have := List.count_le_length (a := x) (l := p.take k)
  rw [List.length_take] at this
  omega
theorem cntTo_yes {p : List Int} {x : Int} {k : Nat} (hk : k < p.length) (h : p.getD k 0 = x) : cntTo p x (k + 1) = cntTo p x k + 1 := by
  unfold cntTo
  rw [List.take_add_one, List.getElem?_eq_getElem hk, List.count_append]
  have : p[k] = x := by rw [← h]; simp [List.getD_eq_getElem?_getD, hk]
  simp [this]
theorem cntTo_no {p : List Int} {x : Int} {k : Nat} (hk : k < p.length) (h : p.getD k 0 ≠ x) : cntTo p x (k + 1) = cntTo p x k := by
  unfold cntTo
  rw [List.take_add_one, List.getElem?_eq_getElem hk, List.count_append]
  have : p[k] ≠ x := by
    intro e; apply h; rw [← e]; simp [List.getD_eq_getElem?_getD, hk]
  simp [this]
theorem cntTo_all {p : List Int} {x : Int} {k : Nat} (hk : p.length ≤ k) : cntTo p x k = p.count x := by
  unfold cntTo; rw [List.take_of_length_le hk]
theorem permB_count {p : List Int} {r : Int} {t : Nat} (ht : t < p.length) (h : p.count ((t : Nat) : Int) ≠ 1) : permB p r = false := decide_eq_false fun k => h (k.2 t ht)
theorem permB_all {p : List Int} {r : Int} (h : ((p.length : Nat) : Int) = r) (hc : ∀ t, t < p.length → p.count ((t : Nat) : Int) = 1) : permB p r = true := decide_eq_true ⟨h, hc⟩

set_option maxHeartbeats 2000000 in
set_option maxRecDepth 20000 in
theorem refPermutes_any (a : Option Addr) (n cap : Nat) (p : List Int) (hn : p.length = n) (hb : n ≤ 1048576) (r : Int) (w : World) (hr : HoldsE KN w a p) :
    Calls Try.prog 26 #[.slice a n cap, .int .i64 r] w fun x w' => x = .returned (.bool (permB p r)) ∧ w = w' := by
  by_cases h1 : (n : Int) = r
  · have HN := Lib.hid hn
    have HR := Lib.hid (show ((p.length : Nat) : Int) = r by rw [hn]; exact h1)
    subst h1
    have HB := Lib.hid hb
    clear hn hb
    go_enter Try.func26, Try.ntmps26
    go_wp2_with fail
    go_loopw [5] (fun v wr => ∃ i : Nat, v = .int .i64 (i : Int) ∧ i ≤ n ∧ wr = w ∧ Hid (∀ t, t < i → p.count ((t : Nat) : Int) = 1)) (fun v _ => n - (intOf v).toNat)
    case atStart => exact ⟨0, rfl, by omega, rfl, fun t ht => by omega⟩
    case round =>
      obtain ⟨i, rfl, hi, rfl, HC⟩ := hrel
      by_cases hlt : i < n
      · have HLT := Lib.hid hlt
        have i1 : (i : Int) < (n : Int) := by omega
        have HU := Lib.hid (up_is hlt (show n ≤ 16777216 by have := HB.out; omega))
        have HV := Lib.hid (up_less hlt (show n ≤ 16777216 by have := HB.out; omega))
        clear hlt hi
        go_wp2_with fail
        go_loopw [6, 7] (fun cv v wq => ∃ k : Nat, v = .int .i64 (k : Int) ∧ k ≤ n ∧ cv = .int .i64 ((cntTo p (i : Int) k : Nat) : Int) ∧ wq = wr) (fun _ v _ => n - (intOf v).toNat)
        case atStart => exact ⟨0, rfl, by omega, by rw [cntTo_zero]; rfl, rfl⟩
        case round =>
          obtain ⟨k, rfl, hk, rfl, rfl⟩ := hrel
          by_cases hkl : k < n
          · have hkp : k < p.length := by rw [HN.out]; exact hkl
            obtain ⟨g, off, rfl, hg, hrow⟩ := hr.at hkp
            obtain ⟨x, HX⟩ : ∃ x, Hid (p.getD k 0 = x) := ⟨_, rfl⟩
            have cx : wr.cell? ⟨g, off + k, none⟩ = some (.int .i64 x) := by rw [← HX.out]; exact hrow k hkp
            have j1 : (k : Int) < (n : Int) := by omega
            have HKU := Lib.hid (up_is hkl (show n ≤ 16777216 by have := HB.out; omega))
            have HKV := Lib.hid (up_less hkl (show n ≤ 16777216 by have := HB.out; omega))
            have HKL := Lib.hid hkl
            have hcl := cntTo_le p (i : Int) k
            have HCU := Lib.hid (up_is (k := cntTo p (i : Int) k) (n := n + 1) (by omega) (show n + 1 ≤ 16777216 by have := HB.out; omega))
            by_cases e : x = (i : Int)
            · have HS := Lib.hid (cntTo_yes hkp (HX.out.trans e))
              subst e
              clear hrow hr hkp hkl hk hcl
              generalize cntTo p (i : Int) k = cc at *
              go_wp2_with fail
              go_roundw
              case rel => exact ⟨k + 1, HKU.out, HKL.out, by rw [HS.out]; exact HCU.out, trivial⟩
              case measure => exact HKV.out
            · have HS := Lib.hid (cntTo_no hkp (fun h => e (HX.out.symm.trans h)))
              have g1 : (x == (i : Int)) = false := by simpa using e
              clear hrow hr hkp hkl hk hcl e
              generalize cntTo p (i : Int) k = cc at *
              go_wp2_with fail
              go_roundw
              case rel => exact ⟨k + 1, HKU.out, HKL.out, by rw [HS.out], trivial⟩
              case measure => exact HKV.out
          · obtain rfl : n = k := by omega
            have HA := Lib.hid (cntTo_all (p := p) (x := (i : Int)) (k := n) (by rw [HN.out]; exact Nat.le_refl _))
            have HIP : Hid (i < p.length) := by show i < p.length; rw [HN.out]; exact HLT.out
            by_cases e : p.count ((i : Nat) : Int) = 1
            · have g1 : (((cntTo p (i : Int) n : Nat) : Int) != 1) = false := by rw [HA.out, e]; rfl
              have HC2 : Hid (∀ t, t < i + 1 → p.count ((t : Nat) : Int) = 1) := fun t ht => by
                by_cases e2 : t = i
                · subst e2; exact e
                · exact HC.out t (by omega)
              clear e hkl hk hr HC
              generalize cntTo p (i : Int) n = cc at *
              go_wp2_with fail
              go_roundw
              case rel => exact ⟨i + 1, HU.out, HLT.out, trivial, HC2⟩
              case measure => exact HV.out
            · have g1 : (((cntTo p (i : Int) n : Nat) : Int) != 1) = true := by rw [HA.out]; simp; omega
              have HZ : Hid (permB p (n : Int) = false) := permB_count HIP.out e
              clear e hkl hk hr HC
              generalize cntTo p (i : Int) n = cc at *
              go_wp2_with fail
              go_ret
              exact ⟨by rw [HZ.out]; rfl, rfl⟩
      · obtain rfl : n = i := by omega
        have HZ : Hid (permB p (n : Int) = true) := permB_all HR.out (fun t ht => HC.out t (by rw [← HN.out]; exact ht))
        clear hlt hi hr HC
        go_wp2_with fail
        go_ret
        exact ⟨by rw [HZ.out]; rfl, rfl⟩
  · have HZ : Hid (permB p r = false) := permB_len (by rw [hn]; exact h1)
    have g1 : ((n : Int) != r) = true := by simpa using h1
    rw [HZ.out]
    clear hn h1 hr
    go_enter Try.func26, Try.ntmps26
    go_wp2_with fail
    go_ret
    exact ⟨rfl, rfl⟩

/-- Are they the same matrix? -/
def SameM (r q : Int) (C : List Int) (s t : Int) (D : List Int) : Prop := r = s ∧ q = t ∧ C = D
instance (r q : Int) (C : List Int) (s t : Int) (D : List Int) : Decidable (SameM r q C s t D) := inferInstanceAs (Decidable (_ ∧ _ ∧ _))

set_option maxHeartbeats 2000000 in
set_option maxRecDepth 20000 in
theorem sameM_any (r q s t : Int) (a a2 : Option Addr) (n n2 c c2 : Nat) (C D : List Int) (hC : C.length = n) (hD : D.length = n2) (hb : n ≤ 1048576) (w : World) (hr : HoldsE KW w a C) (hr2 : HoldsE KW w a2 D) :
    Calls Try.prog 17 #[mx r q (.slice a n c), mx s t (.slice a2 n2 c2)] w fun x w' => x = .returned (.bool (decide (SameM r q C s t D))) ∧ Below w.heap.size w w' := by
  have HB1 := lay3_below w r q (.slice a n c)
  have HM1 := lay3_m w r q (.slice a n c)
  have HB2 := lay3_below (lay3 w r q (.slice a n c)) s t (.slice a2 n2 c2)
  have HM2 := lay3_m (lay3 w r q (.slice a n c)) s t (.slice a2 n2 c2)
  have hs1 := lay3_size w r q (.slice a n c)
  have HM1' := Lib.hid (HM1.on HB2)
  have HB := Lib.hid (HB1.trans (HB2.mono HB1.size))
  rw [hs1] at HM2
  have HM := Lib.hid HM2
  have HCN := Lib.hid hC
  have HDN := Lib.hid hD
  have HNB := Lib.hid hb
  obtain ⟨z, HZ⟩ : ∃ z, Hid (decide (SameM r q C s t D) = z) := ⟨_, rfl⟩
  rw [HZ.out]
  have HNO : Hid (¬ SameM r q C s t D → false = z) := fun h => by rw [← HZ.out]; exact (decide_eq_false h).symm
  have HYES : Hid (SameM r q C s t D → true = z) := fun h => by rw [← HZ.out]; exact (decide_eq_true h).symm
  clear hC hD hb HB1 HM1 HB2 HM2 hs1
  unfold mx
  go_enter Try.func17, Try.ntmps17
  by_cases h1 : r = s
  · have g1 : (r != s) = false := by simpa using h1
    by_cases h2 : q = t
    · have g2 : (q != t) = false := by simpa using h2
      by_cases h3 : n = n2
      · have g3 : ((n : Int) != (n2 : Int)) = false := by subst h3; simp
        have H123 := Lib.hid (And.intro h1 (And.intro h2 h3))
        clear h1 h2 h3
        go_wp2_with fail
        change Code.wp _ _ _ _ (lay3 (lay3 w r q (.slice a n c)) s t (.slice a2 n2 c2))
        generalize lay3 (lay3 w r q (.slice a n c)) s t (.slice a2 n2 c2) = w0 at *
        obtain ⟨N, hN⟩ : ∃ N, w.heap.size = N := ⟨_, rfl⟩
        have HNN := Lib.hid hN
        rw [hN] at HM1' HM ⊢
        clear hN
        go_loopw [5] (fun v wr => ∃ k : Nat, v = .int .i64 (k : Int) ∧ k ≤ n ∧ M3 N r q (.slice a n c) wr ∧ M3 (N + 1) s t (.slice a2 n2 c2) wr ∧ Below w.heap.size w wr ∧ Hid (∀ j, j < k → C.getD j 0 = D.getD j 0)) (fun v _ => n - (intOf v).toNat)
        case atStart => exact ⟨0, rfl, by omega, HM1'.out, HM.out, HB.out, fun j hj => by omega⟩
        case round =>
          obtain ⟨k, rfl, hk, A1, A2, hB, HE⟩ := hrel
          clear HM1' HM HB
          have d1 := A1.c2
          have d2 := A2.c2
          by_cases hlt : k < n
          · have hk1 : k < C.length := by rw [HCN.out]; exact hlt
            have hk2 : k < D.length := by rw [HDN.out, ← H123.out.2.2]; exact hlt
            obtain ⟨g, off, rfl, hg, hrow⟩ := hr.at hk1
            obtain ⟨g2, off2, rfl, hg2, hrow2⟩ := hr2.at hk2
            obtain ⟨x, HX⟩ : ∃ x, Hid (C.getD k 0 = x) := ⟨_, rfl⟩
            obtain ⟨y, HY⟩ : ∃ y, Hid (D.getD k 0 = y) := ⟨_, rfl⟩
            have cx : wr.cell? ⟨g, off + k, none⟩ = some (.int .u16 x) := by rw [← HX.out]; exact (hB.cell (by exact hg)).trans (hrow k hk1)
            have cy : wr.cell? ⟨g2, off2 + k, none⟩ = some (.int .u16 y) := by rw [← HY.out]; exact (hB.cell (by exact hg2)).trans (hrow2 k hk2)
            have i1 : (k : Int) < (n : Int) := by omega
            have i2 : (k : Int) < (n2 : Int) := by have := H123.out.2.2; omega
            have i0 : (0 : Int) ≤ (k : Int) := by omega
            have HU := Lib.hid (up_is hlt (show n ≤ 16777216 by have := HNB.out; omega))
            have HV := Lib.hid (up_less hlt (show n ≤ 16777216 by have := HNB.out; omega))
            have HLT := Lib.hid hlt
            have HA1 : Hid (∀ n', M3 N r q (.slice (some ⟨g, off, none⟩) n c) (wr.drewN n')) := fun n' => A1.drewN n'
            have HA2 : Hid (∀ n', M3 (N + 1) s t (.slice (some ⟨g2, off2, none⟩) n2 c2) (wr.drewN n')) := fun n' => A2.drewN n'
            have HBB : Hid (∀ n', Below w.heap.size w (wr.drewN n')) := fun n' => ⟨hB.os, hB.tape, hB.output, hB.size, hB.block⟩
            clear hr hr2 hrow hrow2 hk1 hk2 hlt hk A1 A2 hB hg hg2
            by_cases hxy : x = y
            · have HE2 : Hid (∀ t, t < k + 1 → C.getD t 0 = D.getD t 0) := fun t ht => by
                by_cases e : t = k
                · subst e; rw [HX.out, HY.out, hxy]
                · exact HE.out t (by omega)
              subst hxy
              clear HE
              go_wp2_with fail
              go_quiet (fail)
              go_wp2_with fail
              go_roundw
              case rel => exact ⟨k + 1, HU.out, HLT.out, HA1.out _, HA2.out _, HBB.out _, HE2⟩
              case measure => exact HV.out
            · have HF := Lib.hid <| HNO.out (fun h => hxy (by rw [← HX.out, ← HY.out, h.2.2]))
              have hxb : (x != y) = true := by simpa using hxy
              clear hxy
              go_wp2_with fail
              go_quiet (fail)
              go_wp2_with fail
              go_ret
              exact ⟨congrArg (fun b => Ending.returned (.bool b)) HF.out, HBB.out _⟩
          · have HF := Lib.hid <| HYES.out ⟨H123.out.1, H123.out.2.1, list_ext (by rw [HCN.out, HDN.out]; exact H123.out.2.2) (fun j hj => HE.out j (by rw [HCN.out] at hj; omega))⟩
            have hge : ¬ (k : Int) < (n : Int) := by omega
            clear hlt hk A1 A2 hr hr2
            go_wp2_with fail
            go_ret
            exact ⟨congrArg (fun b => Ending.returned (.bool b)) HF.out, hB⟩
      · have g3 : ((n : Int) != (n2 : Int)) = true := by simp; omega
        have HF := Lib.hid <| HNO.out (fun h => h3 (by rw [← HCN.out, ← HDN.out, h.2.2]))
        clear h1 h2 h3 hr hr2
        go_wp2_with fail
        go_ret
        exact ⟨congrArg (fun b => Ending.returned (.bool b)) HF.out, HB.out⟩
    · have g2 : (q != t) = true := by simpa using h2
      have HF := Lib.hid <| HNO.out (fun h => h2 h.2.1)
      clear h1 h2 hr hr2
      go_wp2_with fail
      go_ret
      exact ⟨congrArg (fun b => Ending.returned (.bool b)) HF.out, HB.out⟩
  · have g1 : (r != s) = true := by simpa using h1
    have HF := Lib.hid <| HNO.out (fun h => h1 h.1)
    clear h1 hr hr2
    go_wp2_with fail
    go_ret
    exact ⟨congrArg (fun b => Ending.returned (.bool b)) HF.out, HB.out⟩

theorem cloneW_any (a : Option Addr) (n cap : Nat) (l : List Int) (hl : l.length = n) (hm : n ≤ 1048570) (ha : a = none → cap = 0) (w : World) (h : HoldsE KW w a l) :
    Calls Try.prog 40 #[.slice a n cap] w fun e w' => (∃ v, e = .returned v ∧ Own KW w' w.heap.size v l) ∧ Below w.heap.size w w' := by
  have q : ∀ (w : World) (a : Option Addr) (n c n' c' : Nat), (binOp .eql 40 (.slice a n c) (.slice none n' c')).run Try.prog w = .ok (.bool a.isNone) w := fun w a n c n' c' => Lib.run_eql_slice_nil w _ _ a n c n' c' Try.underlying40
  cases a with
  | none =>
    obtain rfl := ha rfl
    obtain rfl : l = [] := by
      rcases h with h | ⟨_, _, h, _⟩
      · exact h
      · cases h
    obtain rfl : n = 0 := hl.symm
    go_enter Try.func40, Try.ntmps40
    go_wp2
    go_ret
    exact ⟨⟨_, rfl, Own.nil _ _⟩, Below.refl _ _⟩
  | some ad =>
    subst hl
    have o0 := Own.start (K := KW) w w.heap.size (Nat.le_refl _)
    have b0 := (Below.refl w.heap.size w).alloc (Nat.le_refl _) (.cells #[] 59)
    have h0 := h.below b0
    have sz := b0.size
    go_enter Try.func40, Try.ntmps40
    go_wp2_with (at_builtin; refine app_any okW rfl _ _ rfl w.heap.size sz (.slice (some ⟨w.heap.size, 0, none⟩) 0 0) [] rfl o0 (some ad) _ _ l rfl rfl (fun h => by cases h) h0 (by simp; omega) (by simp) (fun v' w' hv hb hn => ?_))
    go_ret
    exact ⟨⟨_, rfl, by simpa using hv⟩, b0.trans hb⟩

/-- A matrix stored as a whole. -/
def put3 (w : World) (N : Nat) (r q : Int) (v : Value) : World := ((w.setCell ⟨N, 0, none⟩ (.int .i64 r)).setCell ⟨N, 1, none⟩ (.int .i64 q)).setCell ⟨N, 2, none⟩ v
theorem put3_facts {w : World} {N : Nat} {s t : Int} {u : Value} (h : M3 N s t u w) (r q : Int) (v : Value) : M3 N r q v (put3 w N r q v) ∧ But N w (put3 w N r q v) := by
  refine ⟨⟨by simpa [put3, World.setCell] using h.lt, ?_, ?_, ?_, ?_, ?_, ?_⟩, ((But.setCell N 0 w _).trans (But.setCell N 1 _ _)).trans (But.setCell N 2 _ _)⟩
  · unfold put3
    rw [World.cell?_setCell_other _ _ _ _ (by simp), World.cell?_setCell_other _ _ _ _ (by simp)]
    exact World.cell?_setCell_same _ _ _ h.c0
  · unfold put3
    rw [World.cell?_setCell_other _ _ _ _ (by simp)]
    exact World.cell?_setCell_same _ _ _ ((World.cell?_setCell_other _ _ _ _ (by simp)).trans h.c1)
  · exact World.cell?_setCell_same _ _ _ ((World.cell?_setCell_other _ _ _ _ (by simp)).trans ((World.cell?_setCell_other _ _ _ _ (by simp)).trans h.c2))
  · unfold put3; rw [World.frozen?_setCell, World.frozen?_setCell, World.frozen?_setCell]; exact h.f0
  · unfold put3; rw [World.frozen?_setCell, World.frozen?_setCell, World.frozen?_setCell]; exact h.f1
  · unfold put3; rw [World.frozen?_setCell, World.frozen?_setCell, World.frozen?_setCell]; exact h.f2

/-- Nothing is turned: the zero matrix and the error. -/
def NoTurn (e : Ending) : Prop := e = .returned (.tuple #[mx 0 0 (.slice none 0 0), .int .i64 8])
/-- May this column be turned by these numbers? -/
def MayTurn (r q x : Int) (n : Nat) (p : List Int) : Prop := (0 ≤ x ∧ x < q) ∧ fitB r q n = true ∧ permB p r = true

set_option maxRecDepth 20000 in
set_option maxHeartbeats 2000000 in
theorem turnM_no (r q x : Int) (a aP : Option Addr) (n c nP cP : Nat) (p : List Int) (hP : p.length = nP) (hPb : nP ≤ 1048576) (h64 : In64s p) (h : ¬ MayTurn r q x n p) (w : World) (hp : HoldsE KN w aP p) :
    Calls Try.prog 24 #[mx r q (.slice a n c), .int .i64 x, .slice aP nP cP] w fun e w' => NoTurn e ∧ Below w.heap.size w w' := by
  have HB1 := lay3_below w r q (.slice a n c)
  have HM1 := lay3_m w r q (.slice a n c)
  have HB2 := lay3_below (lay3 w r q (.slice a n c)) 0 0 (.slice none 0 0)
  have HM2 := lay3_m (lay3 w r q (.slice a n c)) 0 0 (.slice none 0 0)
  have hs1 := lay3_size w r q (.slice a n c)
  have HM := HM1.on HB2
  have HB := HB1.trans (HB2.mono HB1.size)
  rw [hs1] at HM2
  clear HB1 HM1 HB2 hs1
  unfold mx at *
  go_enter Try.func24, Try.ntmps24
  go_wp2_with fail
  change Calls _ _ _ (lay3 (lay3 w r q (.slice a n c)) 0 0 (.slice none 0 0)) _
  generalize lay3 (lay3 w r q (.slice a n c)) 0 0 (.slice none 0 0) = w0 at *
  obtain ⟨N, hN⟩ : ∃ N, w.heap.size = N := ⟨_, rfl⟩
  have HNN := Lib.hid hN
  rw [hN] at HM HM2 ⊢
  have hNw : w.heap.size ≤ N := Nat.le_of_eq hN
  clear hN
  have c1 := within_any x q w0
  have c2 := rightM_any r q a n c w0
  unfold mx at c2
  have hp0 := hp.below HB
  by_cases h1 : 0 ≤ x ∧ x < q
  · rw [decide_eq_true h1] at c1
    have hr : fitB r q n = false ∨ fitB r q n = true ∧ permB p r = false := by
      cases hf : fitB r q n with
      | false => exact .inl rfl
      | true =>
        cases hg : permB p r with
        | false => exact .inr ⟨rfl, rfl⟩
        | true => exact absurd ⟨h1, hf, hg⟩ h
    rcases hr with h2 | ⟨h2, h3⟩
    · rw [h2] at c2
      have m0 := HM.c0
      have m1 := HM.c1
      have m2 := HM.c2
      clear h h1 h2
      refine c1.mono ?_
      rintro e w' ⟨rfl, rfl⟩
      go_wp2_with fail
      refine c2.mono ?_
      rintro e w1 ⟨rfl, b1⟩
      have n0 := HM2.on b1
      have n0' := n0
      have HB1 := Lib.hid (HB.trans (b1.mono HB.size))
      clear b1 c1 c2 m0 m1 m2 hp hp0 HM HB
      obtain ⟨hlt, d0, d1, d2, f0, f1, f2⟩ := n0
      go_wp2_with fail
      change bodyPost _ _ _ _ _ (put3 w1 (N + 1) 0 0 (.slice none 0 0))
      obtain ⟨k1, k2⟩ := put3_facts n0' 0 0 (.slice none 0 0)
      have HB2 := HB1.out.trans (k2.below (by omega) HB1.out.size)
      obtain ⟨_, j0, j1, j2, _, _, _⟩ := k1
      generalize put3 w1 (N + 1) 0 0 (.slice none 0 0) = w9 at *
      refine bodyPost_ret (v := .tuple #[mx 0 0 (.slice none 0 0), .int .i64 8]) (by simp [mx, results, Try.results24, go_sem, j0, j1, j2]) rfl ?_
      exact ⟨rfl, HB2⟩
    · rw [h2] at c2
      have m0 := HM.c0
      have m1 := HM.c1
      have m2 := HM.c2
      clear h h1 h2
      refine c1.mono ?_
      rintro e w' ⟨rfl, rfl⟩
      go_wp2_with fail
      refine c2.mono ?_
      rintro e w1 ⟨rfl, b1⟩
      have n1 := HM2.on b1
      have HB1 := HB.trans (b1.mono HB.size)
      have m0 := HM.on b1
      have m3 := m0.c0
      have c3 := permutes_any aP nP cP p hP hPb h64 r w1 (hp.below HB1)
      rw [h3] at c3
      clear b1 c1 c2 m0 m1 m2 hp hp0 HM HB hP hPb h64 h3
      go_wp2_with fail
      refine c3.mono ?_
      rintro e w2 ⟨rfl, b2⟩
      have n0 := n1.on b2
      have n0' := n0
      have HB1 := Lib.hid (HB1.trans (b2.mono HB1.size))
      clear m3 n1 c3 b2
      obtain ⟨hlt, d0, d1, d2, f0, f1, f2⟩ := n0
      go_wp2_with fail
      change bodyPost _ _ _ _ _ (put3 w2 (N + 1) 0 0 (.slice none 0 0))
      obtain ⟨k1, k2⟩ := put3_facts n0' 0 0 (.slice none 0 0)
      have HB2 := HB1.out.trans (k2.below (by omega) HB1.out.size)
      obtain ⟨_, j0, j1, j2, _, _, _⟩ := k1
      generalize put3 w2 (N + 1) 0 0 (.slice none 0 0) = w9 at *
      refine bodyPost_ret (v := .tuple #[mx 0 0 (.slice none 0 0), .int .i64 8]) (by simp [mx, results, Try.results24, go_sem, j0, j1, j2]) rfl ?_
      exact ⟨rfl, HB2⟩
  · rw [decide_eq_false h1] at c1
    have m0 := HM.c0
    have m1 := HM.c1
    have n0 := HM2
    have n0' := n0
    have HB1 := Lib.hid HB
    refine c1.mono ?_
    rintro e w' ⟨rfl, rfl⟩
    clear h h1 c1 c2 m0 m1 hp hp0 HM HB HM2 hP hPb h64
    obtain ⟨hlt, d0, d1, d2, f0, f1, f2⟩ := n0
    go_wp2_with fail
    change bodyPost _ _ _ _ _ (put3 w0 (N + 1) 0 0 (.slice none 0 0))
    obtain ⟨k1, k2⟩ := put3_facts n0' 0 0 (.slice none 0 0)
    have HB2 := HB1.out.trans (k2.below (by omega) HB1.out.size)
    obtain ⟨_, j0, j1, j2, _, _, _⟩ := k1
    generalize put3 w0 (N + 1) 0 0 (.slice none 0 0) = w9 at *
    refine bodyPost_ret (v := .tuple #[mx 0 0 (.slice none 0 0), .int .i64 8]) (by simp [mx, results, Try.results24, go_sem, j0, j1, j2]) rfl ?_
    exact ⟨rfl, HB2⟩

/-- A turned matrix is handed back. -/
def GotT (e : Ending) (w : World) (B : Nat) (r q : Int) (n : Nat) (D : List Int) : Prop := ∃ a c, e = .returned (.tuple #[mx r q (.slice a n c), .int .i64 0]) ∧ D.length = n ∧ n ≤ c ∧ (a = none → c = 0) ∧ (D = [] ∨ ∃ g, a = some ⟨g, 0, none⟩ ∧ B ≤ g ∧ Lst KW g 0 D w)

theorem permB_is {p : List Int} {r : Nat} (h : permB p (r : Int) = true) : p.length = r ∧ PermL p := by
  obtain ⟨h1, h2⟩ := of_decide_eq_true h
  exact ⟨by omega, h2⟩

set_option maxRecDepth 20000 in
set_option maxHeartbeats 2000000 in
theorem turnM_zero (q j : Nat) (a aP : Option Addr) (c nP cP : Nat) (p : List Int) (hP : p.length = nP) (h64 : In64s p) (hq : q ≤ 16777216) (hj : j < q) (hg : permB p 0 = true) (ha : a = none → c = 0) (w : World) (hp : HoldsE KN w aP p) :
    Calls Try.prog 24 #[mx 0 q (.slice a 0 c), .int .i64 (j : Int), .slice aP nP cP] w fun e w' => GotT e w' w.heap.size 0 q 0 [] ∧ Below w.heap.size w w' := by
  have hf : fitB 0 (q : Int) ((0 : Nat) : Int) = true := decide_eq_true ⟨by omega, by omega, by simp⟩
  have hP0 := (permB_is (r := 0) hg).1
  obtain rfl : nP = 0 := by omega
  have HB1 := lay3_below w 0 q (.slice a 0 c)
  have HM1 := lay3_m w 0 q (.slice a 0 c)
  have HB2 := lay3_below (lay3 w 0 q (.slice a 0 c)) 0 0 (.slice none 0 0)
  have HM2 := lay3_m (lay3 w 0 q (.slice a 0 c)) 0 0 (.slice none 0 0)
  have hs1 := lay3_size w 0 q (.slice a 0 c)
  have HM := HM1.on HB2
  have HB := HB1.trans (HB2.mono HB1.size)
  rw [hs1] at HM2
  clear HB1 HM1 HB2 hs1
  unfold mx at *
  go_enter Try.func24, Try.ntmps24
  go_wp2_with fail
  change Calls _ _ _ (lay3 (lay3 w 0 q (.slice a 0 c)) 0 0 (.slice none 0 0)) _
  generalize lay3 (lay3 w 0 q (.slice a 0 c)) 0 0 (.slice none 0 0) = w0 at *
  obtain ⟨N, hN⟩ : ∃ N, w.heap.size = N := ⟨_, rfl⟩
  have HNN := Lib.hid hN
  have hNw : w.heap.size ≤ N := Nat.le_of_eq hN
  rw [hN] at HM HM2 ⊢
  clear hN
  have c1 := within_any j q w0
  have c2 := rightM_any 0 q a 0 c w0
  unfold mx at c2
  rw [hf] at c2
  rw [decide_eq_true (by omega)] at c1
  have hp0 := hp.below HB
  refine c1.mono ?_
  rintro e w' ⟨rfl, rfl⟩
  have m0 := HM.c0
  have m1 := HM.c1
  have m2 := HM.c2
  have HB0 := Lib.hid HB
  have HN0 := Lib.hid hNw
  have HP := Lib.hid (And.intro hP (And.intro hP0 hj))
  clear c1 hf hP hP0 hj hq HB hNw
  go_wp2_with fail
  refine c2.mono ?_
  rintro e w1 ⟨rfl, b1⟩
  have A1 := HM.on b1
  have R1 := HM2.on b1
  have HB1 := Lib.hid (HB0.out.trans (b1.mono HB0.out.size))
  have c3 := permutes_any aP 0 cP p HP.out.1 (by decide) h64 0 w1 (hp0.below b1)
  rw [hg] at c3
  clear m0 m1 m2 c2 b1 HM HM2 hp0 hp hg h64
  have m0 := A1.c0
  go_wp2_with fail
  refine c3.mono ?_
  rintro e w2 ⟨rfl, b2⟩
  have A2 := A1.on b2
  have R2 := R1.on b2
  have HB2 := Lib.hid (HB1.out.trans (b2.mono HB1.out.size))
  have c4 := cloneW_any a 0 c [] rfl (by decide) ha w2 (.inl rfl)
  clear m0 c3 b2 A1 R1
  have m0 := A2.c0
  have m2 := A2.c2
  go_wp2_with fail
  refine c4.mono ?_
  rintro e w3 ⟨⟨v, rfl, ov⟩, b3⟩
  have A3 := A2.on b3
  have R3 := R2.on b3
  have HB3 := Lib.hid (HB2.out.trans (b3.mono HB2.out.size))
  obtain ⟨av, cv, rfl, hvn, hvc, _, _⟩ := ov.holds
  have HR2 := Lib.hid R2.lt
  have HVC := Lib.hid (And.intro hvn hvc)
  rw [List.length_nil] at *
  clear m0 m2 c4 b3 A2 R2 ov hvn hvc
  have m0 := A3.c0
  have m1 := A3.c1
  have m2 := A3.c2
  have hw0 : wrap64 ((j : Int) * 0) = 0 := by rw [Int.mul_zero]; unfold wrap64; omega
  go_wp2_with fail
  have R3' := R3
  obtain ⟨_, r0, r1, r2, rf0, rf1, rf2⟩ := R3
  refine wp_loop_rounds 1 ?_
  rw [rounds_succ]
  go_wp2_with fail
  change bodyPost _ _ _ _ _ (put3 w3 (N + 1) 0 (q : Int) (.slice av 0 cv))
  obtain ⟨k1, k2⟩ := put3_facts R3' 0 (q : Int) (.slice av 0 cv)
  have HB4 := HB3.out.trans (k2.below (by have := HN0.out; omega) HB3.out.size)
  obtain ⟨_, j0, j1, j2, _, _, _⟩ := k1
  generalize put3 w3 (N + 1) 0 (q : Int) (.slice av 0 cv) = w9 at *
  refine bodyPost_ret (v := .tuple #[mx 0 (q : Int) (.slice av 0 cv), .int .i64 0]) (by simp [mx, results, Try.results24, go_sem, j0, j1, j2]) rfl ?_
  exact ⟨⟨av, cv, rfl, rfl, HVC.out.2, HVC.out.1, .inl rfl⟩, HB4⟩

set_option maxRecDepth 20000 in
set_option maxHeartbeats 2000000 in
theorem turnM_pos (r q j n : Nat) (a aP : Option Addr) (c nP cP : Nat) (C p : List Int) (hC : C.length = n) (hn : n ≤ 1048570) (hP : p.length = nP) (h64 : In64s p) (hf : fitB r q n = true) (hj : j < q) (hg : permB p r = true) (hr : 0 < r) (hcc : n ≤ c) (w : World) (hw : HoldsE KW w a C) (hp : HoldsE KN w aP p) :
    Calls Try.prog 24 #[mx r q (.slice a n c), .int .i64 (j : Int), .slice aP nP cP] w fun e w' => GotT e w' w.heap.size r q n (turnL C r j p) ∧ Below w.heap.size w w' := by
  have hrq : r * q = n := by
    have := (of_decide_eq_true hf).2.2
    rw [← Int.natCast_mul] at this
    omega
  obtain ⟨hP0, hperm⟩ := permB_is hg
  obtain rfl : nP = r := by omega
  have hix := idx_lt hrq hr hj
  have HCHK := Lib.hid hperm.chk
  have hPb : nP ≤ 1048576 := by omega
  obtain ⟨ga, oa, rfl, hga, hrowa⟩ := hw.at (show 0 < C.length by omega)
  obtain ⟨gp, op, rfl, hgp, hrowp⟩ := hp.at (show 0 < p.length by omega)
  have HROWA := Lib.hid hrowa
  have HROWP := Lib.hid hrowp
  have HB1 := lay3_below w nP q (.slice (some ⟨ga, oa, none⟩) n c)
  have HM1 := lay3_m w nP q (.slice (some ⟨ga, oa, none⟩) n c)
  have HB2 := lay3_below (lay3 w nP q (.slice (some ⟨ga, oa, none⟩) n c)) 0 0 (.slice none 0 0)
  have HM2 := lay3_m (lay3 w nP q (.slice (some ⟨ga, oa, none⟩) n c)) 0 0 (.slice none 0 0)
  have hs1 := lay3_size w nP q (.slice (some ⟨ga, oa, none⟩) n c)
  have HM := HM1.on HB2
  have HB := HB1.trans (HB2.mono HB1.size)
  rw [hs1] at HM2
  clear HB1 HM1 HB2 hs1
  unfold mx at *
  go_enter Try.func24, Try.ntmps24
  go_wp2_with fail
  change Calls _ _ _ (lay3 (lay3 w nP q (.slice (some ⟨ga, oa, none⟩) n c)) 0 0 (.slice none 0 0)) _
  generalize lay3 (lay3 w nP q (.slice (some ⟨ga, oa, none⟩) n c)) 0 0 (.slice none 0 0) = w0 at *
  obtain ⟨N, hN⟩ : ∃ N, w.heap.size = N := ⟨_, rfl⟩
  have HNN := Lib.hid hN
  have hNw : w.heap.size ≤ N := Nat.le_of_eq hN
  rw [hN] at HM HM2 ⊢
  clear hN
  have c1 := within_any j q w0
  have c2 := rightM_any nP q (some ⟨ga, oa, none⟩) n c w0
  unfold mx at c2
  rw [hf] at c2
  rw [decide_eq_true (by omega)] at c1
  have hp0 := hp.below HB
  have hw0 := hw.below HB
  refine c1.mono ?_
  rintro e w' ⟨rfl, rfl⟩
  have m0 := HM.c0
  have m1 := HM.c1
  have m2 := HM.c2
  have HB0 := Lib.hid HB
  have HN0 := Lib.hid hNw
  have HPP := Lib.hid (And.intro hP (And.intro hPb (And.intro hC (And.intro hn (And.intro hrq (And.intro hj (And.intro hr hcc)))))))
  have HIX := Lib.hid hix
  have HGA := Lib.hid hga
  have HGP := Lib.hid hgp
  clear c1 hf hP hP0 hj HB hNw hPb hC hn hrq hr hix hperm hrowa hrowp hga hgp hw hp hcc
  go_wp2_with fail
  refine c2.mono ?_
  rintro e w1 ⟨rfl, b1⟩
  have A1 := HM.on b1
  have R1 := HM2.on b1
  have HB1 := Lib.hid (HB0.out.trans (b1.mono HB0.out.size))
  have hw1 := hw0.below b1
  have c3 := permutes_any (some ⟨gp, op, none⟩) nP cP p HPP.out.1 HPP.out.2.1 h64 nP w1 (hp0.below b1)
  rw [hg] at c3
  clear m0 m1 m2 c2 b1 HM HM2 hp0 hw0 hg h64
  have m0 := A1.c0
  go_wp2_with fail
  refine c3.mono ?_
  rintro e w2 ⟨rfl, b2⟩
  have A2 := A1.on b2
  have R2 := R1.on b2
  have HB2 := Lib.hid (HB1.out.trans (b2.mono HB1.out.size))
  have c4 := cloneW_any (some ⟨ga, oa, none⟩) n c C HPP.out.2.2.1 HPP.out.2.2.2.1 (fun h => by cases h) w2 (hw1.below b2)
  clear m0 c3 b2 A1 R1 hw1
  have m0 := A2.c0
  have m2 := A2.c2
  go_wp2_with fail
  refine c4.mono ?_
  rintro e w3 ⟨⟨v, rfl, ov⟩, b3⟩
  have A3 := A2.on b3
  have R3 := R2.on b3
  have HB3 := Lib.hid (HB2.out.trans (b3.mono HB2.out.size))
  have HR2 := Lib.hid R2.lt
  obtain ⟨h0, h1⟩ | ⟨G, cv, rfl, hG, hcv, hcv2, hL⟩ := ov.lst
  · have h2 : C.length = 0 := by rw [h1]; rfl
    have := HPP.out.2.2.1
    have := HIX.out.1
    omega
  rw [HPP.out.2.2.1] at hcv ov ⊢
  have HL := Lib.hid hL
  have HG := Lib.hid hG
  have HCV := Lib.hid hcv
  clear m0 m2 c4 b3 A2 R2 hL hG
  have m0 := A3.c0
  have m1 := A3.c1
  have m2 := A3.c2
  have HK := Lib.hid (idx_wrap HPP.out.2.2.2.2.1 HPP.out.2.2.2.2.2.2.1 HPP.out.2.2.2.2.2.1 (by have := HPP.out.2.2.2.1; omega)).1
  have hmn := HIX.out.2
  have hr0 := HPP.out.2.2.2.2.2.2.1
  have hcc := HPP.out.2.2.2.2.2.2.2
  obtain ⟨m, hm⟩ : ∃ m, j * nP = m := ⟨_, rfl⟩
  have HMM := Lib.hid hm
  rw [hm] at hmn HK
  have i1 : (m : Int) ≤ (n : Int) := by omega
  have i2 : (m : Int) ≤ (c : Int) := by omega
  have i3 : ¬ c = m := by omega
  have i4 : ¬ n < m := by omega
  have i5 : (n : Int) ≤ (c : Int) := by omega
  have k1 := HK.out
  clear hm hmn hr0 hcc hcv hcv2 ov
  go_wp2_with fail
  obtain ⟨l1, hl1⟩ : ∃ l1, n - m = l1 := ⟨_, rfl⟩
  have HL1 : Hid (nP ≤ l1 ∧ m + l1 = n) := by
    have h1 := HIX.out.2
    have h2 := HMM.out
    show _ ∧ _
    omega
  rw [hl1]
  clear hl1 i1 i2 i3 i4 i5 m0 m1 m2 HK
  have HWB := Lib.hid HB2.out.size
  go_loopw [42] (fun v wr => ∃ k : Nat, v = .int .i64 (k : Int) ∧ k ≤ nP ∧ Lst KW G 0 (turnTo C m p k) wr ∧ M3 N nP q (.slice (some ⟨ga, oa, none⟩) n c) wr ∧ M3 (N + 1) 0 0 (.slice none 0 0) wr ∧ Below w.heap.size w wr) (fun v _ => nP - (intOf v).toNat)
  case atStart => exact ⟨0, rfl, by omega, by rw [turnTo_zero]; exact HL.out, A3, R3, HB3.out⟩
  case round =>
    obtain ⟨k, rfl, hk, hL, hA, hR, hB⟩ := hrel
    clear A3 R3 HB3 HL HB0 HB1 HB2
    by_cases hlt : k < nP
    · have hkp : k < p.length := by rw [HPP.out.1]; exact hlt
      have hx := (HCHK.out k (by rw [HPP.out.1]; exact hlt)).1
      obtain ⟨x, HX⟩ : ∃ x : Nat, Hid (p.getD k 0 = (x : Int)) := ⟨(p.getD k 0).toNat, by show _ = _; omega⟩
      rw [HX.out, HPP.out.1] at hx
      have cp : wr.cell? ⟨gp, op + k, none⟩ = some (.int .i64 (x : Int)) := by rw [← HX.out]; exact (hB.cell (by exact HGP.out)).trans (HROWP.out k hkp)
      have hmn : m + l1 = n := HL1.out.2
      have hpl : nP ≤ l1 := HL1.out.1
      have hcl := HPP.out.2.2.1
      obtain ⟨z, HZ⟩ : ∃ z, Hid (C.getD (m + x) 0 = z) := ⟨_, rfl⟩
      have ca : wr.cell? ⟨ga, oa + m + x, none⟩ = some (.int .u16 z) := by
        rw [← HZ.out, Nat.add_assoc]; exact (hB.cell (by exact HGA.out)).trans (HROWA.out (m + x) (by omega))
      have HS := turnTo_step C m p k (by omega)
      rw [HX.out, Int.toNat_natCast, HZ.out] at HS
      have hST := hL.set (m + k) z (by rw [turnTo_len]; omega)
      rw [HS] at hST
      have HST : Hid (Lst KW G 0 (turnTo C m p (k + 1)) (wr.setCell ⟨G, 0 + (m + k), none⟩ (.int .u16 z))) := hST
      have ct := hL.cell (m + k) (by rw [turnTo_len]; omega)
      have ft := hL.frozen (m + k) (by rw [turnTo_len]; omega)
      have bt := But.setCell G (0 + (m + k)) wr (.int .u16 z)
      have hgl := HG.out
      have hr2 := HR2.out
      have HA' := Lib.hid (hA.but bt (by omega))
      have HR' := Lib.hid (hR.but bt (by omega))
      have HB' := Lib.hid (hB.trans (bt.below (B := w.heap.size) (by have := HWB.out; omega) hB.size))
      obtain ⟨y, HY⟩ : ∃ y, (turnTo C m p k).getD (m + k) KW.z = y := ⟨_, rfl⟩
      rw [HY] at ct
      have ct : wr.cell? ⟨G, 0 + (m + k), none⟩ = some (.int .u16 y) := ct
      obtain ⟨mk, hmk⟩ : ∃ mk, m + k = mk := ⟨_, rfl⟩
      have w2 : Hid (wrap64 ((m : Int) + (k : Int)) = (mk : Int)) := by
        have := HPP.out.2.2.2.1
        show wrap64 _ = _
        unfold wrap64
        omega
      rw [hmk] at ct ft HST HA' HR' HB'
      have j1 : (k : Int) < (nP : Int) := by omega
      have j2 : (x : Int) < (l1 : Int) := by omega
      have j3 : (mk : Int) < (n : Int) := by omega
      have j4 : (0 : Int) ≤ (mk : Int) := by omega
      have j5 : (0 : Int) ≤ (x : Int) := by omega
      have HU := Lib.hid (up_is hlt (show nP ≤ 16777216 by have := HPP.out.2.1; omega))
      have HV := Lib.hid (up_less hlt (show nP ≤ 16777216 by have := HPP.out.2.1; omega))
      have HLT := Lib.hid hlt
      have e0 := hA.c0
      clear HS hST HY bt hmk hgl hr2 hmn hpl hcl hx hkp hlt hk hL hA hR hB
      rw [Nat.zero_add] at *
      have ww := w2.out
      go_wp2_with fail
      go_region
      go_wp2_with fail
      go_roundw
      case rel => exact ⟨k + 1, HU.out, HLT.out, HST.out.drew, HA'.out.drew, HR'.out.drew, HB'.out.drew⟩
      case measure => exact HV.out
    · obtain rfl : nP = k := by omega
      have HT : Hid (turnL C nP j p = turnTo C m p nP) := by show _ = _; unfold turnL; rw [HMM.out]
      have hm0 := hA.c0
      have hm1 := hA.c1
      have hR3 := hR
      obtain ⟨_, r0, r1, r2, rf0, rf1, rf2⟩ := hR
      have HBB := Lib.hid hB
      have HLL := Lib.hid hL
      clear hlt hk hA hB hL
      go_wp2_with fail
      change bodyPost _ _ _ _ _ (put3 wr (N + 1) nP q (.slice (some ⟨G, 0, none⟩) n cv))
      obtain ⟨k1, k2⟩ := put3_facts hR3 nP q (.slice (some ⟨G, 0, none⟩) n cv)
      have HB4 := HBB.out.trans (k2.below (by have := HN0.out; omega) HBB.out.size)
      have HL4 := HLL.out.but k2 (by have := HG.out; have := HR2.out; omega)
      obtain ⟨_, j0, j1, j2, _, _, _⟩ := k1
      generalize put3 wr (N + 1) nP q (.slice (some ⟨G, 0, none⟩) n cv) = w9 at *
      refine bodyPost_ret (v := .tuple #[mx nP q (.slice (some ⟨G, 0, none⟩) n cv), .int .i64 0]) (by simp [mx, results, Try.results24, go_sem, j0, j1, j2]) rfl ?_
      exact ⟨⟨_, cv, rfl, by rw [turnL_len]; exact HPP.out.2.2.1, HCV.out, (fun h => by cases h), .inr ⟨G, rfl, Nat.le_trans HWB.out HG.out, by rw [HT.out]; exact HL4⟩⟩, HB4⟩
end Go.Proofs.Ytjaogmbeoldefaa
