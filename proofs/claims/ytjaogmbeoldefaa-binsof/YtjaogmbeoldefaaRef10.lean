/-
  THE DOCUMENT's edges. Condition: at most 1000 values, of 64 bits each.
-/
import Derived.Test.YtjaogmbeoldefaaEdgeT
import Derived.Test.YtjaogmbeoldefaaEdgeI
namespace Go.Proofs.Ytjaogmbeoldefaa
open Go.RowKit

theorem step_low {s : List Nat} {bins t q : Nat} {E : List Nat} (I : CutInv s bins t E) (h : ¬ key (s.getD 0 0) < key (posE s bins q)) : stepE s bins E q = E := by
  apply stepE_no
  rcases List.eq_nil_or_concat E with e | ⟨F, x, e⟩
  · rw [e, lastE_nil]; exact h
  · have := I.low x (by rw [e]; simp)
    rw [e, List.concat_eq_append, lastE_snoc]
    omega
theorem at_le {p q m b : Nat} (hb : 0 < b) : (p + 1) * b ≤ q * m ↔ p + 1 ≤ q * m / b := (Nat.le_div_iff_mul_le hb).symm

/-- The row that the edges are put onto. -/
structure Rowed (s : List Nat) (gs : Nat) (w wr : World) (E : List Nat) (k go co : Nat) : Prop where
  len : E.length = k
  own : Own KF wr w.heap.size (.slice (some ⟨go, 0, none⟩) k co) E
  ne : go ≠ gs
  lst : Lst KF gs 0 s wr
  below : Go.RowKit.Below w.heap.size w wr
theorem Rowed.ge {s : List Nat} {gs k go co : Nat} {w wr : World} {E : List Nat} (h : Rowed s gs w wr E k go co) : w.heap.size ≤ go ∧ Lst KF go 0 E wr := by
  obtain ⟨h1, _⟩ | ⟨g', c', e1, hg', _, _, hl⟩ := h.own.lst
  · cases h1
  · injection e1 with e1; injection e1 with e1; injection e1 with e1; subst e1
    exact ⟨hg', hl⟩
theorem Rowed.row {s : List Nat} {gs k go co : Nat} {w wr : World} {E : List Nat} (h : Rowed s gs w wr E k go co) : wr.ownsRow w.heap.size 62 1 (.slice (some ⟨go, 0, none⟩) k co) k (E.map (Value.float .f64)) := by
  have h2 := h.own
  unfold Own at h2
  rw [h.len] at h2
  exact h2
theorem Rowed.next {s : List Nat} {gs k go co : Nat} {w wr : World} {E : List Nat} (h : Rowed s gs w wr E k go co) {x g' cap' : Nat} {w' : World}
    (ho : w'.ownsRow w.heap.size 62 1 (.slice (some ⟨g', 0, none⟩) (k + 1) cap') (k + 1) (E.map (Value.float .f64) ++ [.float .f64 x])) (hg : (wr.alloc (.cells #[.float .f64 x] 62)).grownBy w' (Value.slice (some ⟨go, 0, none⟩) k co).ownBlock)
    (hat : (Value.slice (some ⟨g', 0, none⟩) (k + 1) cap').ownBlock = (Value.slice (some ⟨go, 0, none⟩) k co).ownBlock ∨ (Value.slice (some ⟨g', 0, none⟩) (k + 1) cap').ownBlock = some (wr.heap.size + 1)) : Rowed s gs w w' (E ++ [x]) (k + 1) g' cap' := by
  have hgl := h.lst.lt
  have hge := h.ge.1
  have hne := h.ne
  have bA := (Go.RowKit.Below.refl wr.heap.size wr).alloc (Nat.le_refl _) (.cells #[.float .f64 x] 62)
  have hl2 := h.lst.below bA hgl
  refine ⟨by rw [List.length_append, h.len]; rfl, ?_, ?_, hl2.kept (hg.block gs hl2.lt (by simp [Value.ownBlock]; omega)), ?_⟩
  · unfold Own
    rw [List.length_append, h.len, List.map_append]
    exact ho
  · simp [Value.ownBlock] at hat
    omega
  · exact (h.below.alloc h.below.size _).grown hg (by have := h.below.size; simp; omega) (fun q hq => by simp [Value.ownBlock] at hq; omega)
theorem Rowed.edge {s : List Nat} {gs k go co : Nat} {w wr : World} {E : List Nat} (h : Rowed s gs w wr E k go co) {j : Nat} (hj : j < k) : wr.cell? ⟨go, j, none⟩ = some (.float .f64 (E.getD j 0)) := by
  have := h.ge.2.cell j (by rw [h.len]; exact hj)
  rw [Nat.zero_add] at this
  exact this
theorem Rowed.val {s : List Nat} {gs k go co : Nat} {w wr : World} {E : List Nat} (h : Rowed s gs w wr E k go co) {j : Nat} (hj : j < s.length) : wr.cell? ⟨gs, j, none⟩ = some (.float .f64 (s.getD j 0)) := by
  have := h.lst.cell j hj
  rw [Nat.zero_add] at this
  exact this
theorem last_at {s E : List Nat} {k : Nat} (h : E.length = k + 1) : lastE s E = E.getD k 0 := by
  unfold lastE
  rw [List.getLastD_eq_getLast?, List.getLast?_eq_getElem?, h]
  simp [List.getD_eq_getElem?_getD, show k < E.length by omega]

theorem wrap_is {x : Int} (h : -9223372036854775808 ≤ x) (h1 : x ≤ 9223372036854775807) : wrap64 x = x := by unfold wrap64; omega
theorem inner_num {t m b Q P p : Nat} (hQ : (t + 1) * m = Q) (hP : (t + 1) * m / b = P) (hb : 2 ≤ b) (hb2 : b ≤ 256) (hp : p ≤ P) (hPm : P ≤ 1000) :
    ∃ A : Nat, ((p : Int) + 1) * (b : Int) = (A : Int) ∧ wrap64 (A : Int) = (A : Int) ∧ wrap64 ((p : Int) + 1) = (p : Int) + 1 ∧ (A ≤ Q ↔ p + 1 ≤ P) := by
  have h : (p + 1) * b ≤ 1001 * 256 := Nat.mul_le_mul (by omega) hb2
  refine ⟨(p + 1) * b, by simp, wrap_is (by omega) (by omega), wrap_is (by omega) (by omega), ?_⟩
  rw [← hQ, ← hP]
  exact at_le (by omega)
theorem outer_num {t m b : Nat} (hm : m ≤ 1000) (hlt : t + 1 < b) (hb2 : b ≤ 256) : ∃ Q : Nat, (t + 1) * m = Q ∧ ((t : Int) + 1) * (m : Int) = (Q : Int) ∧ wrap64 (Q : Int) = (Q : Int) := by
  have h : (t + 1) * m ≤ 256 * 1000 := Nat.mul_le_mul (by omega) hm
  exact ⟨(t + 1) * m, rfl, by simp, wrap_is (by omega) (by omega)⟩

theorem next_is {p : Nat} (h : wrap64 ((p : Int) + 1) = (p : Int) + 1) : Value.int .i64 (wrap64 ((p : Int) + 1)) = .int .i64 ((p + 1 : Nat) : Int) := by rw [h]; congr 1
theorem next_less {p P : Nat} (h : wrap64 ((p : Int) + 1) = (p : Int) + 1) (hp : p < P) : P - (intOf (Value.int .i64 (wrap64 ((p : Int) + 1)))).toNat < P - (intOf (Value.int .i64 (p : Int))).toNat := by
  rw [h]
  show P - ((p : Int) + 1).toNat < P - (p : Int).toNat
  omega

theorem ref10_no (a : Option Addr) (cap k : Nat) (l : List Nat) (b : Int) (h : b < 2 ∨ 256 < b) (w : World) :
    Calls Try.prog 33 #[.slice a k cap, .int .i64 b] w fun e w' => GotR e w' w.heap.size (edgesL l b) ∧ Go.RowKit.Below w.heap.size w w' := by
  have HE : Hid (edgesL l b = []) := edges_none h
  have HG : Hid (GotR (.returned (.slice (some ⟨w.heap.size, 0, none⟩) 0 0)) (w.alloc (.cells #[] 62)) w.heap.size []) := ⟨w.heap.size, 0, rfl, Nat.le_refl _, Lst.made (K := KF) w []⟩
  rw [HE.out]
  by_cases h1 : b < 2
  · clear h
    go_enter Try.func33, Try.ntmps33
    go_wp2_with fail
    go_ret
    exact ⟨HG.out, (Go.RowKit.Below.refl _ w).alloc (Nat.le_refl _) _⟩
  · have h2 : 256 < b := by omega
    clear h
    go_enter Try.func33, Try.ntmps33
    go_wp2_with fail
    go_ret
    exact ⟨HG.out, (Go.RowKit.Below.refl _ w).alloc (Nat.le_refl _) _⟩

set_option maxRecDepth 100000 in
set_option maxHeartbeats 4000000 in
theorem ref10_in (a : Option Addr) (cap k b : Nat) (l : List Nat) (hk : l.length = k) (hk2 : k ≤ 1000) (h64 : Bits64 l) (hb : 2 ≤ b) (hb2 : b ≤ 256) (w : World) (hr : HoldsE KF w a l) :
    Calls Try.prog 33 #[.slice a k cap, .int .i64 (b : Int)] w fun e w' => GotR e w' w.heap.size (cutsTo (thereL l) b (b - 1)) ∧ Go.RowKit.Below w.heap.size w w' := by
  obtain ⟨i0, hi, hz0, hz1, hz2⟩ := info_parts infoR
  have ow : Own KF (w.alloc (.cells #[] 62)) w.heap.size (.slice (some ⟨w.heap.size, 0, none⟩) 0 0) [] := Own.start (K := KF) w w.heap.size (Nat.le_refl _)
  have bA := (Go.RowKit.Below.refl w.heap.size w).alloc (Nat.le_refl _) (.cells #[] 62)
  have C := refThere_any a cap k l hk hk2 h64 (w.alloc (.cells #[] 62)) (hr.below bA)
  have sA : (w.alloc (.cells #[] 62)).heap.size = w.heap.size + 1 := by simp
  have HRI := Lib.hid (there_rising h64)
  have hml : (thereL l).length ≤ 1000 := by have := there_len l; omega
  obtain ⟨s, HS⟩ : ∃ s, Hid (thereL l = s) := ⟨_, rfl⟩
  rw [HS.out] at C HRI hml
  obtain ⟨m, HM⟩ : ∃ m, Hid (s.length = m) := ⟨_, rfl⟩
  rw [HM.out] at hml
  have HB := Lib.hid (And.intro hb (And.intro hb2 hml))
  have hb3 : ¬ (b : Int) < 2 := by omega
  have hb4 : ¬ (256 : Int) < (b : Int) := by omega
  clear hr hk hk2 h64 hb hb2 hml
  generalize hwA : w.alloc (.cells #[] 62) = wA at *
  have HWA := Lib.hid hwA
  clear hwA
  go_enter Try.func33, Try.ntmps33
  go_wp2_with fail
  rw [HWA.out]
  refine C.mono ?_
  rintro e w2 ⟨⟨gs, cs, rfl, hgs, hL⟩, hB2⟩
  rw [HM.out]
  have HR0 : Hid (Rowed s gs w w2 [] 0 w.heap.size 0) := ⟨rfl, ow.kept (hB2.block w.heap.size (by omega)), by omega, hL, bA.trans (hB2.mono bA.size)⟩
  clear C ow bA hB2 sA hgs hL
  go_wp2_with fail
  go_loopw [5, 8, 9, 10] (fun v q at_ x wr => ∃ (t ko go co : Nat), t + 1 ≤ b ∧ q = .int .i64 ((t : Int) + 1) ∧ v = .slice (some ⟨go, 0, none⟩) ko co ∧ Rowed s gs w wr (cutsTo s b t) ko go co) (fun _ q _ _ _ => b - (intOf q).toNat)
  case atStart => exact ⟨0, 0, w.heap.size, 0, by have := HB.out; omega, rfl, rfl, HR0.out⟩
  case round =>
    obtain ⟨t, ko, go, co, ht, rfl, rfl, hR⟩ := hrel
    obtain ⟨hb, hb2, hml⟩ := HB.out
    by_cases hlt : t + 1 < b
    · by_cases hm0 : 0 < m
      · have hp : (t + 1) * m / b < m := pos_lt hm0 hlt
        obtain ⟨Q, hQ, hmulQ, hwQ0⟩ := outer_num hml hlt hb2
        have HWQ := Lib.hid hwQ0
        clear hwQ0
        obtain ⟨P, hP⟩ : ∃ P : Nat, (t + 1) * m / b = P := ⟨_, rfl⟩
        rw [hP] at hp
        have hposx : posE s b (t + 1) = s.getD P 0 := by unfold posE; rw [HM.out, hP]
        have HPX := Lib.hid hposx
        have cx := hR.val (show P < s.length by have := HM.out; omega)
        have c0 := hR.val (show 0 < s.length by have := HM.out; omega)
        have hI : CutInv s b t (cutsTo s b t) := cut_inv HRI.out (by have := HM.out; omega) t (by omega)
        have HI := Lib.hid hI
        have hx : s.getD P 0 < 18446744073709551616 := HRI.out.bits.at (by have := HM.out; omega)
        have h0 : s.getD 0 0 < 18446744073709551616 := HRI.out.bits.at (by have := HM.out; omega)
        have hlt2 : (t : Int) + 1 < (b : Int) := by omega
        have hm1 : (0 : Int) < (m : Int) := by omega
        have hP1 : (P : Int) < (m : Int) := by omega
        have HLT := Lib.hid (And.intro hlt (And.intro hm0 (And.intro hp (And.intro hQ hP))))
        have HRW := Lib.hid hR
        have HKO : Hid (ko ≤ 255) := by have := cutsTo_len s b t; have := hR.len; show _ ≤ _; omega
        have HHX := Lib.hid (And.intro hx (And.intro h0 hP1))
        clear hb hb2 hml hlt hm0 hp hQ hP hposx hI hR ht hx h0 hP1 hb3 hb4
        go_wp2_with fail
        clear hlt2 hm1
        go_loopw [9] (fun at_ wq => ∃ p : Nat, p ≤ P ∧ at_ = .int .i64 (p : Int) ∧ wq = wr) (fun at_ _ => P - (intOf at_).toNat)
        case atStart => exact ⟨0, Nat.zero_le _, rfl, rfl⟩
        case round =>
          obtain ⟨p, hpP, rfl, rfl⟩ := hrel
          obtain ⟨Ak, hmulA, hwA0, hw10, hiff⟩ := inner_num HLT.out.2.2.2.1 HLT.out.2.2.2.2 HB.out.1 HB.out.2.1 hpP (by have := HLT.out.2.2.1; have := HB.out.2.2; omega)
          have HWA := Lib.hid hwA0
          have HW1 := Lib.hid hw10
          clear hwA0 hw10
          by_cases hpl : p < P
          · have hAQ : (Ak : Int) ≤ (Q : Int) := by have := hiff.2 (by omega); omega
            have HPL : Hid (p + 1 ≤ P) := hpl
            have HNI := Lib.hid (next_is HW1.out)
            have HNL := Lib.hid (next_less HW1.out hpl)
            clear hiff hpl hpP
            have hwQ := HWQ.out
            have hwA := HWA.out
            have hw1 := HW1.out
            go_wp2_with fail
            clear hwQ hwA hw1
            go_roundw
            case rel => exact ⟨p + 1, HPL.out, HNI.out, trivial⟩
            case measure => exact HNL.out
          · obtain rfl : p = P := by omega
            have hAQ : ¬ (Ak : Int) ≤ (Q : Int) := by have := mt hiff.1 (by omega); omega
            clear hiff hpl hpP
            have hwQ := HWQ.out
            have hwA := HWA.out
            have hw1 := HW1.out
            go_upto_region 12 with fail
            clear hwQ hwA hw1 hmulQ hmulA hAQ
            obtain ⟨hx, h0, hP1⟩ := HHX.out
            have htb : (t : Int) ≤ 256 := by have := HLT.out; have := HB.out; omega
            obtain ⟨x, HX⟩ : ∃ x, Hid (s.getD p 0 = x) := ⟨_, rfl⟩
            obtain ⟨z, HZ⟩ : ∃ z, Hid (s.getD 0 0 = z) := ⟨_, rfl⟩
            rw [HX.out] at cx hx
            rw [HZ.out] at c0 h0
            have HPXX : Hid (posE s b (t + 1) = x) := HPX.out.trans HX.out
            have hp0 : (0 : Int) ≤ (p : Int) := by omega
            by_cases hz : key z < key x
            · have hc1 : (0 : Int) < cmpI (key x) (key z) := by rw [cmpI_gt (by omega)]; decide
              rcases Nat.eq_zero_or_pos ko with hk0 | hk0
              · have HST : Hid (cutsTo s b (t + 1) = cutsTo s b t ++ [x]) := by
                  have he : cutsTo s b t = [] := List.eq_nil_of_length_eq_zero (by have := HRW.out.len; omega)
                  show stepE s b (cutsTo s b t) (t + 1) = _
                  rw [stepE_yes (by rw [he, lastE_nil, HZ.out, HPXX.out]; exact hz), HPXX.out]
                subst hk0
                clear hz
                go_wp2_with (first
                  | (go_at_call 28; refine (refCmp_any _ _ (by assumption) (by assumption) _).mono ?_; rintro e w' ⟨rfl, rfl⟩)
                  | (at_builtin; refine wpList_append_own_at _ rfl _ _ 31 rfl w.heap.size 62 i0 (.float .f64 0) 1 8 Try.underlying31 hi hz0 hz1 hz2 rfl (by decide) _ _ _ rfl (HRW.out.row.alloc _) ⟨wr.heap.size, 0, none⟩ 1 1 [.float .f64 x] rfl rfl (cell_one_new _ _ _) (by simp [Value.oneCell']) (by have := HKO.out; unfold maxLen; omega) (by have := HKO.out; omega) (by have := HRW.out.below.size; simp; omega) ?_))
                intro v' w' ho hg hnil hat
                obtain ⟨g', cap', rfl⟩ := ownsRow_succ ho
                have HRN : Hid (Rowed s gs w w' (cutsTo s b (t + 1)) (0 + 1) g' cap') := by show Rowed _ _ _ _ _ _ _ _; rw [HST.out]; exact HRW.out.next ho hg hat
                clear ho hg hnil hat
                go_wp2_with fail
                go_roundw
                case rel => have h1 := HLT.out; exact ⟨t + 1, 0 + 1, g', cap', by omega, by go_num, rfl, HRN.out⟩
                case measure => have h1 := HLT.out; simp [intOf]; omega
              · obtain ⟨kk, hkk⟩ : ∃ kk, ko = kk + 1 := ⟨ko - 1, by omega⟩
                have cy := HRW.out.edge (show kk < ko by omega)
                have hyl : lastE s (cutsTo s b t) = (cutsTo s b t).getD kk 0 := last_at (HRW.out.len.trans hkk)
                have hy : (cutsTo s b t).getD kk 0 < 18446744073709551616 := by rw [← hyl]; exact last_lt HM.out HLT.out.2.1 (fun e he => HRI.out.bits e he) HLT.out.1
                obtain ⟨y, HY⟩ : ∃ y, Hid ((cutsTo s b t).getD kk 0 = y) := ⟨_, rfl⟩
                rw [HY.out] at cy hy
                have HYL : Hid (lastE s (cutsTo s b t) = y) := hyl.trans HY.out
                have hke : ((ko : Int) == 0) = false := beq_eq_false_iff_ne.2 (by omega)
                have hk1 : (ko : Int) - 1 = (kk : Int) := by omega
                have hk2 : (0 : Int) ≤ (kk : Int) := by omega
                have hk3 : (kk : Int) < (ko : Int) := by omega
                have hk4 : (kk : Int) ≤ 255 := by have := HKO.out; omega
                by_cases hyx : key y < key x
                · have hc2 : (0 : Int) < cmpI (key x) (key y) := by rw [cmpI_gt (by omega)]; decide
                  have HST : Hid (cutsTo s b (t + 1) = cutsTo s b t ++ [x]) := by
                    show stepE s b (cutsTo s b t) (t + 1) = _
                    rw [stepE_yes (by rw [HYL.out, HPXX.out]; exact hyx), HPXX.out]
                  clear hz hyx hyl hk0 hkk
                  go_wp2_with (first
                    | (go_at_call 28; refine (refCmp_any _ _ (by assumption) (by assumption) _).mono ?_; rintro e w' ⟨rfl, rfl⟩)
                    | (at_builtin; refine wpList_append_own_at _ rfl _ _ 31 rfl w.heap.size 62 i0 (.float .f64 0) 1 8 Try.underlying31 hi hz0 hz1 hz2 rfl (by decide) _ _ _ rfl (HRW.out.row.alloc _) ⟨wr.heap.size, 0, none⟩ 1 1 [.float .f64 x] rfl rfl (cell_one_new _ _ _) (by simp [Value.oneCell']) (by have := HKO.out; unfold maxLen; omega) (by have := HKO.out; omega) (by have := HRW.out.below.size; simp; omega) ?_))
                  intro v' w' ho hg hnil hat
                  obtain ⟨g', cap', rfl⟩ := ownsRow_succ ho
                  have HRN : Hid (Rowed s gs w w' (cutsTo s b (t + 1)) (ko + 1) g' cap') := by show Rowed _ _ _ _ _ _ _ _; rw [HST.out]; exact HRW.out.next ho hg hat
                  clear ho hg hnil hat
                  go_wp2_with fail
                  go_roundw
                  case rel => have h1 := HLT.out; exact ⟨t + 1, ko + 1, g', cap', by omega, by go_num, rfl, HRN.out⟩
                  case measure => have h1 := HLT.out; simp [intOf]; omega
                · have hc2 : ¬ (0 : Int) < cmpI (key x) (key y) := by have := cmpI_pos (key x) (key y); rw [decide_eq_false (show ¬ ((key y : Nat) : Int) < ((key x : Nat) : Int) by omega)] at this; exact of_decide_eq_false this
                  have HRN : Hid (Rowed s gs w wr (cutsTo s b (t + 1)) ko go co) := by
                    show Rowed s gs w wr (stepE s b (cutsTo s b t) (t + 1)) ko go co
                    rw [stepE_no (by rw [HYL.out, HPXX.out]; exact hyx)]
                    exact HRW.out
                  clear hz hyx hyl hk0 hkk
                  go_wp2_with (go_at_call 28; refine (refCmp_any _ _ (by assumption) (by assumption) _).mono ?_; rintro e w' ⟨rfl, rfl⟩)
                  go_roundw
                  case rel => have h1 := HLT.out; exact ⟨t + 1, ko, go, co, by omega, by go_num, rfl, HRN.out⟩
                  case measure => have h1 := HLT.out; simp [intOf]; omega
            · have hc1 : ¬ (0 : Int) < cmpI (key x) (key z) := by have := cmpI_pos (key x) (key z); rw [decide_eq_false (show ¬ ((key z : Nat) : Int) < ((key x : Nat) : Int) by omega)] at this; exact of_decide_eq_false this
              have HRN : Hid (Rowed s gs w wr (cutsTo s b (t + 1)) ko go co) := by
                show Rowed s gs w wr (stepE s b (cutsTo s b t) (t + 1)) ko go co
                rw [step_low HI.out (by rw [HZ.out, HPXX.out]; exact hz)]
                exact HRW.out
              clear hz
              go_wp2_with (go_at_call 28; refine (refCmp_any _ _ (by assumption) (by assumption) _).mono ?_; rintro e w' ⟨rfl, rfl⟩)
              go_roundw
              case rel => have h1 := HLT.out; exact ⟨t + 1, ko, go, co, by omega, by go_num, rfl, HRN.out⟩
              case measure => have h1 := HLT.out; simp [intOf]; omega
      · have HE : Hid (cutsTo s b t = cutsTo s b (b - 1)) := by
          have e : s = [] := List.eq_nil_of_length_eq_zero (by have := HM.out; omega)
          show _ = _
          rw [e, cutsTo_none, cutsTo_none]
        have HG : Hid (GotR (.returned (.slice (some ⟨go, 0, none⟩) ko co)) wr w.heap.size (cutsTo s b (b - 1))) := by
          rw [HE.out] at hR
          exact ⟨go, co, by rw [hR.len], hR.ge.1, hR.ge.2⟩
        have hm1 : ¬ (0 : Int) < (m : Int) := by omega
        have hlt2 : (t : Int) + 1 < (b : Int) := by omega
        have HBW := Lib.hid hR.below
        clear hb hb2 hml hlt hm0 hR ht
        go_wp2_with fail
        go_ret
        exact ⟨by rw [HS.out]; exact HG.out, HBW.out⟩
    · have HE : Hid (t = b - 1) := by show _ = _; omega
      have HG : Hid (GotR (.returned (.slice (some ⟨go, 0, none⟩) ko co)) wr w.heap.size (cutsTo s b (b - 1))) := by
        rw [HE.out] at hR
        exact ⟨go, co, by rw [hR.len], hR.ge.1, hR.ge.2⟩
      have hlt2 : ¬ (t : Int) + 1 < (b : Int) := by omega
      have HBW := Lib.hid hR.below
      clear hb hb2 hml hlt hR ht
      go_wp2_with fail
      go_ret
      exact ⟨by rw [HS.out]; exact HG.out, HBW.out⟩

theorem ref10_any (a : Option Addr) (cap k : Nat) (l : List Nat) (hk : l.length = k) (hk2 : k ≤ 1000) (h64 : Bits64 l) (b : Int) (w : World) (hr : HoldsE KF w a l) :
    Calls Try.prog 33 #[.slice a k cap, .int .i64 b] w fun e w' => GotR e w' w.heap.size (edgesL l b) ∧ Go.RowKit.Below w.heap.size w w' := by
  by_cases h : b < 2 ∨ 256 < b
  · exact ref10_no a cap k l b h w
  · rw [edges_some (by omega) (by omega)]
    obtain ⟨c, rfl⟩ : ∃ c : Nat, b = (c : Int) := ⟨b.toNat, by omega⟩
    rw [Int.toNat_natCast]
    exact ref10_in a cap k c l hk hk2 h64 (by omega) (by omega) w hr

end Go.Proofs.Ytjaogmbeoldefaa

