/-
  DATASETS: items: a reader's next values, or targets, each looked at as soon as it is taken. Conditions: the reader has not failed; no more than 10000 bytes.
-/
import Derived.Test.YtbmbgfmhejahjaaDFix
import Derived.Laws.MakeOwn
namespace Go.Proofs.Ytbmbgfmhejahjaa
open Go.RowKit

/-- How the next so many items end. -/
def itE (L : Nat → Int) (l : List UInt8) : Nat → Int
  | 0 => 0
  | n + 1 => if l.length < 8 then 2 else orE (L (num (l.take 8))) (itE L (l.drop 8) n)
/-- The next so many items. -/
def itL (l : List UInt8) : Nat → List Nat
  | 0 => []
  | n + 1 => itL l n ++ [num ((l.drop (8 * n)).take 8)]
theorem itL_len (l : List UInt8) (n : Nat) : (itL l n).length = n := by
  induction n with
  | zero => rfl
  | succ n ih => simp [itL, ih]
theorem itE_step (L : Nat → Int) (l : List UInt8) (n j : Nat) (hj : j < n) (h : itE L l n = itE L (l.drop (8 * j)) (n - j)) :
    itE L l n = if (l.drop (8 * j)).length < 8 then 2 else orE (L (num ((l.drop (8 * j)).take 8))) (itE L (l.drop (8 * (j + 1))) (n - (j + 1))) := by
  rw [h, show n - j = (n - (j + 1)) + 1 by omega]
  simp only [itE, List.drop_drop]
  rw [show 8 * (j + 1) = 8 * j + 8 by omega]
theorem num8_lt (l : List UInt8) : num (l.take 8) < 18446744073709551616 := by
  have h1 := num_lt (l.take 8)
  have h2 : 256 ^ (l.take 8).length ≤ 256 ^ 8 := Nat.pow_le_pow_right (by decide) (List.length_take_le _ _)
  have : (256 : Nat) ^ 8 = 18446744073709551616 := by decide
  omega
theorem But.over {b D : Nat} {w w1 w2 : World} (h : But b w w1) (k : Below D w1 w2) (hD : w.heap.size ≤ D) : But b w w2 :=
  ⟨k.os.trans h.os, k.tape.trans h.tape, k.output.trans h.output, Nat.le_trans h.size k.size, fun i hi hn => (k.block i (by omega)).trans (h.block i hi hn)⟩

theorem failIf_ok (R : Nat) (w : World) : Calls Try.prog 58 #[.pointer (some ⟨R, 0, none⟩), .int .i64 0] w fun x w' => x = .returned (.tuple #[]) ∧ w' = w := by
  go_enter Try.func58, Try.ntmps58
  go_wp2_with fail
  go_end0
  exact ⟨rfl, rfl⟩
theorem failIf_no (B C R : Nat) (l : List UInt8) (e : Int) (he : e ≠ 0) (w : World) (h : Rd B C R l 0 w) : Calls Try.prog 58 #[.pointer (some ⟨R, 0, none⟩), .int .i64 e] w fun x w' => x = .panicked (thrown R) ∧ Rd B C R l e w' ∧ But R w w' := by
  have hf := fail_any B C R l e w h
  rw [show failE e = e from if_neg he] at hf
  have g : (e != 0) = true := by simpa using he
  clear he h
  go_enter Try.func58, Try.ntmps58
  go_wp2_with fail
  refine hf.mono ?_
  rintro x w1 ⟨rfl, hr⟩
  exact ⟨rfl, rfl, hr⟩
theorem value_none (B C R : Nat) (l : List UInt8) (hn : l.length < 8) (w : World) (h : Rd B C R l 0 w) :
    Calls Try.prog 60 #[.pointer (some ⟨R, 0, none⟩)] w fun x w' => x = .panicked (thrown R) ∧ Rd B C R l 2 w' ∧ But R w w' := by
  have hf := number_none B C R l 8 hn w h
  clear h
  go_enter Try.func60, Try.ntmps60
  go_wp2_with fail
  refine hf.mono ?_
  rintro e w1 ⟨rfl, hr⟩
  exact ⟨rfl, rfl, hr⟩
theorem whole_none (B C R : Nat) (l : List UInt8) (hn : l.length < 8) (w : World) (h : Rd B C R l 0 w) :
    Calls Try.prog 62 #[.pointer (some ⟨R, 0, none⟩)] w fun x w' => x = .panicked (thrown R) ∧ Rd B C R l 2 w' ∧ But R w w' := by
  have hf := number_none B C R l 8 hn w h
  clear h
  go_enter Try.func62, Try.ntmps62
  go_wp2_with fail
  refine hf.mono ?_
  rintro e w1 ⟨rfl, hr⟩
  exact ⟨rfl, rfl, hr⟩

/-- What 'make' of no items, with room for some, leaves. -/
theorem run_made1 {α : Type} {K : Kind α} (ok : K.Ok) (w : World) (m : Nat) (h : m ≤ 1048576) : ∃ w', (Instr.makeSlice K.s (.int .i64 0) (.int .i64 (m : Int))).run Try.prog w = .ok (.slice (some ⟨w.heap.size, 0, none⟩) 0 m) w' ∧
    Own K w' w.heap.size (.slice (some ⟨w.heap.size, 0, none⟩) 0 m) [] ∧ Below w.heap.size w w' := by
  obtain ⟨i0, hi, hz0, hz1, hz2⟩ := info_parts ok.info
  have hb := Nat.mul_le_mul ok.bytes h
  obtain ⟨w', h1, h2, h3⟩ := run_make_own (P := Try.prog) w w.heap.size K.s K.e i0 _ 1 ok.under hi hz0 hz1 .i64 .i64 m (by rw [hz2]; omega) (by unfold maxLen; omega) (Nat.le_refl _)
  exact ⟨w', h1, h2, (Below.refl _ w).grown h3 (Nat.le_refl _) (fun g hg => by cases hg)⟩

/-- What items leave: all of them in a row of the call's own, or the error. -/
def ItP {α : Type} (K : Kind α) (B C R : Nat) (w : World) (l : List UInt8) (n : Nat) (e : Int) (k : List α) (x : Ending) (w' : World) : Prop :=
  ∃ l', ((e = 0 ∧ l' = l.drop (8 * n) ∧ ∃ v, x = .returned v ∧ Own K w' w.heap.size v k) ∨ (e ≠ 0 ∧ x = .panicked (thrown R))) ∧ Rd B C R l' e w' ∧ But R w w'

theorem Own.but {α : Type} {K : Kind α} {w w' : World} {D b : Nat} {v : Value} {l : List α} (h : Own K w D v l) (hb : But b w w') (hn : b < D) : Own K w' D v l := h.keep fun k h1 h2 => hb.block k h2 (by omega)

set_option maxRecDepth 20000 in
set_option maxHeartbeats 4000000 in
theorem itemsV_any (B C R n : Nat) (l : List UInt8) (hl : l.length ≤ 10000) (hn : n ≤ 1073741824) (w : World) (h : Rd B C R l 0 w) :
    Calls Try.prog 59 #[.pointer (some ⟨R, 0, none⟩), .int .i64 (n : Int), .func (.func 60) #[.pointer (some ⟨R, 0, none⟩)] #[], .func (.func 42) #[] #[]] w fun x w' => ItP KF B C R w l n (itE eV l n) (itL l n) x w' := by
  have hlf := left_any B C R l 0 w h
  have top := h.top
  obtain ⟨M, hM⟩ : ∃ M, M = min n (l.length / 8) := ⟨_, rfl⟩
  obtain ⟨w1, hmk, own1, b1⟩ := run_made1 okF w M (by omega)
  rw [show (M : Int) = min (n : Int) ((l.length : Int) / 8) by omega] at hmk
  have hmk : (Instr.makeSlice 34 (.int .i64 0) (.int .i64 (min (n : Int) ((l.length : Int) / 8)))).run Try.prog w = .ok (.slice (some ⟨w.heap.size, 0, none⟩) 0 M) w1 := hmk
  have r1 := h.below b1 top
  have bu1 := But.of_below (b := R) b1
  have hz1 := b1.size
  clear h
  obtain ⟨D, hD⟩ : ∃ D, w.heap.size = D := ⟨_, rfl⟩
  have HD := Lib.hid hD
  rw [hD] at own1 hmk top hz1
  have HP : Hid (∀ x w', (∃ l', ((itE eV l n = 0 ∧ l' = l.drop (8 * n) ∧ ∃ v, x = .returned v ∧ Own KF w' D v (itL l n)) ∨ (itE eV l n ≠ 0 ∧ x = .panicked (thrown R))) ∧ Rd B C R l' (itE eV l n) w' ∧ But R w w') → ItP KF B C R w l n (itE eV l n) (itL l n) x w') := by
    show ∀ x w', _
    intro x w' h
    unfold ItP
    rw [hD]; exact h
  clear hM hD b1
  go_enter Try.func59, Try.ntmps59
  go_wp2_with fail
  refine hlf.mono ?_
  rintro e w2 ⟨rfl, rfl⟩
  clear hlf
  go_wp2_with fail
  clear hmk
  go_loopw [18, 9] (fun v18 v9 wr => ∃ j : Nat, j ≤ n ∧ v18 = .int .i64 (j : Int) ∧ Own KF wr D v9 (itL l j) ∧ Rd B C R (l.drop (8 * j)) 0 wr ∧ But R w2 wr ∧ D ≤ wr.heap.size ∧ 8 * j ≤ l.length ∧ Hid (itE eV l n = itE eV (l.drop (8 * j)) (n - j))) (fun v18 _ _ => n - (intOf v18).toNat)
  case atStart => exact ⟨0, by omega, rfl, own1, r1, bu1, hz1, by omega, rfl⟩
  case round =>
    obtain ⟨j, hj, rfl, own, rd, bu, hDw, hjl, HE⟩ := hrel
    clear own1 r1 bu1 hz1
    by_cases hlt : j < n
    · have i1 : (j : Int) < (n : Int) := by omega
      have HS := Lib.hid (itE_step eV l n j hlt HE.out)
      have hdl : (l.drop (8 * j)).length ≤ 1048576 := by rw [List.length_drop]; omega
      have hjl2 : (l.drop (8 * j)).length = l.length - 8 * j := List.length_drop
      by_cases h8 : (l.drop (8 * j)).length < 8
      · have HE2 : Hid (itE eV l n = 2) := HS.out.trans (if_pos h8)
        have hv := value_none B C R (l.drop (8 * j)) h8 wr rd
        clear HE HS hdl hjl2 h8 own rd hjl
        go_wp2_with fail
        refine hv.mono ?_
        rintro x w3 ⟨rfl, rd3, b3⟩
        exact ⟨rfl, HP.out _ _ ⟨_, .inr ⟨by rw [HE2.out]; decide, rfl⟩, by rw [HE2.out]; exact rd3, bu.trans b3⟩⟩
      · have hv := value_some B C R (l.drop (8 * j)) (by omega) wr rd hdl
        rw [List.drop_drop, show 8 * j + 8 = 8 * (j + 1) by omega] at hv
        have hres : Hid ((itL l (j + 1)) = (itL l j) ++ [num ((l.drop (8 * j)).take 8)]) := by
          show _ = _
          rfl
        have HS2 : Hid (itE eV l n = orE (eV (num ((l.drop (8 * j)).take 8))) (itE eV (l.drop (8 * (j + 1))) (n - (j + 1)))) := HS.out.trans (if_neg h8)
        have hx := num8_lt (l.drop (8 * j))
        have hj8 : 8 * (j + 1) ≤ l.length := by omega
        clear HE HS hdl hjl2 h8 rd hjl
        generalize num ((l.drop (8 * j)).take 8) = x at *
        go_wp2_with fail
        refine hv.mono ?_
        rintro e w3 ⟨rfl, rd3, b3⟩
        replace own := own.but b3 (by have := rd3.hi; omega)
        have bu3 := bu.trans b3
        have hD3 := Nat.le_trans hDw b3.size
        clear hv bu b3 hDw
        have hlk := value_any x hx w3
        by_cases hz : eV (x) = 0
        · have HE2 : Hid (itE eV l n = itE eV (l.drop (8 * (j + 1))) (n - (j + 1))) := HS2.out.trans (orE_0 hz)
          rw [hz] at hlk
          clear hz HS2
          go_wp2_with fail
          refine hlk.mono ?_
          rintro e w4 ⟨rfl, rfl⟩
          have fo := failIf_ok R w4
          clear hlk
          go_wp2_with fail
          refine fo.mono ?_
          rintro e w5 ⟨rfl, rfl⟩
          clear fo
          have hB5 : D ≤ (w5.alloc (.cells #[.float .f64 x] 51)).heap.size := by simp; omega
          have bb5 : Below w5.heap.size w5 (w5.alloc (.cells #[.float .f64 x] 51)) := (Below.refl _ w5).alloc (Nat.le_refl _) _
          replace own := own.alloc (.cells #[.float .f64 x] 51)
          have cam : CameE KF (w5.alloc (.cells #[.float .f64 x] 51)) (some ⟨w5.heap.size, 0, none⟩) 1 [x] := CameE.new (K := KF) _
          have hll : ((itL l j)).length = j := by simp [itL_len]
          have rd5 := rd3.below bb5 (Nat.le_trans top hD3)
          have bu5 := bu3.trans (But.of_below bb5)
          clear rd3 bu3
          go_wp2_with (at_builtin; refine app_own okF rfl _ _ rfl D hB5 _ _ rfl own _ 1 1 _ rfl cam (by rw [hll]; simp; omega) ?_)
          intro v6 w6 own6 b6
          have HO : Hid (Own KF w6 D v6 (itL l (j + 1))) := by
            show Own KF w6 D v6 _
            rw [hres.out]; exact own6
          have HR := Lib.hid (rd5.below b6 top)
          have HBU := Lib.hid (bu5.over b6 (by rw [HD.out]; exact Nat.le_refl _))
          have hD6 := Nat.le_trans hB5 b6.size
          clear own cam own6 rd5 bu5 b6 bb5 hB5 hres
          go_wp2_with fail
          go_roundw
          case rel => exact ⟨j + 1, by omega, by go_num, HO.out, HR.out, HBU.out, hD6, hj8, HE2⟩
          case measure => simp [intOf]; omega
        · have HE2 : Hid (itE eV l n = eV (x)) := HS2.out.trans (orE_1 hz)
          have HZ := Lib.hid hz
          clear HS2
          go_wp2_with fail
          refine hlk.mono ?_
          rintro e w4 ⟨rfl, rfl⟩
          have fo := failIf_no B C R _ _ hz w4 rd3
          clear hlk hz
          go_wp2_with fail
          refine fo.mono ?_
          rintro x1 w5 ⟨rfl, rd5, b5⟩
          exact ⟨rfl, HP.out _ _ ⟨_, .inr ⟨by rw [HE2.out]; exact HZ.out, rfl⟩, by rw [HE2.out]; exact rd5, bu3.trans b5⟩⟩
    · have i1 : ¬ (j : Int) < (n : Int) := by omega
      obtain rfl : j = n := by omega
      have HE2 : Hid (itE eV l j = 0) := by show _ = _; rw [HE.out, Nat.sub_self]; rfl
      clear HE hlt
      go_wp2_with fail
      go_ret
      exact HP.out _ _ ⟨_, .inl ⟨HE2.out, rfl, _, rfl, own⟩, by rw [HE2.out]; exact rd, bu⟩

/-- The next so many whole numbers. -/
def tL (l : List UInt8) (n : Nat) : List Int := (itL l n).map fun (y : Nat) => wrap64 (y : Int)
theorem tL_len (l : List UInt8) (n : Nat) : (tL l n).length = n := by simp [tL, itL_len]
theorem tL_succ (l : List UInt8) (n : Nat) : tL l (n + 1) = tL l n ++ [wrap64 (num ((l.drop (8 * n)).take 8) : Int)] := by simp [tL, itL]
/-- What is wrong with a target, by its number. -/
def eW (k c : Int) (y : Nat) : Int := eT k c (wrap64 (y : Int))

set_option maxRecDepth 20000 in
set_option maxHeartbeats 4000000 in
theorem itemsT_any (k c b t d lf p : Int) (B C R n : Nat) (l : List UInt8) (hl : l.length ≤ 10000) (hn : n ≤ 1073741824) (w : World) (h : Rd B C R l 0 w) :
    Calls Try.prog 61 #[.pointer (some ⟨R, 0, none⟩), .int .i64 (n : Int), .func (.func 62) #[.pointer (some ⟨R, 0, none⟩)] #[], .func (.func (wtF k)) #[cf k c b t d lf p] #[]] w fun x w' => ItP K64 B C R w l n (itE (eW k c) l n) (tL l n) x w' := by
  have hlf := left_any B C R l 0 w h
  have top := h.top
  have hcall := fun x => wtF_calls k c b t d lf p x
  have hent := wtF_enters k (cf k c b t d lf p)
  generalize cf k c b t d lf p = CF at *
  generalize wtF k = F at *
  obtain ⟨M, hM⟩ : ∃ M, M = min n (l.length / 8) := ⟨_, rfl⟩
  obtain ⟨w1, hmk, own1, b1⟩ := run_made1 ok64 w M (by omega)
  rw [show (M : Int) = min (n : Int) ((l.length : Int) / 8) by omega] at hmk
  have hmk : (Instr.makeSlice 25 (.int .i64 0) (.int .i64 (min (n : Int) ((l.length : Int) / 8)))).run Try.prog w = .ok (.slice (some ⟨w.heap.size, 0, none⟩) 0 M) w1 := hmk
  have r1 := h.below b1 top
  have bu1 := But.of_below (b := R) b1
  have hz1 := b1.size
  clear h
  obtain ⟨D, hD⟩ : ∃ D, w.heap.size = D := ⟨_, rfl⟩
  have HD := Lib.hid hD
  rw [hD] at own1 hmk top hz1
  have HP : Hid (∀ x w', (∃ l', ((itE (eW k c) l n = 0 ∧ l' = l.drop (8 * n) ∧ ∃ v, x = .returned v ∧ Own K64 w' D v (tL l n)) ∨ (itE (eW k c) l n ≠ 0 ∧ x = .panicked (thrown R))) ∧ Rd B C R l' (itE (eW k c) l n) w' ∧ But R w w') → ItP K64 B C R w l n (itE (eW k c) l n) (tL l n) x w') := by
    show ∀ x w', _
    intro x w' h
    unfold ItP
    rw [hD]; exact h
  clear hM hD b1
  go_enter Try.func61, Try.ntmps61
  go_wp2_with fail
  refine hlf.mono ?_
  rintro e w2 ⟨rfl, rfl⟩
  clear hlf
  go_wp2_with fail
  clear hmk
  go_loopw [18, 9] (fun v18 v9 wr => ∃ j : Nat, j ≤ n ∧ v18 = .int .i64 (j : Int) ∧ Own K64 wr D v9 (tL l j) ∧ Rd B C R (l.drop (8 * j)) 0 wr ∧ But R w2 wr ∧ D ≤ wr.heap.size ∧ 8 * j ≤ l.length ∧ Hid (itE (eW k c) l n = itE (eW k c) (l.drop (8 * j)) (n - j))) (fun v18 _ _ => n - (intOf v18).toNat)
  case atStart => exact ⟨0, by omega, rfl, own1, r1, bu1, hz1, by omega, rfl⟩
  case round =>
    obtain ⟨j, hj, rfl, own, rd, bu, hDw, hjl, HE⟩ := hrel
    clear own1 r1 bu1 hz1
    by_cases hlt : j < n
    · have i1 : (j : Int) < (n : Int) := by omega
      have HS := Lib.hid (itE_step (eW k c) l n j hlt HE.out)
      have hdl : (l.drop (8 * j)).length ≤ 1048576 := by rw [List.length_drop]; omega
      have hjl2 : (l.drop (8 * j)).length = l.length - 8 * j := List.length_drop
      by_cases h8 : (l.drop (8 * j)).length < 8
      · have HE2 : Hid (itE (eW k c) l n = 2) := HS.out.trans (if_pos h8)
        have hv := whole_none B C R (l.drop (8 * j)) h8 wr rd
        clear HE HS hdl hjl2 h8 own rd hjl
        go_wp2_with fail
        refine hv.mono ?_
        rintro x w3 ⟨rfl, rd3, b3⟩
        exact ⟨rfl, HP.out _ _ ⟨_, .inr ⟨by rw [HE2.out]; decide, rfl⟩, by rw [HE2.out]; exact rd3, bu.trans b3⟩⟩
      · have hv := whole_some B C R (l.drop (8 * j)) (by omega) wr rd hdl
        rw [List.drop_drop, show 8 * j + 8 = 8 * (j + 1) by omega] at hv
        have hres : Hid ((tL l (j + 1)) = (tL l j) ++ [wrap64 (num ((l.drop (8 * j)).take 8) : Int)]) := by
          show _ = _
          exact tL_succ l j
        have HS2 : Hid (itE (eW k c) l n = orE (eT k c (wrap64 (num ((l.drop (8 * j)).take 8) : Int))) (itE (eW k c) (l.drop (8 * (j + 1))) (n - (j + 1)))) := HS.out.trans (if_neg h8)
        have hx := num8_lt (l.drop (8 * j))
        have hj8 : 8 * (j + 1) ≤ l.length := by omega
        clear HE HS hdl hjl2 h8 rd hjl
        generalize num ((l.drop (8 * j)).take 8) = x at *
        go_wp2_with fail
        refine hv.mono ?_
        rintro e w3 ⟨rfl, rd3, b3⟩
        replace own := own.but b3 (by have := rd3.hi; omega)
        have bu3 := bu.trans b3
        have hD3 := Nat.le_trans hDw b3.size
        clear hv bu b3 hDw
        have hlk := hcall (wrap64 (x : Int)) w3
        by_cases hz : eT k c (wrap64 (x : Int)) = 0
        · have HE2 : Hid (itE (eW k c) l n = itE (eW k c) (l.drop (8 * (j + 1))) (n - (j + 1))) := HS2.out.trans (orE_0 hz)
          rw [hz] at hlk
          clear hz HS2
          go_wp2_with fail
          refine hlk.mono ?_
          rintro e w4 ⟨rfl, b4⟩
          replace own := own.below b4
          replace rd3 := rd3.below b4 (Nat.le_trans top hD3)
          replace bu3 := bu3.trans (But.of_below b4)
          replace hD3 := Nat.le_trans hD3 b4.size
          clear b4
          have fo := failIf_ok R w4
          clear hlk
          go_wp2_with fail
          refine fo.mono ?_
          rintro e w5 ⟨rfl, rfl⟩
          clear fo
          have hB5 : D ≤ (w5.alloc (.cells #[.int .i64 (wrap64 (x : Int))] 2)).heap.size := by simp; omega
          have bb5 : Below w5.heap.size w5 (w5.alloc (.cells #[.int .i64 (wrap64 (x : Int))] 2)) := (Below.refl _ w5).alloc (Nat.le_refl _) _
          replace own := own.alloc (.cells #[.int .i64 (wrap64 (x : Int))] 2)
          have cam : CameE K64 (w5.alloc (.cells #[.int .i64 (wrap64 (x : Int))] 2)) (some ⟨w5.heap.size, 0, none⟩) 1 [wrap64 (x : Int)] := CameE.new (K := K64) _
          have hll : ((tL l j)).length = j := tL_len l j
          have rd5 := rd3.below bb5 (Nat.le_trans top hD3)
          have bu5 := bu3.trans (But.of_below bb5)
          clear rd3 bu3
          go_wp2_with (at_builtin; refine app_own ok64 rfl _ _ rfl D hB5 _ _ rfl own _ 1 1 _ rfl cam (by rw [hll]; simp; omega) ?_)
          intro v6 w6 own6 b6
          have HO : Hid (Own K64 w6 D v6 (tL l (j + 1))) := by
            show Own K64 w6 D v6 _
            rw [hres.out]; exact own6
          have HR := Lib.hid (rd5.below b6 top)
          have HBU := Lib.hid (bu5.over b6 (by rw [HD.out]; exact Nat.le_refl _))
          have hD6 := Nat.le_trans hB5 b6.size
          clear own cam own6 rd5 bu5 b6 bb5 hB5 hres
          go_wp2_with fail
          go_roundw
          case rel => exact ⟨j + 1, by omega, by go_num, HO.out, HR.out, HBU.out, hD6, hj8, HE2⟩
          case measure => simp [intOf]; omega
        · have HE2 : Hid (itE (eW k c) l n = eT k c (wrap64 (x : Int))) := HS2.out.trans (orE_1 hz)
          have HZ := Lib.hid hz
          clear HS2
          go_wp2_with fail
          refine hlk.mono ?_
          rintro e w4 ⟨rfl, b4⟩
          replace own := own.below b4
          replace rd3 := rd3.below b4 (Nat.le_trans top hD3)
          replace bu3 := bu3.trans (But.of_below b4)
          replace hD3 := Nat.le_trans hD3 b4.size
          clear b4
          have fo := failIf_no B C R _ _ hz w4 rd3
          clear hlk hz
          go_wp2_with fail
          refine fo.mono ?_
          rintro x1 w5 ⟨rfl, rd5, b5⟩
          exact ⟨rfl, HP.out _ _ ⟨_, .inr ⟨by rw [HE2.out]; exact HZ.out, rfl⟩, by rw [HE2.out]; exact rd5, bu3.trans b5⟩⟩
    · have i1 : ¬ (j : Int) < (n : Int) := by omega
      obtain rfl : j = n := by omega
      have HE2 : Hid (itE (eW k c) l j = 0) := by show _ = _; rw [HE.out, Nat.sub_self]; rfl
      clear HE hlt
      go_wp2_with fail
      go_ret
      exact HP.out _ _ ⟨_, .inl ⟨HE2.out, rfl, _, rfl, own⟩, by rw [HE2.out]; exact rd, bu⟩
end Go.Proofs.Ytbmbgfmhejahjaa
