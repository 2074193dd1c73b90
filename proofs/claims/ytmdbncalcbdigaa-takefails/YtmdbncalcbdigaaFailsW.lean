/-
  TakeFails' walk: who fails ends at once, with that error; within one that is tried another one may be. Condition: no more than 100 bytes each.
-/
import Derived.Test.YtmdbncalcbdigaaTakeFix
namespace Go.Proofs.Ytmdbncalcbdigaa
open Go.RowKit

theorem enters13 (x : Value) (cap : Array Value) (w : World) : (callFunc 13 (#[x] ++ cap)).run Try.prog w = .ok (.enter 13 (#[x] ++ cap)) w := by
  simp [go_sem]
theorem enters14 (x : Value) (cap : Array Value) (w : World) : (callFunc 14 (#[x] ++ cap)).run Try.prog w = .ok (.enter 14 (#[x] ++ cap)) w := by
  simp [go_sem]

/-- With which error the inner one fails. -/
def innerE (l : List UInt8) : Int := if l.length = 0 then 2 else 5

theorem inner_any (H : Nat) (l : List UInt8) (hl : l.length ≤ 100) (w : World) :
    Tried w 14 #[.pointer (some ⟨H, 0, none⟩)] l fun _ e w2 => e = innerE l ∧ Buts (fun _ => False) w w2 := by
  intro R w1 rd bel
  have lo := rd.lo
  show Calls Try.prog _ #[.pointer (some ⟨R, 0, none⟩), .pointer (some ⟨H, 0, none⟩)] _ _
  by_cases h0 : l.length = 0
  · have HE : Hid (innerE l = 2) := if_pos h0
    have n1 := number_none _ _ R l 1 (by rw [h0]; decide) w1 rd
    clear rd
    go_enter Try.func14, Try.ntmps14
    go_wp2_with fail
    refine n1.mono ?_
    rintro x w2 ⟨rfl, rd2, hb2⟩
    have fr : Buts (fun k => k = R ∨ False) w1 w2 := (Buts.refl _ w1).but hb2 (.inl (.inl rfl))
    exact ⟨rfl, l, 2, .inr rfl, rd2, Tried.frame fr (by rintro k ⟨⟩), HE.out.symm, Tried.whole bel fr (by omega)⟩
  · have HE : Hid (innerE l = 5) := if_neg h0
    have n1 := number_some _ _ R l 1 (show 1 ≤ l.length by omega) w1 rd (by omega)
    clear rd
    go_enter Try.func14, Try.ntmps14
    go_wp2_with fail
    refine n1.mono ?_
    rintro x w2 ⟨rfl, rd2, hb2⟩
    have n2 := fail_any _ _ R _ 5 _ rd2
    rw [show failE 5 = 5 from rfl] at n2
    clear n1 rd2
    go_wp2_with fail
    refine n2.mono ?_
    rintro x w3 ⟨rfl, rd3, hb3⟩
    have fr : Buts (fun k => k = R ∨ False) w1 w3 := ((Buts.refl _ w1).but hb2 (.inl (.inl rfl))).but hb3 (.inl (.inl rfl))
    exact ⟨rfl, _, 5, .inr rfl, rd3, Tried.frame fr (by rintro k ⟨⟩), HE.out.symm, Tried.whole bel fr (by omega)⟩

set_option maxHeartbeats 1000000 in
theorem outer_any (I H O P E : Nat) (aI : Option Addr) (cI : Nat) (hI0 : aI = none → cI = 0) (li l : List UInt8) (hli : li.length ≤ 100) (_hl : l.length ≤ 100) (aP : Option Addr) (cP : Nat) (e : Int) (he : -32768 ≤ e ∧ e ≤ 32767) (vO : Value) (hPO : P ≠ O) (hEO : E ≠ O) (w : World)
    (hI : Var I (.slice aI li.length cI) w) (hP : Var P (.slice aP l.length cP) w) (hE : Var E (.int .i16 e) w) (hO : Var O vO w) (hh : HoldsE KB w aI li) :
    Tried w 13 #[.pointer (some ⟨I, 0, none⟩), .pointer (some ⟨H, 0, none⟩), .pointer (some ⟨O, 0, none⟩), .pointer (some ⟨P, 0, none⟩), .pointer (some ⟨E, 0, none⟩)] l
      fun _ x w2 => x = failE e ∧ Var O (.int .i64 (innerE li)) w2 ∧ Buts (fun k => k = O) w w2 := by
  have hmf : ∀ (fn : Fn) (first cap : Array Value) (w : World), (Instr.makeFunc fn first cap).run Try.prog w = .ok (.func fn first cap) w := fun _ _ _ _ => rfl
  intro R w1 rd bel
  have lo := rd.lo
  have hi := rd.hi
  have lO := hO.lt
  have lP := hP.lt
  have lE := hE.lt
  have cI1 := (hI.below bel hI.lt).c
  have hO1 := hO.below bel lO
  have hP1 := hP.below bel lP
  have hE1 := hE.below bel lE
  have t1 := try_any 14 #[.pointer (some ⟨H, 0, none⟩)] aI _ cI li rfl (by omega) hI0 w1 (hh.below bel) (fun x w => enters14 x _ w) _ (inner_any H li hli w1)
  clear hI hO hP hE hh
  show Calls Try.prog _ #[.pointer (some ⟨R, 0, none⟩), .pointer (some ⟨I, 0, none⟩), .pointer (some ⟨H, 0, none⟩), .pointer (some ⟨O, 0, none⟩), .pointer (some ⟨P, 0, none⟩), .pointer (some ⟨E, 0, none⟩)] _ _
  go_enter Try.func13, Try.ntmps13
  go_wp2_with fail
  refine t1.mono ?_
  rintro x w3 ⟨l', e', w2, rfl, ⟨rfl, f2⟩, hb⟩
  rw [show endE l' (innerE li) = innerE li by unfold endE innerE; split <;> simp]
  have f3 := f2.but hb (.inr (Nat.le_refl _))
  have hO3 := hO1.buts f3 (fun h => h)
  have hO4 := hO3.set (.int .i64 (innerE li))
  have hP3 := hP1.buts f3 (fun h => h)
  have hE3 := hE1.buts f3 (fun h => h)
  have rd3 := rd.buts f3 (fun _ _ _ h => h)
  have hb4 := But.setCell O 0 w3 (.int .i64 (innerE li))
  have rd4 := rd3.but hb4 (.inl (by omega))
  have fr : Buts (fun k => k = R ∨ k = O) w1 (w3.setCell ⟨O, 0, none⟩ (.int .i64 (innerE li))) := (Buts.mono f3 (by rintro k ⟨⟩)).but hb4 (.inl (.inr rfl))
  have hP4 := hP3.but hb4 hPO
  have hE4 := hE3.but hb4 hEO
  have HF := Lib.hid fr
  have o1 := hO3.c
  have o2 := hO3.f
  clear t1 f2 hb f3 hO3 hP3 hE3 rd rd3 hb4 fr hO1 hP1 hE1 cI1
  go_wp2_with fail
  generalize w3.setCell ⟨O, 0, none⟩ (.int .i64 (innerE li)) = W at *
  clear o1 o2
  have p1 := hP4.c
  go_big_quiet (first | (go_at_call 11; refine Calls.quiet_of_same (left_any _ _ _ _ _ _ (rd4.drewN _))))
  obtain ⟨W2, hW2⟩ : ∃ W2, W.drewN nq = W2 := ⟨_, rfl⟩
  have rd5 := rd4.drewN nq
  have hO5 := hO4.drewN nq
  have e5 := (hE4.drewN nq).c
  have HF5 := Lib.hid (HF.out.drewN nq)
  rw [hW2] at rd5 hO5 e5 HF5
  rw [hW2]
  have wr : wrap64 e = e := by unfold wrap64; omega
  have n2 := fail_any _ _ R _ e _ rd5
  clear hW2 rd4 hO4 hP4 hE4 p1 HF rd5
  go_wp2_with fail
  refine n2.mono ?_
  rintro x w6 ⟨rfl, rd6, hb6⟩
  have fr : Buts (fun k => k = R ∨ k = O) w1 w6 := HF5.out.but hb6 (.inl (.inl rfl))
  exact ⟨rfl, _, _, .inr rfl, rd6, Tried.frame fr (by rintro k rfl; exact lO), rfl, hO5.but hb6 (by omega), Tried.whole bel fr (by omega)⟩

theorem alloc_below (w : World) (o : Obj) : Below w.heap.size w (w.alloc o) := (Below.refl _ w).alloc (Nat.le_refl _) o

/-- The three arguments, as the law lays them. -/
def boxed (w : World) (x y z : Value) : World := ((w.alloc (.cells #[x] 22)).alloc (.cells #[y] 38)).alloc (.cells #[z] 22)
theorem boxed_size (w : World) (x y z : Value) : (boxed w x y z).heap.size = w.heap.size + 3 := by simp [boxed]
theorem boxed_below (w : World) (x y z : Value) : Below w.heap.size w (boxed w x y z) := (((Below.refl _ w).alloc (Nat.le_refl _) _).alloc (by simp) _).alloc (by simp; omega) _
theorem boxed_x (w : World) (x y z : Value) : Var w.heap.size x (boxed w x y z) := ((Var.new w x _).below (alloc_below _ _) (by simp)).below (alloc_below _ _) (by simp; omega)
theorem boxed_y (w : World) (x y z : Value) : Var (w.heap.size + 1) y (boxed w x y z) := by
  have := (Var.new (w.alloc (.cells #[x] 22)) y 38).below (alloc_below _ (.cells #[z] 22)) (by simp)
  unfold boxed
  simpa using this
theorem boxed_z (w : World) (x y z : Value) : Var (w.heap.size + 1 + 1) z (boxed w x y z) := by
  have := Var.new ((w.alloc (.cells #[x] 22)).alloc (.cells #[y] 38)) z 22
  unfold boxed
  simpa using this

set_option maxHeartbeats 1000000 in
theorem fails_great (aB aI : Option Addr) (n m cB cI : Nat) (e : Int) (h : 100 < n ∨ 100 < m) (w : World) :
    Calls Try.prog 4 #[.slice aB n cB, .int .i16 e, .slice aI m cI] w fun x w' => x = .returned (.bool true) ∧ Below w.heap.size w w' := by
  have b := boxed_below w (.slice aB n cB) (.int .i16 e) (.slice aI m cI)
  have hs := b.size
  by_cases h1 : 100 < n
  · have g : (100 : Int) < (n : Int) := by omega
    clear h h1
    go_enter Try.func4, Try.ntmps4
    go_wp2_with fail
    refine (fixed_any _).mono ?_
    rintro x w1 ⟨rfl, hb⟩
    go_wp2_with fail
    go_ret
    exact ⟨rfl, b.trans (hb.mono hs)⟩
  · have g : ¬ (100 : Int) < (n : Int) := by omega
    have g2 : (100 : Int) < (m : Int) := by omega
    clear h h1
    go_enter Try.func4, Try.ntmps4
    go_wp2_with fail
    refine (fixed_any _).mono ?_
    rintro x w1 ⟨rfl, hb⟩
    go_wp2_with fail
    go_ret
    exact ⟨rfl, b.trans (hb.mono hs)⟩

set_option maxHeartbeats 2000000 in
theorem fails_any (aB aI : Option Addr) (cB cI : Nat) (e : Int) (he : -32768 ≤ e ∧ e ≤ 32767) (l li : List UInt8) (hl : l.length ≤ 100) (hli : li.length ≤ 100) (hB0 : aB = none → cB = 0) (hI0 : aI = none → cI = 0) (w : World) (hB : HoldsE KB w aB l) (hI : HoldsE KB w aI li) :
    Calls Try.prog 4 #[.slice aB l.length cB, .int .i16 e, .slice aI li.length cI] w fun x w' => x = .returned (.bool true) ∧ Below w.heap.size w w' := by
  have hmf : ∀ (fn : Fn) (first cap : Array Value) (w : World), (Instr.makeFunc fn first cap).run Try.prog w = .ok (.func fn first cap) w := fun _ _ _ _ => rfl
  have b0 := boxed_below w (.slice aB l.length cB) (.int .i16 e) (.slice aI li.length cI)
  have s0 := boxed_size w (.slice aB l.length cB) (.int .i16 e) (.slice aI li.length cI)
  have x0 := boxed_x w (.slice aB l.length cB) (.int .i16 e) (.slice aI li.length cI)
  have y0 := boxed_y w (.slice aB l.length cB) (.int .i16 e) (.slice aI li.length cI)
  have z0 := boxed_z w (.slice aB l.length cB) (.int .i16 e) (.slice aI li.length cI)
  have g : ¬ (100 : Int) < (l.length : Int) := by omega
  have g2 : ¬ (100 : Int) < (li.length : Int) := by omega
  generalize hW : boxed w (.slice aB l.length cB) (.int .i16 e) (.slice aI li.length cI) = W0 at b0 s0 x0 y0 z0
  have b1 := alloc_below W0 (.cells #[.int .i64 0] 3)
  have s1 : (W0.alloc (.cells #[.int .i64 0] 3)).heap.size = W0.heap.size + 1 := by simp
  have k1 := Var.new W0 (.int .i64 0) 3
  have x1 := x0.below b1 (by omega)
  have y1 := y0.below b1 (by omega)
  have z1 := z0.below b1 (by omega)
  have b01 := b0.trans (b1.mono (by omega))
  generalize hW1 : W0.alloc (.cells #[.int .i64 0] 3) = W1 at b1 s1 k1 x1 y1 z1 b01
  have b2 := alloc_below W1 (.cells #[.int .i64 0] 27)
  have s2 : (W1.alloc (.cells #[.int .i64 0] 27)).heap.size = W1.heap.size + 1 := by simp
  have o2 := Var.new W1 (.int .i64 0) 27
  have x2 := x1.below b2 (by omega)
  have y2 := y1.below b2 (by omega)
  have z2 := z1.below b2 (by omega)
  have k2 := k1.below b2 (by omega)
  have b02 := b01.trans (b2.mono (by omega))
  generalize hW2 : W1.alloc (.cells #[.int .i64 0] 27) = W2 at b2 s2 o2 x2 y2 z2 k2 b02
  have hB2 := hB.below b02
  have hI2 := hI.below b02
  have t1 := try_any 13 #[.pointer (some ⟨w.heap.size + 1 + 1, 0, none⟩), .pointer (some ⟨W0.heap.size, 0, none⟩), .pointer (some ⟨W1.heap.size, 0, none⟩), .pointer (some ⟨w.heap.size, 0, none⟩), .pointer (some ⟨w.heap.size + 1, 0, none⟩)] aB _ cB l rfl (by omega) hB0 W2 hB2 (fun x w => enters13 x _ w) _
    (outer_any _ _ _ _ _ aI cI hI0 li l hli hl aB cB e he _ (by omega) (by omega) W2 z2 x2 y2 o2 hI2)
  rw [show W1.heap.size = w.heap.size + 1 + 1 + 1 + 1 by omega, show W0.heap.size = w.heap.size + 1 + 1 + 1 by omega] at t1
  rw [show W0.heap.size = w.heap.size + 1 + 1 + 1 by omega] at k2
  have sz : W2.heap.size = w.heap.size + 5 := by omega
  have lx := x2
  clear b0 x0 y0 z0 b1 s1 k1 x1 y1 z1 b01 b2 s2 o2 hB hI hB2 hI2 s0
  subst hW2 hW1 hW
  go_enter Try.func4, Try.ntmps4
  go_wp2_with fail
  change Calls Try.prog 8 _ (((boxed w (.slice aB l.length cB) (.int .i16 e) (.slice aI li.length cI)).alloc (.cells #[.int .i64 0] 3)).alloc (.cells #[.int .i64 0] 27)) _
  refine t1.mono ?_
  clear t1
  generalize ((boxed w (.slice aB l.length cB) (.int .i16 e) (.slice aI li.length cI)).alloc (.cells #[.int .i64 0] 3)).alloc (.cells #[.int .i64 0] 27) = W at *
  rintro x w4 ⟨l', e', w3, rfl, ⟨rfl, o3, f3⟩, hb⟩
  rw [show endE l' (failE e) = failE e by unfold endE failE; split <;> (try split) <;> simp_all]
  have f4 := f3.but hb (.inr (Nat.le_refl _))
  have y4 := y2.buts f4 (by omega)
  have z4 := z2.buts f4 (by omega)
  have k4 := k2.buts f4 (by omega)
  have o4 := o3.but hb (by omega)
  have b4 := f4.onto b02 (by omega) (by rintro k rfl; omega)
  have wr : wrap64 e = e := by unfold wrap64; omega
  have cy := y4.c
  have cz := z4.c
  have s4 := f4.size
  clear f3 hb f4 x2 y2 z2 k2 o3 lx b02
  have HF : Hid (failE e = if e = 0 then 3 else e) := rfl
  have HI : Hid (innerE li = if li.length = 0 then 2 else 5) := rfl
  generalize failE e = fe at *
  generalize innerE li = ie at *
  by_cases h0 : e = 0 <;> by_cases h1 : li.length = 0
  · obtain rfl : fe = 3 := HF.out.trans (if_pos h0)
    obtain rfl : ie = 2 := HI.out.trans (if_pos h1)
    have q1 : (e == 0) = true := by simpa using h0
    have q2 : (li.length == 0) = true := by simpa using h1
    have q3 : ((li.length : Int) == 0) = true := by simp [h1]
    clear h0 h1 HF HI
    go_wp2_with fail
    refine (fixed_any w4).mono ?_
    rintro x w5 ⟨rfl, b5⟩
    have ck := (k4.below b5 k4.lt).c
    have co := (o4.below b5 o4.lt).c
    have HB := Lib.hid (b4.trans (b5.mono (by omega)))
    clear k4 o4 b5 cy cz y4 z4 b4
    go_wp2_with fail
    go_ret
    exact ⟨rfl, HB.out⟩
  · obtain rfl : fe = 3 := HF.out.trans (if_pos h0)
    obtain rfl : ie = 5 := HI.out.trans (if_neg h1)
    have q1 : (e == 0) = true := by simpa using h0
    have q2 : (li.length == 0) = false := by simpa using h1
    have q3 : ((li.length : Int) == 0) = false := by rw [beq_eq_false_iff_ne]; omega
    clear h0 h1 HF HI
    go_wp2_with fail
    refine (fixed_any w4).mono ?_
    rintro x w5 ⟨rfl, b5⟩
    have ck := (k4.below b5 k4.lt).c
    have co := (o4.below b5 o4.lt).c
    have HB := Lib.hid (b4.trans (b5.mono (by omega)))
    clear k4 o4 b5 cy cz y4 z4 b4
    go_wp2_with fail
    go_ret
    exact ⟨rfl, HB.out⟩
  · obtain rfl : fe = e := HF.out.trans (if_neg h0)
    obtain rfl : ie = 2 := HI.out.trans (if_pos h1)
    have q1 : (fe == 0) = false := by simpa using h0
    have q2 : (li.length == 0) = true := by simpa using h1
    have q3 : ((li.length : Int) == 0) = true := by simp [h1]
    clear h0 h1 HF HI
    go_wp2_with fail
    refine (fixed_any w4).mono ?_
    rintro x w5 ⟨rfl, b5⟩
    have ck := (k4.below b5 k4.lt).c
    have co := (o4.below b5 o4.lt).c
    have HB := Lib.hid (b4.trans (b5.mono (by omega)))
    clear k4 o4 b5 cy cz y4 z4 b4
    go_wp2_with fail
    go_ret
    exact ⟨rfl, HB.out⟩
  · obtain rfl : fe = e := HF.out.trans (if_neg h0)
    obtain rfl : ie = 5 := HI.out.trans (if_neg h1)
    have q1 : (fe == 0) = false := by simpa using h0
    have q2 : (li.length == 0) = false := by simpa using h1
    have q3 : ((li.length : Int) == 0) = false := by rw [beq_eq_false_iff_ne]; omega
    clear h0 h1 HF HI
    go_wp2_with fail
    refine (fixed_any w4).mono ?_
    rintro x w5 ⟨rfl, b5⟩
    have ck := (k4.below b5 k4.lt).c
    have co := (o4.below b5 o4.lt).c
    have HB := Lib.hid (b4.trans (b5.mono (by omega)))
    clear k4 o4 b5 cy cz y4 z4 b4
    go_wp2_with fail
    go_ret
    exact ⟨rfl, HB.out⟩
end Go.Proofs.Ytmdbncalcbdigaa
