/-
  TakeBack's walk: numbers, whole numbers and values that are put are taken as they were. Condition: the numbers have 64 bits.
-/
import Derived.Test.YtmdbncalcbdigaaBackF
namespace Go.Proofs.Ytmdbncalcbdigaa
open Go.RowKit

theorem enters22 (x : Value) (cap : Array Value) (w : World) : (callFunc 22 (#[x] ++ cap)).run Try.prog w = .ok (.enter 22 (#[x] ++ cap)) w := by
  simp [go_sem]
theorem alloc_above (w : World) (o : Obj) : Below w.heap.size w (w.alloc o) := (Below.refl _ w).alloc (Nat.le_refl _) o

set_option maxHeartbeats 1000000 in
theorem back_great (aL aK : Option Addr) (n m cL cK : Nat) (h : 50 < n ∨ 50 < m) (w : World) :
    Calls Try.prog 6 #[.slice aL n cL, .slice aK m cK] w fun x w' => x = .returned (.bool true) ∧ Below w.heap.size w w' := by
  have b : Below w.heap.size w ((w.alloc (.cells #[.slice aL n cL] 25)).alloc (.cells #[.slice aK m cK] 22)) := ((Below.refl _ w).alloc (Nat.le_refl _) _).alloc (by simp) _
  have hs := b.size
  by_cases h1 : 50 < n
  · have g : (50 : Int) < (n : Int) := by omega
    clear h h1
    go_enter Try.func6, Try.ntmps6
    go_wp2_with fail
    refine (fixed_any _).mono ?_
    rintro x w1 ⟨rfl, hb⟩
    go_wp2_with fail
    go_ret
    exact ⟨rfl, b.trans (hb.mono hs)⟩
  · have g : ¬ (50 : Int) < (n : Int) := by omega
    have g2 : (50 : Int) < (m : Int) := by omega
    clear h h1
    go_enter Try.func6, Try.ntmps6
    go_wp2_with fail
    refine (fixed_any _).mono ?_
    rintro x w1 ⟨rfl, hb⟩
    go_wp2_with fail
    go_ret
    exact ⟨rfl, b.trans (hb.mono hs)⟩

/-- Numbers that came in, without a sign. -/
theorem holdsN (w : World) (a : Option Addr) (l : List Int) (h : HoldsE KU w a l) (hz : ∀ z ∈ l, 0 ≤ z ∧ z < 18446744073709551616) : HoldsE KN w a (l.map Int.toNat) ∧ ∀ n ∈ l.map Int.toNat, n < 18446744073709551616 := by
  refine ⟨?_, ?_⟩
  · rcases h with rfl | ⟨g, off, h1, h2, h3⟩
    · exact .inl rfl
    · refine .inr ⟨g, off, h1, h2, fun j hj => ?_⟩
      simp only [List.length_map] at hj
      rw [h3 j hj]
      have hm := hz l[j] (List.getElem_mem hj)
      show some (Value.int .u64 (l.getD j 0)) = some (.int .u64 (((l.map Int.toNat).getD j 0 : Nat) : Int))
      simp only [List.getD_eq_getElem?_getD, List.getElem?_map, List.getElem?_eq_getElem hj, Option.getD_some, Option.map_some]
      congr 2
      omega
  · intro n hn
    obtain ⟨z, hz1, rfl⟩ := List.mem_map.1 hn
    have := hz z hz1
    omega

theorem wrap_back (x : Nat) (hx : x < 18446744073709551616) : IntKind.u64.wrap (wrap64 (x : Int)) = (x : Int) := by unfold wrap64; rw [IntKind.wrap_u64]; omega

/-- The law's first three variables, as they are laid. -/
def kindF (w : World) : Value := .func (.func 21) #[] #[.pointer (some ⟨w.heap.size + 1, 0, none⟩)]
def laidB (w : World) (x y : Value) : World := ((w.alloc (.cells #[x] 25)).alloc (.cells #[y] 22)).alloc (.cells #[kindF w] 48)
theorem laidB_size (w : World) (x y : Value) : (laidB w x y).heap.size = w.heap.size + 3 := by simp [laidB]
theorem laidB_below (w : World) (x y : Value) : Below w.heap.size w (laidB w x y) := (((Below.refl _ w).alloc (Nat.le_refl _) _).alloc (by simp) _).alloc (by simp; omega) _
theorem laidB_x (w : World) (x y : Value) : Var w.heap.size x (laidB w x y) := ((Var.new w x _).below (alloc_above _ _) (by simp)).below (alloc_above _ _) (by simp; omega)
theorem laidB_y (w : World) (x y : Value) : Var (w.heap.size + 1) y (laidB w x y) := by
  have := (Var.new (w.alloc (.cells #[x] 25)) y 22).below (alloc_above _ (.cells #[kindF w] 48)) (by simp)
  unfold laidB
  simpa using this
theorem laidB_f (w : World) (x y : Value) : Var (w.heap.size + 1 + 1) (kindF w) (laidB w x y) := by
  have := Var.new ((w.alloc (.cells #[x] 25)).alloc (.cells #[y] 22)) (kindF w) 48
  unfold laidB
  simpa using this

set_option maxHeartbeats 4000000 in
theorem back_any (aL aK : Option Addr) (cL cK : Nat) (ns : List Nat) (ks : List UInt8) (hns : ns.length ≤ 50) (hks : ks.length ≤ 50) (hn : ∀ n ∈ ns, n < 18446744073709551616) (w : World) (hl : HoldsE KN w aL ns) (hk : HoldsE KB w aK ks) :
    Calls Try.prog 6 #[.slice aL ns.length cL, .slice aK ks.length cK] w fun x w' => x = .returned (.bool true) ∧ Below w.heap.size w w' := by
  have hmf : ∀ (fn : Fn) (first cap : Array Value) (w : World), (Instr.makeFunc fn first cap).run Try.prog w = .ok (.func fn first cap) w := fun _ _ _ _ => rfl
  have hsf : ∀ (w : World) (p : Addr) (f : Fn) (x y : Array Value) (m : Mode), (store p (.func f x y) m).run Try.prog w = stored Try.prog w p (.func f x y) m := fun w p f x y m => run_store Try.prog w p _ m rfl
  have b0 := laidB_below w (.slice aL ns.length cL) (.slice aK ks.length cK)
  have s0 := laidB_size w (.slice aL ns.length cL) (.slice aK ks.length cK)
  have x0 := laidB_x w (.slice aL ns.length cL) (.slice aK ks.length cK)
  have y0 := laidB_y w (.slice aL ns.length cL) (.slice aK ks.length cK)
  have f0 := laidB_f w (.slice aL ns.length cL) (.slice aK ks.length cK)
  have g : ¬ (50 : Int) < (ns.length : Int) := by omega
  have g2 : ¬ (50 : Int) < (ks.length : Int) := by omega
  go_enter Try.func6, Try.ntmps6
  go_wp2_with fail
  obtain ⟨W, hW⟩ : ∃ W, laidB w (.slice aL ns.length cL) (.slice aK ks.length cK) = W := ⟨_, rfl⟩
  change Code.wp Try.prog _ _ _ (laidB w (.slice aL ns.length cL) (.slice aK ks.length cK))
  rw [hW] at b0 s0 x0 y0 f0 ⊢
  clear hW
  go_loopw [6, 25] (fun v6 v25 wr => ∃ (i : Nat) (aB : Option Addr) (cB : Nat), i ≤ ns.length ∧ v25 = .int .i64 (i : Int) ∧ v6 = .slice aB (pre ns ks i).length cB ∧ (aB = none → cB = 0) ∧ HoldsE KB wr aB (pre ns ks i) ∧ Below W.heap.size W wr) (fun _ v25 _ => ns.length - (intOf v25).toNat)
  case atStart => exact ⟨0, none, 0, by omega, rfl, rfl, fun _ => rfl, .inl rfl, Below.refl _ _⟩
  case round =>
    obtain ⟨i, aB, cB, hin, rfl, rfl, hz, hh, bel⟩ := hrel
    have bw := b0.trans (bel.mono (by omega))
    have hfr := f0.below bel f0.lt
    have hkr := y0.below bel y0.lt
    have hlr := x0.below bel x0.lt
    by_cases hlt : i < ns.length
    · have i1 : (i : Int) < (ns.length : Int) := by omega
      obtain ⟨g, off, rfl, hc⟩ : ∃ g off, aL = some ⟨g, off, none⟩ ∧ wr.cell? ⟨g, off + i, none⟩ = some (.int .u64 ((ns.getD i 0 : Nat) : Int)) := by
        rcases hl with rfl | ⟨g, off, h1, h2, h3⟩
        · cases hlt
        · exact ⟨g, off, h1, (bw.cell (by exact h2)).trans (h3 i hlt)⟩
      have hkind := kind_any (w.heap.size + 1) aK cK ks i hks wr hkr.c (hk.below bw)
      have cF := hfr.c
      unfold kindF at cF
      have hnx := hn (ns.getD i 0) (by simp [List.getD_eq_getElem?_getD, hlt])
      have hch : chunk ns ks i = bts (ns.getD i 0) (wd (kindN ks i)) := rfl
      have hkl := kindN_lt ks i
      have hpl := pre_len ns ks i
      have HP : Hid (pre ns ks (i + 1) = pre ns ks i ++ chunk ns ks i) := rfl
      generalize ns.getD i 0 = x at *
      generalize kindN ks i = k at *
      generalize hmo : pre ns ks (i + 1) = more at *
      have HM := Lib.hid hmo
      clear hmo
      generalize pre ns ks i = l at *
      generalize chunk ns ks i = c at *
      have HB := Lib.hid bel
      clear bel bw hfr hkr hlr
      go_wp2_with fail
      refine hkind.mono ?_
      rintro e w2 ⟨rfl, rfl⟩
      clear hkind
      by_cases h9 : k = 9
      · have q9 : ((k : Int) == 9) = true := by rw [beq_iff_eq]; omega
        have hwd : wd k = 8 := by unfold wd; rw [if_pos h9]
        rw [hwd] at hch
        have hput := putWhole_any aB _ cB l rfl (by omega) hz x (wrap64 (x : Int)) (wrap_back x hnx) w2 hh
        clear hwd cF hc
        go_wp2_with fail
        refine hput.mono ?_
        rintro e w3 ⟨v, rfl, own, b3⟩
        rw [← hch, ← HP.out] at own
        obtain ⟨a3, c3, rfl, z3, -, -, hh3⟩ := own.holds
        have HH := Lib.hid hh3
        have HZ := Lib.hid z3
        have HB3 := Lib.hid (HB.out.trans (b3.mono HB.out.size))
        clear hput own hh3 z3 b3
        go_wp2_with fail
        go_roundw
        case rel => exact ⟨i + 1, a3, c3, by omega, by go_num, by rw [HM.out], HZ.out, by rw [HM.out]; exact HH.out, HB3.out⟩
        case measure => simp [intOf]; omega
      · have q9 : ((k : Int) == 9) = false := by rw [beq_eq_false_iff_ne]; omega
        by_cases h0 : k = 0
        · have q0 : ((k : Int) == 0) = true := by rw [beq_iff_eq]; omega
          have hwd : wd k = 8 := by unfold wd; rw [if_neg h9, if_pos h0]
          rw [hwd] at hch
          have hput := putValue_any aB _ cB l rfl (by omega) hz x w2 hh
          clear hwd cF hc
          go_wp2_with (simp only [fromb])
          refine hput.mono ?_
          rintro e w3 ⟨v, rfl, own, b3⟩
          rw [← hch, ← HP.out] at own
          obtain ⟨a3, c3, rfl, z3, -, -, hh3⟩ := own.holds
          have HH := Lib.hid hh3
          have HZ := Lib.hid z3
          have HB3 := Lib.hid (HB.out.trans (b3.mono HB.out.size))
          clear hput own hh3 z3 b3
          go_wp2_with fail
          go_roundw
          case rel => exact ⟨i + 1, a3, c3, by omega, by go_num, by rw [HM.out], HZ.out, by rw [HM.out]; exact HH.out, HB3.out⟩
          case measure => simp [intOf]; omega
        · have q0 : ((k : Int) == 0) = false := by rw [beq_eq_false_iff_ne]; omega
          have hcn : cnt (k : Int) = k := by unfold cnt; rw [if_neg (by omega), if_neg (by omega)]; omega
          have hwd : wd k = cnt (k : Int) := by unfold wd; rw [if_neg h9, if_neg h0, hcn]
          rw [hwd] at hch
          have hput := put_any (k : Int) aB _ cB l rfl (by omega) hz x w2 hh
          clear hwd cF hc
          go_wp2_with fail
          refine hput.mono ?_
          rintro e w3 ⟨v, rfl, own, b3⟩
          rw [← hch, ← HP.out] at own
          obtain ⟨a3, c3, rfl, z3, -, -, hh3⟩ := own.holds
          have HH := Lib.hid hh3
          have HZ := Lib.hid z3
          have HB3 := Lib.hid (HB.out.trans (b3.mono HB.out.size))
          clear hput own hh3 z3 b3
          go_wp2_with fail
          go_roundw
          case rel => exact ⟨i + 1, a3, c3, by omega, by go_num, by rw [HM.out], HZ.out, by rw [HM.out]; exact HH.out, HB3.out⟩
          case measure => simp [intOf]; omega
    · have i1 : ¬ (i : Int) < (ns.length : Int) := by omega
      obtain rfl : i = ns.length := by omega
      have b5 : Below wr.heap.size wr ((wr.alloc (.cells #[.bool true] 4)).alloc (.cells #[.int .i64 0] 3)) := ((Below.refl _ wr).alloc (Nat.le_refl _) _).alloc (by simp) _
      have s5 : ((wr.alloc (.cells #[.bool true] 4)).alloc (.cells #[.int .i64 0] 3)).heap.size = wr.heap.size + 2 := by simp
      have g5 : Var wr.heap.size (.bool true) ((wr.alloc (.cells #[.bool true] 4)).alloc (.cells #[.int .i64 0] 3)) := (Var.new wr (.bool true) 4).below (alloc_above _ _) (by simp)
      have t5 : Var (wr.heap.size + 1) (.int .i64 0) ((wr.alloc (.cells #[.bool true] 4)).alloc (.cells #[.int .i64 0] 3)) := by
        have := Var.new (wr.alloc (.cells #[.bool true] 4)) (.int .i64 0) 3
        simpa using this
      have lx := hlr.lt
      have lf := hfr.lt
      have lk := hkr.lt
      have hpl := pre_len ns ks ns.length
      have hs := bel.size
      have t1 := try_any 22 #[.pointer (some ⟨w.heap.size, 0, none⟩), .pointer (some ⟨w.heap.size + 1 + 1, 0, none⟩), .pointer (some ⟨wr.heap.size, 0, none⟩), .pointer (some ⟨wr.heap.size + 1, 0, none⟩)] aB _ cB (pre ns ks ns.length) rfl (by omega) hz _ (hh.below b5) (fun x w => enters22 x _ w) _
        (backF_any w.heap.size (w.heap.size + 1 + 1) wr.heap.size (wr.heap.size + 1) (w.heap.size + 1) aL aK cL cK ns ks hns hks hn wr _ b5 (hlr.below b5 lx) (hfr.below b5 lf) g5 t5 (hkr.below b5 lk) (hl.below bw) (hk.below bw)
          (by omega) (by omega) (by omega) (by omega) (by omega) (by omega) (by omega) (by omega) (by omega))
      have hl5 := hlr.below b5 lx
      have bw5 := bw.trans (b5.mono bw.size)
      clear hfr hkr hlr hn hl hk hh g5 t5 b5 bel x0 y0 f0 b0
      go_wp2_with fail
      refine t1.mono ?_
      clear t1
      generalize (wr.alloc (.cells #[.bool true] 4)).alloc (.cells #[.int .i64 0] 3) = W5 at *
      rintro x w7 ⟨l', e', w6, rfl, ⟨rfl, rfl, g6, t6, f6⟩, hb⟩
      rw [show endE [] 0 = 0 from rfl]
      have f7 := f6.but hb (.inr (Nat.le_refl _))
      have g7 := g6.but hb (by omega)
      have t7 := t6.but hb (by omega)
      have l7 := hl5.buts f7 (by omega)
      have b7 := f7.onto bw5 (by omega) (by rintro k (rfl | rfl) <;> omega)
      have ll := l7.lt
      have lg := g7.lt
      have lt := t7.lt
      clear g6 t6 f6 hb f7 hl5 bw5
      go_wp2_with fail
      refine (fixed_any w7).mono ?_
      rintro x w8 ⟨rfl, b8⟩
      have cl := (l7.below b8 ll).c
      have cg := (g7.below b8 lg).c
      have ct := (t7.below b8 lt).c
      have HB := Lib.hid (b7.trans (b8.mono b7.size))
      clear l7 g7 t7 b7 b8
      go_wp2_with fail
      go_ret
      exact ⟨rfl, HB.out⟩
end Go.Proofs.Ytmdbncalcbdigaa
