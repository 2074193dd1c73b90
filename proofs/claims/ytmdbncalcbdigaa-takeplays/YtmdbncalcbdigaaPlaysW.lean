/-
  TakePlays' walk: whatever is taken of any bytes, in whatever parts, is the document's. Condition: the parts are numbers of 8 bits with a sign.
-/
import Derived.Test.YtmdbncalcbdigaaPlaysF
import Derived.Test.YtmdbncalcbdigaaRefGet
namespace Go.Proofs.Ytmdbncalcbdigaa
open Go.RowKit

theorem enters9 (x : Value) (cap : Array Value) (w : World) : (callFunc 9 (#[x] ++ cap)).run Try.prog w = .ok (.enter 9 (#[x] ++ cap)) w := by
  simp [go_sem]
theorem alloc_under (w : World) (o : Obj) : Below w.heap.size w (w.alloc o) := (Below.refl _ w).alloc (Nat.le_refl _) o

set_option maxHeartbeats 1000000 in
theorem plays_great (aB aP : Option Addr) (n m cB cP : Nat) (h : 300 < n ∨ 60 < m) (w : World) :
    Calls Try.prog 3 #[.slice aB n cB, .slice aP m cP] w fun x w' => x = .returned (.bool true) ∧ Below w.heap.size w w' := by
  have b := alloc_under w (.cells #[.slice aP m cP] 23)
  have hs := b.size
  by_cases h1 : 300 < n
  · have g : (300 : Int) < (n : Int) := by omega
    clear h h1
    go_enter Try.func3, Try.ntmps3
    go_wp2_with fail
    refine (fixed_any _).mono ?_
    rintro x w1 ⟨rfl, hb⟩
    go_wp2_with fail
    go_ret
    exact ⟨rfl, b.trans (hb.mono hs)⟩
  · have g : ¬ (300 : Int) < (n : Int) := by omega
    have g2 : (60 : Int) < (m : Int) := by omega
    clear h h1
    go_enter Try.func3, Try.ntmps3
    go_wp2_with fail
    refine (fixed_any _).mono ?_
    rintro x w1 ⟨rfl, hb⟩
    go_wp2_with fail
    go_ret
    exact ⟨rfl, b.trans (hb.mono hs)⟩

/-- The law's three variables, as they are laid. -/
def laid3 (w : World) (x : Value) : World := ((w.alloc (.cells #[x] 23)).alloc (.cells #[.slice none 0 0] 25)).alloc (.cells #[.slice none 0 0] 26)
theorem laid3_size (w : World) (x : Value) : (laid3 w x).heap.size = w.heap.size + 3 := by simp [laid3]
theorem laid3_below (w : World) (x : Value) : Below w.heap.size w (laid3 w x) := (((Below.refl _ w).alloc (Nat.le_refl _) _).alloc (by simp) _).alloc (by simp; omega) _
theorem laid3_p (w : World) (x : Value) : Var w.heap.size x (laid3 w x) := ((Var.new w x _).below (alloc_under _ _) (by simp)).below (alloc_under _ _) (by simp; omega)
theorem laid3_g (w : World) (x : Value) : Var (w.heap.size + 1) (.slice none 0 0) (laid3 w x) := by
  have := (Var.new (w.alloc (.cells #[x] 23)) (.slice none 0 0) 25).below (alloc_under _ (.cells #[.slice none 0 0] 26)) (by simp)
  unfold laid3
  simpa using this
theorem laid3_l (w : World) (x : Value) : Var (w.heap.size + 1 + 1) (.slice none 0 0) (laid3 w x) := by
  have := Var.new ((w.alloc (.cells #[x] 23)).alloc (.cells #[.slice none 0 0] 25)) (.slice none 0 0) 26
  unfold laid3
  simpa using this

theorem gotL_at (l : List UInt8) (ps : List Int) (j i : Nat) (h : i < j) : (gotL l ps j).getD i 0 = ((num ((l.drop (sumc ps i)).take (cnt (ps.getD i 0))) : Nat) : Int) := by
  simp [gotL, List.getD_eq_getElem?_getD, h]
theorem leftL_at (l : List UInt8) (ps : List Int) (j i : Nat) (h : i < j) : (leftL l ps j).getD i 0 = ((l.length - sumc ps (i + 1) : Nat) : Int) := by
  simp [leftL, List.getD_eq_getElem?_getD, h]

set_option maxHeartbeats 4000000 in
theorem plays_any (aB aP : Option Addr) (cB cP : Nat) (l : List UInt8) (ps : List Int) (hl : l.length ≤ 300) (hps : ps.length ≤ 60) (hpb : ∀ z ∈ ps, -128 ≤ z ∧ z < 128) (hB0 : aB = none → cB = 0) (w : World) (hB : HoldsE KB w aB l) (hP : HoldsE K8 w aP ps) :
    Calls Try.prog 3 #[.slice aB l.length cB, .slice aP ps.length cP] w fun x w' => x = .returned (.bool true) ∧ Below w.heap.size w w' := by
  have hmf : ∀ (fn : Fn) (first cap : Array Value) (w : World), (Instr.makeFunc fn first cap).run Try.prog w = .ok (.func fn first cap) w := fun _ _ _ _ => rfl
  have b0 := laid3_below w (.slice aP ps.length cP)
  have s0 := laid3_size w (.slice aP ps.length cP)
  have p0 := laid3_p w (.slice aP ps.length cP)
  have g0 := laid3_g w (.slice aP ps.length cP)
  have l0 := laid3_l w (.slice aP ps.length cP)
  have g : ¬ (300 : Int) < (l.length : Int) := by omega
  have g2 : ¬ (60 : Int) < (ps.length : Int) := by omega
  have t1 := try_any 9 #[.pointer (some ⟨w.heap.size, 0, none⟩), .pointer (some ⟨w.heap.size + 1, 0, none⟩), .pointer (some ⟨w.heap.size + 1 + 1, 0, none⟩)] aB _ cB l rfl (by omega) hB0 _ (hB.below b0) (fun x w => enters9 x _ w) _
    (playsF_any _ _ _ aP cP ps hps hpb l hl w _ b0 p0 g0 l0 hP (by omega) (by omega) (by omega) (by omega) (by omega))
  go_enter Try.func3, Try.ntmps3
  go_wp2_with fail
  change Calls Try.prog 8 _ (laid3 w (.slice aP ps.length cP)) _
  refine t1.mono ?_
  clear t1 g0 l0
  generalize laid3 w (.slice aP ps.length cP) = W at *
  rintro x w4 ⟨l', e', w3, rfl, ⟨j, vg, vl, B, hBB, st, rfl, rfl, pl, f3⟩, hb⟩
  have f4 := f3.but hb (.inr (Nat.le_refl _))
  have pl4 := pl.but hb hBB (by omega) (by omega)
  have b4 := f4.onto b0 (by omega) (by rintro k (rfl | rfl) <;> omega)
  have cp4 := (p0.buts f4 (by omega)).c
  have hP4 := hP.below b4
  have hB4 := hB.below b4
  have s4 := f4.size
  clear pl f3 hb f4 p0 b0 hP hB
  obtain ⟨j1, j2, j3⟩ := st
  generalize hE : endE (l.drop (sumc ps j)) (if j < ps.length then 2 else 0) = E
  have og := pl4.og.holds
  have ol := pl4.ol.holds
  obtain ⟨ag, cg, rfl, -, -, -, hg⟩ := og
  obtain ⟨al, cl, rfl, -, -, -, hl'⟩ := ol
  have vg := pl4.cg.c
  have vl := pl4.cl.c
  rw [gotL_len] at vg
  rw [leftL_len] at vl
  have HPL := Lib.hid pl4
  clear pl4
  go_wp2_with fail
  go_loopw [8, 9, 10, 30] (fun v8 v9 v10 v30 wr => ∃ i n : Nat, i ≤ j ∧ v8 = .int .i64 (sumc ps i : Int) ∧ v9 = .int .i64 (i : Int) ∧ v10 = .int .i64 0 ∧ v30 = .int .i64 (i : Int) ∧ wr = w4.drewN n) (fun _ _ _ v30 _ => ps.length - (intOf v30).toNat)
  case atStart => exact ⟨0, 0, by omega, rfl, rfl, rfl, rfl, rfl⟩
  case round =>
    obtain ⟨i, n, hij, rfl, rfl, rfl, rfl, rfl⟩ := hrel
    have vgn : (w4.drewN n).cell? _ = _ := vg
    have vln : (w4.drewN n).cell? _ = _ := vl
    have hst := run_str (w4.drewN n) aB _ cB l rfl hB4
    by_cases hlt : i < ps.length
    · have i1 : (i : Int) < (ps.length : Int) := by omega
      obtain ⟨gp, op, rfl, hcp⟩ : ∃ g off, aP = some ⟨g, off, none⟩ ∧ ∀ j, j < ps.length → (w4.drewN n).cell? ⟨g, off + j, none⟩ = some (K8.enc (ps.getD j K8.z)) := by
        rcases hP4 with rfl | ⟨g, off, h1, h2, h3⟩
        · cases hlt
        · exact ⟨g, off, h1, h3⟩
      obtain ⟨p, hp⟩ : ∃ p, ps.getD i 0 = p := ⟨_, rfl⟩
      have cj : (w4.drewN n).cell? ⟨gp, op + i, none⟩ = some (.int .i8 p) := by rw [← hp]; exact hcp i hlt
      have hpw : IntKind.i64.wrap p = p := by
        have := hpb p (by rw [← hp]; simp [List.getD_eq_getElem?_getD, hlt])
        rw [IntKind.wrap_i64]; omega
      have hsum := sumc_succ ps i hlt
      rw [hp] at hsum
      by_cases hj : i < j
      · have hmono := sumc_mono ps (i + 1) j (by omega) j1
        have hget := refGet_some l (sumc ps i) p (by omega) (by omega) (w4.drewN n)
        have hga := gotL_at l ps j i hj
        have hla := leftL_at l ps j i hj
        rw [hp] at hga
        obtain ⟨g1, o1, rfl, hc1⟩ : ∃ g off, ag = some ⟨g, off, none⟩ ∧ (w4.drewN n).cell? ⟨g, off + i, none⟩ = some (.int .u64 ((num ((l.drop (sumc ps i)).take (cnt p)) : Nat) : Int)) := by
          rcases hg with h | ⟨g, off, h1, h2, h3⟩
          · have := congrArg List.length h; rw [gotL_len] at this; simp at this; omega
          · exact ⟨g, off, h1, by rw [← hga]; exact h3 i (by rw [gotL_len]; exact hj)⟩
        obtain ⟨g2, o2, rfl, hc2⟩ : ∃ g off, al = some ⟨g, off, none⟩ ∧ (w4.drewN n).cell? ⟨g, off + i, none⟩ = some (.int .i64 ((l.length - sumc ps (i + 1) : Nat) : Int)) := by
          rcases hl' with h | ⟨g, off, h1, h2, h3⟩
          · have := congrArg List.length h; rw [leftL_len] at this; simp at this; omega
          · exact ⟨g, off, h1, by rw [← hla]; exact h3 i (by rw [leftL_len]; exact hj)⟩
        have HS := Lib.hid hsum
        rw [← hsum] at hget
        generalize ((num ((l.drop (sumc ps i)).take (cnt p)) : Nat) : Int) = y at *
        have e2 : ((l.length - sumc ps (i + 1) : Nat) : Int) = (l.length : Int) - (sumc ps (i + 1) : Int) := by omega
        rw [e2] at hc2
        have u1 : sumc ps (i + 1) ≤ l.length := by omega
        have HPS := Lib.hid hpb
        clear hga hla hcp hp hsum hmono e2 hE j2 j3 hP4 hB4 hg hl' HPL cp4 vg vl hpb
        go_wp2_with fail
        refine hget.mono ?_
        rintro e w5 ⟨rfl, rfl⟩
        clear hget hst
        go_wp2_with fail
        go_roundw
        case rel => exact ⟨i + 1, n, by omega, rfl, by go_num, rfl, by go_num, rfl⟩
        case measure => simp [intOf]; omega
      · obtain rfl : i = j := by omega
        have hno := j3 hlt
        have hget := refGet_none l (sumc ps i) p j2 (by omega) (by omega) (w4.drewN n)
        obtain rfl : E = 2 := by rw [← hE, if_pos hlt]; rfl
        clear hno j3 hE hsum hcp hp hpb hg hl' hP4 hB4 cp4
        go_wp2_with fail
        refine hget.mono ?_
        rintro e w5 ⟨rfl, rfl⟩
        clear hget hst cj
        go_wp2_with fail
        refine (fixed_any _).mono ?_
        rintro x w6 ⟨rfl, b6⟩
        have vg6 : w6.cell? _ = _ := (b6.cell HPL.out.cg.lt).trans vg
        have vl6 : w6.cell? _ = _ := (b6.cell HPL.out.cl.lt).trans vl
        have HB := Lib.hid (Below.trans (show Below w.heap.size w (w4.drewN n) from ⟨b4.os, b4.tape, b4.output, b4.size, b4.block⟩) (b6.mono b4.size))
        clear b6 vgn vln vg vl HPL b4
        go_wp2_with fail
        go_ret
        exact ⟨rfl, HB.out⟩
    · obtain rfl : i = ps.length := by omega
      obtain rfl : ps.length = j := by omega
      have i1 : ¬ (ps.length : Int) < (ps.length : Int) := by omega
      have hE2 : endE (l.drop (sumc ps ps.length)) 0 = E := by rw [← hE, if_neg (by omega)]
      clear hE j3 hpb hg hl' hP4 hB4 cp4 hst hlt
      by_cases hz : sumc ps ps.length < l.length
      · have h1 : (sumc ps ps.length : Int) < (l.length : Int) := by omega
        obtain rfl : E = 3 := by rw [← hE2]; unfold endE; rw [if_pos rfl, if_neg (by rw [List.length_drop]; omega)]
        clear hE2 hz
        go_wp2_with fail
        refine (fixed_any _).mono ?_
        rintro x w6 ⟨rfl, b6⟩
        have vg6 : w6.cell? _ = _ := (b6.cell HPL.out.cg.lt).trans vg
        have vl6 : w6.cell? _ = _ := (b6.cell HPL.out.cl.lt).trans vl
        have HB := Lib.hid (Below.trans (show Below w.heap.size w (w4.drewN n) from ⟨b4.os, b4.tape, b4.output, b4.size, b4.block⟩) (b6.mono b4.size))
        clear b6 vgn vln vg vl HPL b4
        go_wp2_with fail
        go_ret
        exact ⟨rfl, HB.out⟩
      · have h1 : ¬ (sumc ps ps.length : Int) < (l.length : Int) := by omega
        obtain rfl : E = 0 := by rw [← hE2]; unfold endE; rw [if_pos rfl, if_pos (by rw [List.length_drop]; omega)]
        clear hE2 hz
        go_wp2_with fail
        refine (fixed_any _).mono ?_
        rintro x w6 ⟨rfl, b6⟩
        have vg6 : w6.cell? _ = _ := (b6.cell HPL.out.cg.lt).trans vg
        have vl6 : w6.cell? _ = _ := (b6.cell HPL.out.cl.lt).trans vl
        have HB := Lib.hid (Below.trans (show Below w.heap.size w (w4.drewN n) from ⟨b4.os, b4.tape, b4.output, b4.size, b4.block⟩) (b6.mono b4.size))
        clear b6 vgn vln vg vl HPL b4
        go_wp2_with fail
        go_ret
        exact ⟨rfl, HB.out⟩
end Go.Proofs.Ytmdbncalcbdigaa
