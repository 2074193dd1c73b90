/-
  CONFIG: Get: a config is taken: too few bytes fail as short, ahead of all; all of them are taken, and then what is wrong with the config is told. Condition: no more than 2^20 bytes.
-/
import Derived.Test.YtbmbgfmhejahjaaFirstW
namespace Go.Proofs.Ytbmbgfmhejahjaa
open Go.RowKit

/-- Where a field's bytes stand. -/
def fO : Nat → Nat | 0 => 0 | 1 => 1 | 2 => 3 | 3 => 5 | 4 => 7 | 5 => 8 | 6 => 12 | _ => 14
theorem fO_step (j : Nat) (h : j < 7) : fO (j + 1) = fO j + cnt (fB j) := by
  match j with
  | 0 => rfl
  | 1 => rfl
  | 2 => rfl
  | 3 => rfl
  | 4 => rfl
  | 5 => rfl
  | 6 => rfl
  | n + 7 => omega
theorem fO_le (j : Nat) : fO j ≤ 14 := by
  match j with
  | 0 => decide
  | 1 => decide
  | 2 => decide
  | 3 => decide
  | 4 => decide
  | 5 => decide
  | 6 => decide
  | n + 7 => exact Nat.le_refl 14
/-- The number of a field's bytes. -/
def gN (l : List UInt8) (j : Nat) : Int := (num ((l.drop (fO j)).take (cnt (fB j))) : Int)
/-- The first so many of them, nothing for the rest. -/
def gP (l : List UInt8) (j t : Nat) : Int := if t < j then gN l t else 0
/-- What is wrong with the config of these bytes. -/
def gE (l : List UInt8) : Int := chk (gN l 0) (gN l 1) (gN l 2) (gN l 3) (gN l 4) (gN l 5) (gN l 6)
theorem gN_lo (l : List UInt8) (j : Nat) : 0 ≤ gN l j := by unfold gN; omega
theorem gN_hi (l : List UInt8) (j : Nat) : gN l j < 4294967296 := by
  unfold gN
  have h1 := num_lt ((l.drop (fO j)).take (cnt (fB j)))
  have h2 : ((l.drop (fO j)).take (cnt (fB j))).length ≤ 4 := by
    refine Nat.le_trans (List.length_take_le _ _) ?_
    match j with
    | 0 => decide
    | 1 => decide
    | 2 => decide
    | 3 => decide
    | 4 => decide
    | 5 => decide
    | n + 6 => exact (by decide : cnt 2 ≤ 4)
  have h3 : 256 ^ ((l.drop (fO j)).take (cnt (fB j))).length ≤ 256 ^ 4 := Nat.pow_le_pow_right (by decide) h2
  have : (256 : Nat) ^ 4 = 4294967296 := by decide
  omega

/-- Seven noughts, as they are laid. -/
def zerW (w : World) (t : TypeId) : World := w.alloc (.cells #[.int .i64 0, .int .i64 0, .int .i64 0, .int .i64 0, .int .i64 0, .int .i64 0, .int .i64 0] t)
theorem zerW_size (w : World) (t : TypeId) : (zerW w t).heap.size = w.heap.size + 1 := by simp [zerW]
theorem zerW_below (w : World) (t : TypeId) : Below w.heap.size w (zerW w t) := (Below.refl w.heap.size w).alloc (Nat.le_refl _) _
theorem zerW_sev (w : World) (t : TypeId) (f : Nat → Int) (hf : ∀ j, f j = 0) : SevW w.heap.size f (zerW w t) := by
  have h := SevW.new 0 0 0 0 0 0 0 w t
  have e : nf 0 0 0 0 0 0 0 = f := by
    funext j
    rw [hf j]
    match j with
    | 0 => rfl
    | 1 => rfl
    | 2 => rfl
    | 3 => rfl
    | 4 => rfl
    | 5 => rfl
    | n + 6 => rfl
  rw [← e]
  exact h

theorem gP_step (l : List UInt8) (j t : Nat) : gP l (j + 1) t = if t = j then gN l j else gP l j t := by
  unfold gP
  by_cases e : t = j
  · subst e
    rw [if_pos (by omega), if_pos rfl]
  · rw [if_neg e]
    by_cases e2 : t < j
    · rw [if_pos e2, if_pos (by omega)]
    · rw [if_neg e2, if_neg (by omega)]
theorem SevW.but {N b : Nat} {f : Nat → Int} {w w' : World} (h : SevW N f w) (hb : But b w w') (hn : N ≠ b) : SevW N f w' :=
  ⟨Nat.lt_of_lt_of_le h.1 hb.size, fun j hj => (hb.cell h.1 hn).trans (h.2.1 j hj), fun j hj => (hb.frozen h.1 hn).trans (h.2.2 j hj)⟩
/-- A store into what is new. -/
theorem But.onto {b c : Nat} {w w1 w2 : World} (h : But b w w1) (k : But c w1 w2) (hc : w.heap.size ≤ c) : But b w w2 :=
  ⟨k.os.trans h.os, k.tape.trans h.tape, k.output.trans h.output, Nat.le_trans h.size k.size, fun i hi hn => (k.block i (Nat.lt_of_lt_of_le hi h.size) (by omega)).trans (h.block i hi hn)⟩

/-- Seven numbers, stored one behind the other. -/
def setW (w : World) (X : Nat) (k c b t d l p : Int) : World := ((((((w.setCell ⟨X, 0, none⟩ (.int .i64 k)).setCell ⟨X, 1, none⟩ (.int .i64 c)).setCell ⟨X, 2, none⟩ (.int .i64 b)).setCell ⟨X, 3, none⟩ (.int .i64 t)).setCell ⟨X, 4, none⟩ (.int .i64 d)).setCell ⟨X, 5, none⟩ (.int .i64 l)).setCell ⟨X, 6, none⟩ (.int .i64 p)
theorem setW_facts {w : World} {X : Nat} {f : Nat → Int} (k c b t d l p : Int) (h : SevW X f w) : Seven X (nf k c b t d l p) (setW w X k c b t d l p) ∧ But X w (setW w X k c b t d l p) := by
  have h1 := h.set 0 (by omega) k (fun _ => rfl)
  have h2 := h1.set 1 (by omega) c (fun _ => rfl)
  have h3 := h2.set 2 (by omega) b (fun _ => rfl)
  have h4 := h3.set 3 (by omega) t (fun _ => rfl)
  have h5 := h4.set 4 (by omega) d (fun _ => rfl)
  have h6 := h5.set 5 (by omega) l (fun _ => rfl)
  have h7 := h6.set 6 (by omega) p (fun _ => rfl)
  refine ⟨⟨h7.1, fun j hj => (h7.2.1 j hj).trans ?_⟩, (((((((But.setCell X 0 w _).trans (But.setCell X 1 _ _)).trans (But.setCell X 2 _ _)).trans (But.setCell X 3 _ _)).trans (But.setCell X 4 _ _)).trans (But.setCell X 5 _ _)).trans (But.setCell X 6 _ _))⟩
  match j with
  | 0 => rfl
  | 1 => rfl
  | 2 => rfl
  | 3 => rfl
  | 4 => rfl
  | 5 => rfl
  | 6 => rfl
  | n + 7 => omega

theorem get_short (B C R : Nat) (l : List UInt8) (hl : l.length < 14) (w : World) (h : Rd B C R l 0 w) :
    Calls Try.prog 57 #[.pointer (some ⟨R, 0, none⟩)] w fun x w' => x = .panicked (thrown R) ∧ Rd B C R l 2 w' ∧ But R w w' := by
  have r0 := h.below (zerW_below w 23) h.top
  have h1 := left_any B C R l 0 _ r0
  have h2 := fail_any B C R l 2 _ r0
  have b0 := Lib.hid (But.of_below (b := R) (zerW_below w 23))
  rw [show failE 2 = 2 from rfl] at h2
  clear h r0
  have g : (l.length : Int) < 14 := by omega
  go_enter Try.func57, Try.ntmps57
  go_wp2_with fail
  change Calls Try.prog _ _ (zerW w 23) _
  generalize zerW w 23 = w0 at *
  refine h1.mono ?_
  rintro e w1 ⟨rfl, rfl⟩
  go_wp2_with fail
  refine h2.mono ?_
  rintro e w1 ⟨rfl, hr, hb⟩
  exact ⟨rfl, rfl, hr, b0.out.trans hb⟩

set_option maxHeartbeats 4000000 in
theorem get_any (B C R : Nat) (l : List UInt8) (hl : 14 ≤ l.length) (hm : l.length ≤ 1048576) (w : World) (h : Rd B C R l 0 w) :
    Calls Try.prog 57 #[.pointer (some ⟨R, 0, none⟩)] w fun x w' =>
      ((gE l = 0 ∧ x = .returned (cf (gN l 0) (gN l 1) (gN l 2) (gN l 3) (gN l 4) (gN l 5) (gN l 6))) ∨ (gE l ≠ 0 ∧ x = .panicked (thrown R))) ∧ Rd B C R (l.drop 14) (gE l) w' ∧ But R w w' := by
  have hf := fields_any 0
  have g : ¬ (l.length : Int) < 14 := by omega
  rw [show cLo 0 = 2 from rfl, show cHi 0 = 256 from rfl, show cAb 0 = 4 from rfl] at hf
  have tp := h.top
  have hr := h.hi
  have r0 := h.below (zerW_below w 23) h.top
  have h1 := left_any B C R l 0 _ r0
  have b0 := zerW_below w 23
  have s0 := zerW_sev w 23 (fun _ => 0) (fun _ => rfl)
  have z0 := zerW_size w 23
  clear h
  go_enter Try.func57, Try.ntmps57
  go_wp2_with fail
  change Calls Try.prog _ _ (zerW w 23) _
  generalize zerW w 23 = w0 at *
  obtain ⟨X, hX⟩ : ∃ X, w.heap.size = X := ⟨_, rfl⟩
  have HX := Lib.hid hX
  rw [hX] at tp b0 s0 z0 ⊢
  clear hX
  refine h1.mono ?_
  rintro e w1 ⟨rfl, rfl⟩
  clear h1
  have bz := zerW_below w1 105
  have sz := zerW_sev w1 105 (gP l 0) (fun _ => rfl)
  have zz := zerW_size w1 105
  go_wp2_with fail
  change Calls Try.prog _ _ (zerW w1 105) _
  generalize zerW w1 105 = wz at *
  rw [z0] at sz
  refine (hf _).mono ?_
  rintro e w2 ⟨rfl, b2⟩
  have s2 := b2.size
  replace sz := sz.below b2 (by omega)
  replace s0 := (s0.below bz (by omega)).below b2 (by omega)
  have r2 := (r0.below bz (by omega)).below b2 (by omega)
  have BB := (But.of_below (b := R) (b0.mono (by have := HX.out; omega))).trans ((But.of_below (b := R) bz).trans (But.of_below (b := R) b2))
  have hsz2 : X + 2 ≤ w2.heap.size := by omega
  clear hf r0 b0 bz b2 z0 zz s2
  have hx := index_any 2 256 4
  generalize fieldsV 2 256 4 = FV at *
  go_wp2_with fail
  go_loopw [15] (fun v15 wr => ∃ j : Nat, j ≤ 7 ∧ v15 = .int .i64 (j : Int) ∧ SevW X (fun _ => 0) wr ∧ SevW (X + 1) (gP l j) wr ∧ Rd B C R (l.drop (fO j)) 0 wr ∧ But R w wr) (fun v15 _ => 7 - (intOf v15).toNat)
  case atStart => exact ⟨0, by omega, rfl, s0, sz, r2, BB⟩
  case round =>
    obtain ⟨j, hj, rfl, sx, sn, rd, bu⟩ := hrel
    clear s0 sz r2 BB
    have lx := sn.1
    by_cases hlt : j < 7
    · have i1 : (j : Int) < 7 := by omega
      have hxj := hx j hlt
      have ba := (Below.refl wr.heap.size wr).alloc (Nat.le_refl _) (.cells #[.int .i64 (fB j), .int .i64 (fLo 2 j), .int .i64 (fHi 256 j), .int .i64 (fAb 4 j)] 108)
      have st := fO_step j hlt
      have sl := fO_le (j + 1)
      have n1 := number_some B C R (l.drop (fO j)) (fB j) (by rw [List.length_drop]; omega) _ (rd.below ba rd.top) (by rw [List.length_drop]; omega)
      rw [List.drop_drop, ← st] at n1
      have sx1 := sx.below ba sx.1
      have sn1 := sn.below ba sn.1
      have HBU := Lib.hid (bu.trans (But.of_below ba))
      have gh := gN_hi l j
      have HG : Hid (gN l j = (num ((l.drop (fO j)).take (cnt (fB j))) : Int)) := rfl
      have gp := gP_step l j
      generalize num ((l.drop (fO j)).take (cnt (fB j))) = z at *
      rw [HG.out] at gh gp
      have lt1 : R ≠ X := by omega
      have lt2 : R ≠ X + 1 := by omega
      generalize fB j = fb at *
      generalize fLo 2 j = x at *
      generalize fHi 256 j = y at *
      generalize fAb 4 j = z3 at *
      clear hx sx sn rd bu ba st sl HG
      go_wp2_with fail
      refine n1.mono ?_
      rintro e w5 ⟨rfl, rd5, b5⟩
      have sx5 := sx1.but b5 (Ne.symm lt1)
      have sn5 := sn1.but b5 (Ne.symm lt2)
      have e3 := sn5.2.1 j hlt
      have e4 := sn5.2.2 j hlt
      have bs := But.setCell (X + 1) j w5 (.int .i64 (z : Int))
      have HSN := Lib.hid (sn5.set j hlt (z : Int) gp)
      have HSX := Lib.hid (sx5.but bs (by omega))
      have HRD := Lib.hid (rd5.but bs (.inr (by omega)))
      have HB5 := Lib.hid ((HBU.out.trans b5).onto bs (by have := HX.out; omega))
      clear n1 sx1 sn1 sx5 sn5 rd5 b5 bs HBU gp
      go_wp2_with fail
      go_roundw
      case rel => exact ⟨j + 1, by omega, by go_num, HSX.out, HSN.out, HRD.out, HB5.out⟩
      case measure => simp [intOf]; omega
    · have i1 : ¬ (j : Int) < 7 := by omega
      obtain rfl : j = 7 := by omega
      clear hx
      rw [show fO 7 = 14 from rfl] at rd
      have ho := of_any (gN l 0) (gN l 1) (gN l 2) (gN l 3) (gN l 4) (gN l 5) (gN l 6)
      have hc := check_any (gN l 0) (gN l 1) (gN l 2) (gN l 3) (gN l 4) (gN l 5) (gN l 6)
      have HE : Hid (chk (gN l 0) (gN l 1) (gN l 2) (gN l 3) (gN l 4) (gN l 5) (gN l 6) = gE l) := rfl
      rw [HE.out] at hc
      have e0 : wr.cell? ⟨X + 1, 0, none⟩ = some (.int .i64 (gN l 0)) := sn.2.1 0 (by omega)
      have e1 : wr.cell? ⟨X + 1, 1, none⟩ = some (.int .i64 (gN l 1)) := sn.2.1 1 (by omega)
      have e2 : wr.cell? ⟨X + 1, 2, none⟩ = some (.int .i64 (gN l 2)) := sn.2.1 2 (by omega)
      have e3 : wr.cell? ⟨X + 1, 3, none⟩ = some (.int .i64 (gN l 3)) := sn.2.1 3 (by omega)
      have e4 : wr.cell? ⟨X + 1, 4, none⟩ = some (.int .i64 (gN l 4)) := sn.2.1 4 (by omega)
      have e5 : wr.cell? ⟨X + 1, 5, none⟩ = some (.int .i64 (gN l 5)) := sn.2.1 5 (by omega)
      have e6 : wr.cell? ⟨X + 1, 6, none⟩ = some (.int .i64 (gN l 6)) := sn.2.1 6 (by omega)
      unfold cf at *
      generalize hkk : gN l 0 = k at *
      have N0 := Lib.hid hkk
      clear hkk
      generalize hcc : gN l 1 = c at *
      have N1 := Lib.hid hcc
      clear hcc
      generalize hbb : gN l 2 = b at *
      have N2 := Lib.hid hbb
      clear hbb
      generalize htt : gN l 3 = t at *
      have N3 := Lib.hid htt
      clear htt
      generalize hdd : gN l 4 = d at *
      have N4 := Lib.hid hdd
      clear hdd
      generalize hmm : gN l 5 = m at *
      have N5 := Lib.hid hmm
      clear hmm
      generalize hpp : gN l 6 = p at *
      have N6 := Lib.hid hpp
      clear hpp
      clear HE sn
      go_wp2_with fail
      refine (ho _).mono ?_
      rintro e w3 ⟨rfl, b3⟩
      have sx3 := sx.below b3 sx.1
      have rd3 := rd.below b3 rd.top
      have bu3 := bu.trans (But.of_below b3)
      have b4 := (Below.refl w3.heap.size w3).alloc (Nat.le_refl _) (.cells #[.int .i64 k, .int .i64 c, .int .i64 b, .int .i64 t, .int .i64 d, .int .i64 m, .int .i64 p] 23)
      have s4 := Seven.new k c b t d m p w3 23
      have sx4 := sx3.below b4 sx3.1
      have rd4 := rd3.below b4 rd3.top
      have bu4 := bu3.trans (But.of_below b4)
      clear sx sx3 rd rd3 bu bu3 b3 b4 e0 e1 e2 e3 e4 e5 e6 ho
      go_wp2_with fail
      generalize w3.alloc (.cells #[.int .i64 k, .int .i64 c, .int .i64 b, .int .i64 t, .int .i64 d, .int .i64 m, .int .i64 p] 23) = w4 at *
      obtain ⟨Y, hY⟩ : ∃ Y, w3.heap.size = Y := ⟨_, rfl⟩
      rw [hY] at s4 ⊢
      clear hY
      refine (hc _).mono ?_
      rintro e w5 ⟨rfl, b5⟩
      have sx5 := sx4.below b5 sx4.1
      have rd5 := rd4.below b5 rd4.top
      have bu5 := bu4.trans (But.of_below b5)
      have s5 := s4.below b5 s4.1
      clear hc b5 sx4 rd4 bu4 s4
      by_cases hz : gE l = 0
      · have HZ := Lib.hid hz
        rw [hz]
        clear hz
        obtain ⟨c0, c1, c2, c3, c4, c5, c6⟩ := s5.cells
        have x0 := sx5.2.1 0 (by omega)
        have x1 := sx5.2.1 1 (by omega)
        have x2 := sx5.2.1 2 (by omega)
        have x3 := sx5.2.1 3 (by omega)
        have x4 := sx5.2.1 4 (by omega)
        have x5 := sx5.2.1 5 (by omega)
        have x6 := sx5.2.1 6 (by omega)
        have y0 := sx5.2.2 0 (by omega)
        have y1 := sx5.2.2 1 (by omega)
        have y2 := sx5.2.2 2 (by omega)
        have y3 := sx5.2.2 3 (by omega)
        have y4 := sx5.2.2 4 (by omega)
        have y5 := sx5.2.2 5 (by omega)
        have y6 := sx5.2.2 6 (by omega)
        obtain ⟨fv, fb⟩ := setW_facts k c b t d m p sx5
        have HR := Lib.hid (rd5.but fb (.inr tp))
        have HB := Lib.hid (bu5.onto fb (by have := HX.out; omega))
        go_wp2_with fail
        change bodyPost _ _ _ _ _ (setW w5 X k c b t d m p)
        clear c0 c1 c2 c3 c4 c5 c6 x0 x1 x2 x3 x4 x5 x6 y0 y1 y2 y3 y4 y5 y6 fb sx5 rd5 bu5 s5
        generalize setW w5 X k c b t d m p = w6 at *
        obtain ⟨c0, c1, c2, c3, c4, c5, c6⟩ := fv.cells
        refine bodyPost_ret (v := .agg #[.int .i64 k, .int .i64 c, .int .i64 b, .int .i64 t, .int .i64 d, .int .i64 m, .int .i64 p]) (by simp [results, Try.results57, go_sem, c0, c1, c2, c3, c4, c5, c6]) rfl ?_
        exact ⟨.inl ⟨HZ.out, by rw [N0.out, N1.out, N2.out, N3.out, N4.out, N5.out, N6.out]; rfl⟩, by rw [HZ.out]; exact HR.out, HB.out⟩
      · have g5 : (gE l != 0) = true := by simpa using hz
        have hf5 := fail_any B C R (l.drop 14) (gE l) w5 rd5
        rw [show failE (gE l) = gE l from if_neg hz] at hf5
        have HZ := Lib.hid hz
        clear hz rd5 s5 sx5
        generalize hge : gE l = ge at *
        have HG := Lib.hid hge
        clear hge
        go_wp2_with fail
        refine hf5.mono ?_
        rintro e w6 ⟨rfl, rd6, b6⟩
        exact ⟨rfl, .inr ⟨by rw [HG.out]; exact HZ.out, rfl⟩, by rw [HG.out]; exact rd6, bu5.trans b6⟩
end Go.Proofs.Ytbmbgfmhejahjaa
