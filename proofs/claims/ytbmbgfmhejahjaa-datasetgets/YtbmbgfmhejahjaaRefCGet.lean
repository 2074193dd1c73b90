/-
  The document's Get of a config: the config of a text's first 14 bytes, or what is wrong with it. Condition: 14 to 100000 bytes.
-/
import Derived.Test.YtbmbgfmhejahjaaRefCheck
import Derived.Test.YtbmbgfmhejahjaaCNum
import Derived.Test.YtbmbgfmhejahjaaRefGet
import Derived.Test.YtbmbgfmhejahjaaByHand
import Derived.Test.YtbmbgfmhejahjaaAppLies
namespace Go.Proofs.Ytbmbgfmhejahjaa
open Go.RowKit

/-- The first so many numbers of a text's bytes. -/
def gL (l : List UInt8) (j : Nat) : List Int := (List.range j).map (gN l)
theorem gL_succ (l : List UInt8) (j : Nat) : gL l (j + 1) = gL l j ++ [gN l j] := by simp [gL, List.range_succ]
theorem gL_len (l : List UInt8) (j : Nat) : (gL l j).length = j := by simp [gL]
theorem gL_get (l : List UInt8) (j i : Nat) (h : i < j) : (gL l j).getD i 0 = gN l i := by simp [gL, List.getD_eq_getElem?_getD, h]

/-- What is laid ahead of the loop. -/
def getW (w : World) : World := ((zerW w 23).alloc (.cells #[] 3)).alloc (.cells #[.int .i64 1, .int .i64 2, .int .i64 2, .int .i64 2, .int .i64 1, .int .i64 4, .int .i64 2] 3)
theorem nf_fB (j : Nat) (hj : j < 7) : nf 1 2 2 2 1 4 2 j = fB j := by
  match j with
  | 0 => rfl
  | 1 => rfl
  | 2 => rfl
  | 3 => rfl
  | 4 => rfl
  | 5 => rfl
  | 6 => rfl
  | n + 7 => omega
theorem getW_facts (w : World) : SevW w.heap.size (fun _ => 0) (getW w) ∧ Own KI (getW w) (w.heap.size + 1) (.slice (some ⟨w.heap.size + 1, 0, none⟩) 0 0) [] ∧ Seven (w.heap.size + 1 + 1) fB (getW w) ∧ (getW w).heap.size = w.heap.size + 3 ∧ Below w.heap.size w (getW w) := by
  have b0 := zerW_below w 23
  have s0 := zerW_sev w 23 (fun _ => 0) (fun _ => rfl)
  have z0 := zerW_size w 23
  unfold getW
  generalize zerW w 23 = w0 at *
  have b1 := (Below.refl w0.heap.size w0).alloc (Nat.le_refl _) (.cells #[] 3)
  have o1 := Own.start (K := KI) w0 (w.heap.size + 1) (by omega)
  have z1 : (w0.alloc (.cells #[] 3)).heap.size = w0.heap.size + 1 := by simp
  have o2 := o1.alloc (.cells #[.int .i64 1, .int .i64 2, .int .i64 2, .int .i64 2, .int .i64 1, .int .i64 4, .int .i64 2] 3)
  rw [show KI.e = 3 from rfl] at o2
  generalize w0.alloc (.cells #[] 3) = w1 at *
  have b2 := (Below.refl w1.heap.size w1).alloc (Nat.le_refl _) (.cells #[.int .i64 1, .int .i64 2, .int .i64 2, .int .i64 2, .int .i64 1, .int .i64 4, .int .i64 2] 3)
  have q2 := Seven.new 1 2 2 2 1 4 2 w1 3
  rw [z1, z0] at q2
  rw [z0] at o2
  exact ⟨(s0.below b1 s0.1).below b2 (by omega), o2, ⟨q2.1, fun j hj => (q2.2 j hj).trans (by rw [nf_fB j hj])⟩, by simp [z1, z0], (b0.trans (b1.mono (by omega))).trans (b2.mono (by omega))⟩

theorem Seven.but {N b : Nat} {f : Nat → Int} {w w' : World} (h : Seven N f w) (hb : But b w w') (hn : N ≠ b) : Seven N f w' :=
  ⟨Nat.lt_of_lt_of_le h.1 hb.size, fun j hj => (hb.cell h.1 hn).trans (h.2 j hj)⟩
/-- The values that are answered. -/
def gV (l : List UInt8) : Value := if gE l = 0 then cf (gN l 0) (gN l 1) (gN l 2) (gN l 3) (gN l 4) (gN l 5) (gN l 6) else cf 0 0 0 0 0 0 0

set_option maxHeartbeats 8000000 in
theorem refCGet_any (l : List UInt8) (hl : 14 ≤ l.length) (hm : l.length ≤ 100000) (w : World) :
    Calls Try.prog 31 #[.string (sb l)] w fun e w' => e = .returned (.tuple #[gV l, .int .i64 (gE l)]) ∧ Below w.heap.size w w' := by
  have hs := sb_size l
  have g : ¬ ((sb l).size : Int) < 14 := by omega
  obtain ⟨f1, f2, f3, f4, f5⟩ := getW_facts w
  have hgt := fun j (hj : j < 7) => refGet_some l (fO j) (fB j) (by have := fO_step j hj; have := fO_le (j + 1); omega) (by omega)
  go_enter Try.func31, Try.ntmps31
  go_wp2_with fail
  change Code.wp _ _ _ _ (getW w)
  generalize getW w = w0 at *
  obtain ⟨X, hX⟩ : ∃ X, w.heap.size = X := ⟨_, rfl⟩
  have HX := Lib.hid hX
  rw [hX] at f1 f2 f3 f4 ⊢
  clear hX hs g
  go_loopw [4, 5, 7] (fun v4 v5 v7 wr => ∃ (j g cap : Nat), j ≤ 7 ∧ v7 = .int .i64 (j : Int) ∧ v5 = .int .i64 ((fO j : Nat) : Int) ∧ v4 = .slice (some ⟨g, 0, none⟩) j cap ∧ (g = X + 1 ∨ X + 3 ≤ g) ∧ Own KI wr (X + 1) (.slice (some ⟨g, 0, none⟩) j cap) (gL l j) ∧ SevW X (fun _ => 0) wr ∧ Seven (X + 1 + 1) fB wr ∧ X + 3 ≤ wr.heap.size ∧ Below w.heap.size w wr) (fun _ _ v7 _ => 7 - (intOf v7).toNat)
  case atStart => exact ⟨0, X + 1, 0, by omega, rfl, rfl, rfl, .inl rfl, f2, f1, f3, by omega, f5⟩
  case round =>
    obtain ⟨j, gb, cap, hj, rfl, rfl, rfl, hgb, own, sx, ss, hsz, bel⟩ := hrel
    clear f1 f2 f3 f4 f5
    by_cases hlt : j < 7
    · have i1 : (j : Int) < 7 := by omega
      have e1 := ss.2 j hlt
      have n1 := hgt j hlt wr
      rw [← fO_step j hlt] at n1
      have gh := gN_hi l j
      have HG : Hid (gN l j = (num ((l.drop (fO j)).take (cnt (fB j))) : Int)) := rfl
      have HGS := Lib.hid (gL_succ l j)
      generalize num ((l.drop (fO j)).take (cnt (fB j))) = z at *
      rw [HG.out] at gh HGS
      generalize fB j = fb at e1 n1
      generalize hfo : fO j = fo at n1 ⊢
      generalize hfo' : fO (j + 1) = fo' at n1
      have HFO := Lib.hid hfo'
      have b1 := (Below.refl wr.heap.size wr).alloc (Nat.le_refl _) (.cells #[.int .i64 (z : Int)] 3)
      have z1 : (wr.alloc (.cells #[.int .i64 (z : Int)] 3)).heap.size = wr.heap.size + 1 := by simp
      have own1 := own.alloc (.cells #[.int .i64 (z : Int)] 3)
      have cam : CameE KI (wr.alloc (.cells #[.int .i64 (z : Int)] 3)) (some ⟨wr.heap.size, 0, none⟩) 1 [(z : Int)] := CameE.new (K := KI) _
      have hB1 : X + 1 ≤ (wr.alloc (.cells #[.int .i64 (z : Int)] 3)).heap.size := by omega
      have HL := Lib.hid (gL_len l j)
      have sx1 := sx.below b1 sx.1
      have ss1 := ss.below b1 ss.1
      have bel1 := bel.trans (b1.mono bel.size)
      clear hgt hfo hfo' own sx ss bel HG
      go_wp2_with fail
      refine n1.mono ?_
      rintro e w1 ⟨rfl, rfl⟩
      clear n1 e1
      go_wp2_with (at_builtin; refine app_lies okI rfl _ _ rfl (X + 1) hB1 (.slice (some ⟨gb, 0, none⟩) j cap) (gL l j) rfl own1 _ 1 1 _ rfl cam (by have := HL.out; simp; omega) (by decide) ?_)
      intro g2 cap2 w2 own2 gr hg2 lt2
      clear z1 hB1
      generalize w1.alloc (.cells #[.int .i64 (z : Int)] 3) = wa at *
      have bu := But.grown (g := gb) gr
      have HGB : Hid (g2 = X + 1 ∨ X + 3 ≤ g2) := by
        rcases hg2 with h | h
        · have h' : gb = g2 := by simpa [Value.ownBlock] using h
          show _ ∨ _
          omega
        · show _ ∨ _
          omega
      have HO := own2
      rw [HL.out, ← HGS.out] at HO
      have HOH := Lib.hid HO
      have HSX := Lib.hid (sx1.but bu (by omega))
      have HSS := Lib.hid (ss1.but bu (by omega))
      have HSZ : Hid (X + 3 ≤ w2.heap.size) := by
        have := bu.size
        have := b1.size
        show _ ≤ _
        omega
      have HBL := Lib.hid (bel1.trans (bu.below (by have := HX.out; omega) bel1.size))
      have HL2 := HL
      rw [HL.out]
      clear own1 cam sx1 ss1 bel1 HO own2 gr hg2 bu HL b1
      go_wp2_with fail
      go_roundw
      case rel => exact ⟨j + 1, g2, cap2, by omega, by go_num, by rw [HFO.out], rfl, HGB.out, HOH.out, HSX.out, HSS.out, HSZ.out, HBL.out⟩
      case measure => simp [intOf]; omega
    · have i1 : ¬ (j : Int) < 7 := by omega
      obtain rfl : j = 7 := by omega
      clear hgt ss
      obtain ⟨-, -, -, -, -, hown⟩ : True ∧ True ∧ True ∧ True ∧ True ∧ Lst KI gb 0 (gL l 7) wr := by
        rcases own.lst with ⟨h, _⟩ | ⟨g', cap', h, _, _, _, hl'⟩
        · cases h
        · injection h with h1 h2 h3
          injection h1 with h1
          injection h1 with h1
          subst h1
          exact ⟨trivial, trivial, trivial, trivial, trivial, hl'⟩
      have e0 : wr.cell? ⟨gb, 0, none⟩ = some (.int .i64 (gN l 0)) := by have := hown.cell 0 (by rw [gL_len]; omega); rw [Nat.zero_add] at this; rw [this]; exact congrArg (fun z => some (Value.int .i64 z)) (gL_get l 7 0 (by omega))
      have e1 : wr.cell? ⟨gb, 1, none⟩ = some (.int .i64 (gN l 1)) := by have := hown.cell 1 (by rw [gL_len]; omega); rw [Nat.zero_add] at this; rw [this]; exact congrArg (fun z => some (Value.int .i64 z)) (gL_get l 7 1 (by omega))
      have e2 : wr.cell? ⟨gb, 2, none⟩ = some (.int .i64 (gN l 2)) := by have := hown.cell 2 (by rw [gL_len]; omega); rw [Nat.zero_add] at this; rw [this]; exact congrArg (fun z => some (Value.int .i64 z)) (gL_get l 7 2 (by omega))
      have e3 : wr.cell? ⟨gb, 3, none⟩ = some (.int .i64 (gN l 3)) := by have := hown.cell 3 (by rw [gL_len]; omega); rw [Nat.zero_add] at this; rw [this]; exact congrArg (fun z => some (Value.int .i64 z)) (gL_get l 7 3 (by omega))
      have e4 : wr.cell? ⟨gb, 4, none⟩ = some (.int .i64 (gN l 4)) := by have := hown.cell 4 (by rw [gL_len]; omega); rw [Nat.zero_add] at this; rw [this]; exact congrArg (fun z => some (Value.int .i64 z)) (gL_get l 7 4 (by omega))
      have e5 : wr.cell? ⟨gb, 5, none⟩ = some (.int .i64 (gN l 5)) := by have := hown.cell 5 (by rw [gL_len]; omega); rw [Nat.zero_add] at this; rw [this]; exact congrArg (fun z => some (Value.int .i64 z)) (gL_get l 7 5 (by omega))
      have e6 : wr.cell? ⟨gb, 6, none⟩ = some (.int .i64 (gN l 6)) := by have := hown.cell 6 (by rw [gL_len]; omega); rw [Nat.zero_add] at this; rw [this]; exact congrArg (fun z => some (Value.int .i64 z)) (gL_get l 7 6 (by omega))
      have hc := refCheck_any (gN l 0) (gN l 1) (gN l 2) (gN l 3) (gN l 4) (gN l 5) (gN l 6)
      have HE : Hid (chk (gN l 0) (gN l 1) (gN l 2) (gN l 3) (gN l 4) (gN l 5) (gN l 6) = gE l) := rfl
      rw [HE.out] at hc
      unfold cf at hc
      have gl := hown.lt
      clear own hown HE
      generalize hg0 : gN l 0 = k at *
      have N0 := Lib.hid hg0
      clear hg0
      generalize hg1 : gN l 1 = c at *
      have N1 := Lib.hid hg1
      clear hg1
      generalize hg2 : gN l 2 = b at *
      have N2 := Lib.hid hg2
      clear hg2
      generalize hg3 : gN l 3 = t at *
      have N3 := Lib.hid hg3
      clear hg3
      generalize hg4 : gN l 4 = d at *
      have N4 := Lib.hid hg4
      clear hg4
      generalize hg5 : gN l 5 = m at *
      have N5 := Lib.hid hg5
      clear hg5
      generalize hg6 : gN l 6 = p at *
      have N6 := Lib.hid hg6
      clear hg6
      have q : ∀ W, Below wr.heap.size wr W → (W.cell? ⟨gb, 0, none⟩ = some (.int .i64 k) ∧ W.cell? ⟨gb, 1, none⟩ = some (.int .i64 c) ∧ W.cell? ⟨gb, 2, none⟩ = some (.int .i64 b) ∧ W.cell? ⟨gb, 3, none⟩ = some (.int .i64 t) ∧ W.cell? ⟨gb, 4, none⟩ = some (.int .i64 d) ∧ W.cell? ⟨gb, 5, none⟩ = some (.int .i64 m) ∧ W.cell? ⟨gb, 6, none⟩ = some (.int .i64 p)) := fun W bW => ⟨(bW.cell (by exact gl)).trans e0, (bW.cell (by exact gl)).trans e1, (bW.cell (by exact gl)).trans e2, (bW.cell (by exact gl)).trans e3, (bW.cell (by exact gl)).trans e4, (bW.cell (by exact gl)).trans e5, (bW.cell (by exact gl)).trans e6⟩
      have HQ := Lib.hid q
      clear q e0 e1 e2 e3 e4 e5 e6
      go_wp2_with fail
      refine wp_region_held_drew (S := fun w' => w'.cell? ⟨gb, 0, none⟩ = some (.int .i64 k) ∧ w'.cell? ⟨gb, 1, none⟩ = some (.int .i64 c) ∧ w'.cell? ⟨gb, 2, none⟩ = some (.int .i64 b) ∧ w'.cell? ⟨gb, 3, none⟩ = some (.int .i64 t) ∧ w'.cell? ⟨gb, 4, none⟩ = some (.int .i64 d) ∧ w'.cell? ⟨gb, 5, none⟩ = some (.int .i64 m) ∧ w'.cell? ⟨gb, 6, none⟩ = some (.int .i64 p)) (by kernel_rfl) (by first | exact HQ.out _ (Below.refl _ _).drew | exact HQ.out _ ((Below.refl wr.heap.size wr).drew.alloc (Nat.le_refl _) _)) (fun hHeld => ?_)
      refine takeQ (i := 0) (v := ?_) rfl (by kernel_rfl) (by kernel_rfl) (by kernel_rfl) (fun _ _ _ h => h) (by rfl) hHeld ?_ ?_
      rotate_left
      · (intro w' hSw; (try dsimp only at hSw); go_simp <;> (with_reducible rfl))
      try simp only [Act.put, List.setIfInBounds_toArray, List.set_cons_zero, List.set_cons_succ]
      refine takeQ (i := 1) (v := ?_) rfl (by kernel_rfl) (by kernel_rfl) (by kernel_rfl) (fun _ _ _ h => h) (by rfl) hHeld ?_ ?_
      rotate_left
      · (intro w' hSw; (try dsimp only at hSw); go_simp <;> (with_reducible rfl))
      try simp only [Act.put, List.setIfInBounds_toArray, List.set_cons_zero, List.set_cons_succ]
      refine takeQ (i := 2) (v := ?_) rfl (by kernel_rfl) (by kernel_rfl) (by kernel_rfl) (fun _ _ _ h => h) (by rfl) hHeld ?_ ?_
      rotate_left
      · (intro w' hSw; (try dsimp only at hSw); go_simp <;> (with_reducible rfl))
      try simp only [Act.put, List.setIfInBounds_toArray, List.set_cons_zero, List.set_cons_succ]
      refine takeQ (i := 3) (v := ?_) rfl (by kernel_rfl) (by kernel_rfl) (by kernel_rfl) (fun _ _ _ h => h) (by rfl) hHeld ?_ ?_
      rotate_left
      · (intro w' hSw; (try dsimp only at hSw); go_simp <;> (with_reducible rfl))
      try simp only [Act.put, List.setIfInBounds_toArray, List.set_cons_zero, List.set_cons_succ]
      refine takeQ (i := 4) (v := ?_) rfl (by kernel_rfl) (by kernel_rfl) (by kernel_rfl) (fun _ _ _ h => h) (by rfl) hHeld ?_ ?_
      rotate_left
      · (intro w' hSw; (try dsimp only at hSw); go_simp <;> (with_reducible rfl))
      try simp only [Act.put, List.setIfInBounds_toArray, List.set_cons_zero, List.set_cons_succ]
      refine takeQ (i := 5) (v := ?_) rfl (by kernel_rfl) (by kernel_rfl) (by kernel_rfl) (fun _ _ _ h => h) (by rfl) hHeld ?_ ?_
      rotate_left
      · (intro w' hSw; (try dsimp only at hSw); go_simp <;> (with_reducible rfl))
      try simp only [Act.put, List.setIfInBounds_toArray, List.set_cons_zero, List.set_cons_succ]
      refine takeQ (i := 6) (v := ?_) rfl (by kernel_rfl) (by kernel_rfl) (by kernel_rfl) (fun _ _ _ h => h) (by rfl) hHeld ?_ ?_
      rotate_left
      · (intro w' hSw; (try dsimp only at hSw); go_simp <;> (with_reducible rfl))
      try simp only [Act.put, List.setIfInBounds_toArray, List.set_cons_zero, List.set_cons_succ]
      refine takeQ (i := 7) (v := ?_) rfl (by kernel_rfl) (by kernel_rfl) (by kernel_rfl) (fun _ _ _ h => h) (by rfl) hHeld ?_ ?_
      rotate_left
      · (intro w' hSw; (try dsimp only at hSw); go_simp <;> (with_reducible rfl))
      try simp only [Act.put, List.setIfInBounds_toArray, List.set_cons_zero, List.set_cons_succ]
      refine takeQ (i := 8) (v := ?_) rfl (by kernel_rfl) (by kernel_rfl) (by kernel_rfl) (fun _ _ _ h => h) (by rfl) hHeld ?_ ?_
      rotate_left
      · (intro w' hSw; (try dsimp only at hSw); go_simp <;> (with_reducible rfl))
      try simp only [Act.put, List.setIfInBounds_toArray, List.set_cons_zero, List.set_cons_succ]
      refine takeQ (i := 9) (v := ?_) rfl (by kernel_rfl) (by kernel_rfl) (by kernel_rfl) (fun _ _ _ h => h) (by rfl) hHeld ?_ ?_
      rotate_left
      · (intro w' hSw; (try dsimp only at hSw); go_simp <;> (with_reducible rfl))
      try simp only [Act.put, List.setIfInBounds_toArray, List.set_cons_zero, List.set_cons_succ]
      refine takeQ (i := 10) (v := ?_) rfl (by kernel_rfl) (by kernel_rfl) (by kernel_rfl) (fun _ _ _ h => h) (by rfl) hHeld ?_ ?_
      rotate_left
      · (intro w' hSw; (try dsimp only at hSw); go_simp <;> (with_reducible rfl))
      try simp only [Act.put, List.setIfInBounds_toArray, List.set_cons_zero, List.set_cons_succ]
      refine takeQ (i := 11) (v := ?_) rfl (by kernel_rfl) (by kernel_rfl) (by kernel_rfl) (fun _ _ _ h => h) (by rfl) hHeld ?_ ?_
      rotate_left
      · (intro w' hSw; (try dsimp only at hSw); go_simp <;> (with_reducible rfl))
      try simp only [Act.put, List.setIfInBounds_toArray, List.set_cons_zero, List.set_cons_succ]
      refine takeQ (i := 12) (v := ?_) rfl (by kernel_rfl) (by kernel_rfl) (by kernel_rfl) (fun _ _ _ h => h) (by rfl) hHeld ?_ ?_
      rotate_left
      · (intro w' hSw; (try dsimp only at hSw); go_simp <;> (with_reducible rfl))
      try simp only [Act.put, List.setIfInBounds_toArray, List.set_cons_zero, List.set_cons_succ]
      refine takeQ (i := 13) (v := ?_) rfl (by kernel_rfl) (by kernel_rfl) (by kernel_rfl) (fun _ _ _ h => h) (by rfl) hHeld ?_ ?_
      rotate_left
      · (intro w' hSw; (try dsimp only at hSw); go_simp <;> (with_reducible rfl))
      try simp only [Act.put, List.setIfInBounds_toArray, List.set_cons_zero, List.set_cons_succ]
      refine takeQ (i := 14) (v := ?_) rfl (by kernel_rfl) (by kernel_rfl) (by kernel_rfl) (fun _ _ _ h => h) (by rfl) hHeld ?_ ?_
      rotate_left
      · (intro w' hSw; (try dsimp only at hSw); go_simp <;> (with_reducible rfl))
      try simp only [Act.put, List.setIfInBounds_toArray, List.set_cons_zero, List.set_cons_succ]
      refine takeQ (i := 15) (v := ?_) rfl (by kernel_rfl) (by kernel_rfl) (by kernel_rfl) (fun _ _ _ h => h) (by rfl) hHeld ?_ ?_
      rotate_left
      · (intro w' hSw; (try dsimp only at hSw); go_simp <;> (with_reducible rfl))
      try simp only [Act.put, List.setIfInBounds_toArray, List.set_cons_zero, List.set_cons_succ]
      refine takeQ (i := 16) (v := ?_) rfl (by kernel_rfl) (by kernel_rfl) (by kernel_rfl) (fun _ _ _ h => h) (by rfl) hHeld ?_ ?_
      rotate_left
      · (intro w' hSw; (try dsimp only at hSw); go_simp <;> (with_reducible rfl))
      try simp only [Act.put, List.setIfInBounds_toArray, List.set_cons_zero, List.set_cons_succ]
      refine takeQ (i := 17) (v := ?_) rfl (by kernel_rfl) (by kernel_rfl) (by kernel_rfl) (fun _ _ _ h => h) (by rfl) hHeld ?_ ?_
      rotate_left
      · (intro w' hSw; (try dsimp only at hSw); go_simp <;> (with_reducible rfl))
      try simp only [Act.put, List.setIfInBounds_toArray, List.set_cons_zero, List.set_cons_succ]
      refine takeQ (i := 18) (v := ?_) rfl (by kernel_rfl) (by kernel_rfl) (by kernel_rfl) (fun _ _ _ h => h) (by rfl) hHeld ?_ ?_
      rotate_left
      · (intro w' hSw; (try dsimp only at hSw); go_simp <;> (with_reducible rfl))
      try simp only [Act.put, List.setIfInBounds_toArray, List.set_cons_zero, List.set_cons_succ]
      refine takeQ (i := 19) (v := ?_) rfl (by kernel_rfl) (by kernel_rfl) (by kernel_rfl) (fun _ _ _ h => h) (by rfl) hHeld ?_ ?_
      rotate_left
      · (intro w' hSw; (try dsimp only at hSw); go_simp <;> (with_reducible rfl))
      try simp only [Act.put, List.setIfInBounds_toArray, List.set_cons_zero, List.set_cons_succ]
      refine takeQ (i := 20) (v := ?_) rfl (by kernel_rfl) (by kernel_rfl) (by kernel_rfl) (fun _ _ _ h => h) (by rfl) hHeld ?_ ?_
      rotate_left
      · (intro w' hSw; (try dsimp only at hSw); go_simp <;> (with_reducible rfl))
      try simp only [Act.put, List.setIfInBounds_toArray, List.set_cons_zero, List.set_cons_succ]
      refine takeQ (i := 21) (v := ?_) rfl (by kernel_rfl) (by kernel_rfl) (by kernel_rfl) (fun _ _ _ h => h) (by rfl) hHeld ?_ ?_
      rotate_left
      · (intro w' hSw; (try dsimp only at hSw); go_simp <;> (with_reducible rfl))
      try simp only [Act.put, List.setIfInBounds_toArray, List.set_cons_zero, List.set_cons_succ]
      refine callL (i := 22) (by kernel_rfl) rfl (by rfl) (fun K hK => ?_)
      go_simp
      try dsimp only
      refine hK.out _ _ (by first | exact HQ.out _ (Below.refl _ _).drew | exact HQ.out _ ((Below.refl wr.heap.size wr).drew.alloc (Nat.le_refl _) _)) (fun hHeld => ?_)
      clear hK K
      try simp only [Act.put, List.setIfInBounds_toArray, List.set_cons_zero, List.set_cons_succ]
      refine callL (i := 23) (by kernel_rfl) rfl (by rfl) (fun K hK => ?_)
      go_simp
      try dsimp only
      refine hK.out _ _ (by first | exact HQ.out _ (Below.refl _ _).drew | exact HQ.out _ ((Below.refl wr.heap.size wr).drew.alloc (Nat.le_refl _) _)) (fun hHeld => ?_)
      clear hK K
      try simp only [Act.put, List.setIfInBounds_toArray, List.set_cons_zero, List.set_cons_succ]
      refine wpAnyH_done (by kernel_rfl) ?_ _
      have b4 : Below wr.heap.size wr (wr.alloc (.cells #[.int .i64 k, .int .i64 c, .int .i64 b, .int .i64 t, .int .i64 d, .int .i64 m, .int .i64 p] 23)).drew := ((Below.refl wr.heap.size wr).alloc (Nat.le_refl _) _).drew
      have s4 : Seven wr.heap.size (nf k c b t d m p) (wr.alloc (.cells #[.int .i64 k, .int .i64 c, .int .i64 b, .int .i64 t, .int .i64 d, .int .i64 m, .int .i64 p] 23)).drew := (Seven.new k c b t d m p wr 23).below (Below.refl _ _).drew (Seven.new k c b t d m p wr 23).1
      have sx4 := sx.below b4 sx.1
      have bel4 := bel.trans (b4.mono bel.size)
      clear sx bel b4 hHeld HQ
      generalize (wr.alloc (.cells #[.int .i64 k, .int .i64 c, .int .i64 b, .int .i64 t, .int .i64 d, .int .i64 m, .int .i64 p] 23)).drew = w4 at *
      obtain ⟨Y, hY⟩ : ∃ Y, wr.heap.size = Y := ⟨_, rfl⟩
      rw [hY] at s4 ⊢
      clear hY
      obtain ⟨c0, c1, c2, c3, c4, c5, c6⟩ := s4.cells
      go_wp2_with fail
      refine (hc _).mono ?_
      rintro _ w5 ⟨rfl, b5⟩
      replace s4 := s4.below b5 s4.1
      replace sx4 := sx4.below b5 sx4.1
      have BL := bel4.trans (b5.mono bel4.size)
      clear hc b5 bel4 c0 c1 c2 c3 c4 c5 c6
      by_cases hz : gE l = 0
      · have HZ := Lib.hid hz
        rw [hz]
        clear hz
        obtain ⟨c0, c1, c2, c3, c4, c5, c6⟩ := s4.cells
        have x0 := sx4.2.1 0 (by omega)
        have x1 := sx4.2.1 1 (by omega)
        have x2 := sx4.2.1 2 (by omega)
        have x3 := sx4.2.1 3 (by omega)
        have x4 := sx4.2.1 4 (by omega)
        have x5 := sx4.2.1 5 (by omega)
        have x6 := sx4.2.1 6 (by omega)
        have y0 := sx4.2.2 0 (by omega)
        have y1 := sx4.2.2 1 (by omega)
        have y2 := sx4.2.2 2 (by omega)
        have y3 := sx4.2.2 3 (by omega)
        have y4 := sx4.2.2 4 (by omega)
        have y5 := sx4.2.2 5 (by omega)
        have y6 := sx4.2.2 6 (by omega)
        obtain ⟨fv, fb⟩ := setW_facts k c b t d m p sx4
        have HB := Lib.hid (BL.trans (fb.below (by have := HX.out; omega) BL.size))
        go_wp2_with fail
        change bodyPost _ _ _ _ _ (setW w5 X k c b t d m p)
        clear c0 c1 c2 c3 c4 c5 c6 x0 x1 x2 x3 x4 x5 x6 y0 y1 y2 y3 y4 y5 y6 fb sx4 BL s4
        generalize setW w5 X k c b t d m p = w6 at *
        obtain ⟨c0, c1, c2, c3, c4, c5, c6⟩ := fv.cells
        refine bodyPost_ret (v := .tuple #[.agg #[.int .i64 k, .int .i64 c, .int .i64 b, .int .i64 t, .int .i64 d, .int .i64 m, .int .i64 p], .int .i64 0]) (by simp [results, Try.results31, go_sem, c0, c1, c2, c3, c4, c5, c6]) rfl ?_
        exact ⟨by rw [show gV l = _ from if_pos HZ.out, HZ.out, N0.out, N1.out, N2.out, N3.out, N4.out, N5.out, N6.out]; rfl, HB.out⟩
      · have g5 : (gE l != 0) = true := by simpa using hz
        have HZ := Lib.hid hz
        clear hz
        have x0 := sx4.2.1 0 (by omega)
        have x1 := sx4.2.1 1 (by omega)
        have x2 := sx4.2.1 2 (by omega)
        have x3 := sx4.2.1 3 (by omega)
        have x4 := sx4.2.1 4 (by omega)
        have x5 := sx4.2.1 5 (by omega)
        have x6 := sx4.2.1 6 (by omega)
        have y0 := sx4.2.2 0 (by omega)
        have y1 := sx4.2.2 1 (by omega)
        have y2 := sx4.2.2 2 (by omega)
        have y3 := sx4.2.2 3 (by omega)
        have y4 := sx4.2.2 4 (by omega)
        have y5 := sx4.2.2 5 (by omega)
        have y6 := sx4.2.2 6 (by omega)
        obtain ⟨fv, fb⟩ := setW_facts 0 0 0 0 0 0 0 sx4
        have HB := Lib.hid (BL.trans (fb.below (by have := HX.out; omega) BL.size))
        generalize hge : gE l = ge at *
        have HG := Lib.hid hge
        clear hge
        go_wp2_with fail
        change bodyPost _ _ _ _ _ (setW w5 X 0 0 0 0 0 0 0)
        clear x0 x1 x2 x3 x4 x5 x6 y0 y1 y2 y3 y4 y5 y6 fb sx4 BL s4
        generalize setW w5 X 0 0 0 0 0 0 0 = w6 at *
        obtain ⟨c0, c1, c2, c3, c4, c5, c6⟩ := fv.cells
        refine bodyPost_ret (v := .tuple #[.agg #[.int .i64 0, .int .i64 0, .int .i64 0, .int .i64 0, .int .i64 0, .int .i64 0, .int .i64 0], .int .i64 ge]) (by simp [results, Try.results31, go_sem, c0, c1, c2, c3, c4, c5, c6]) rfl ?_
        exact ⟨by rw [show gV l = _ from if_neg (by rw [HG.out]; exact HZ.out), HG.out]; rfl, HB.out⟩
end Go.Proofs.Ytbmbgfmhejahjaa
