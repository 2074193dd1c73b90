/-
  The config that bytes are taken as, if nothing is left, or why they aren't. Condition: no more than 1000 bytes.
-/
import Derived.Test.YtodejnligocadaaGet
namespace Go.Proofs.Ytodejnligocadaa
open Go.RowKit

theorem nf_gN (l : List UInt8) (j : Nat) (hj : j < 7) : nf (gN l 0) (gN l 1) (gN l 2) (gN l 3) (gN l 4) (gN l 5) (gN l 6) j = gN l j := by
  match j with
  | 0 => rfl
  | 1 => rfl
  | 2 => rfl
  | 3 => rfl
  | 4 => rfl
  | 5 => rfl
  | 6 => rfl
  | n + 7 => omega

theorem SevW.buts {N : Nat} {S : Nat → Prop} {f : Nat → Int} {w w' : World} (h : SevW N f w) (hb : Buts S w w') (hn : ¬ S N) : SevW N f w' :=
  ⟨Nat.lt_of_lt_of_le h.1 hb.size, fun j hj => (hb.cell h.1 hn).trans (h.2.1 j hj), fun j hj => (hb.frozen h.1 hn).trans (h.2.2 j hj)⟩

set_option maxHeartbeats 1000000 in
theorem takenF_any (V : Nat) (w : World) (f : Nat → Int) (hV : SevW V f w) (l : List UInt8) (hm : l.length ≤ 1000) :
    Tried w 20 #[.pointer (some ⟨V, 0, none⟩)] l fun l' e w2 => (l.length < 14 → l' = l ∧ e = 2) ∧ (14 ≤ l.length → l' = l.drop 14 ∧ e = gE l ∧ (gE l = 0 → Seven V (gN l) w2)) ∧ Buts (fun k => k = V) w w2 := by
  intro R w1 rd bel
  have lo := rd.lo
  have lV := hV.1
  have hV1 := hV.below bel lV
  by_cases hl : l.length < 14
  · have h1 := get_short _ _ R l hl w1 rd
    clear hV rd
    show Calls Try.prog _ #[.pointer (some ⟨R, 0, none⟩), .pointer (some ⟨V, 0, none⟩)] _ _
    go_enter Try.func20, Try.ntmps20
    go_wp2_with fail
    refine h1.mono ?_
    rintro x w2 ⟨rfl, rd2, hb2⟩
    have fr : Buts (fun k => k = R ∨ k = V) w1 w2 := (Buts.refl _ w1).but hb2 (.inl (.inl rfl))
    exact ⟨rfl, l, 2, .inr rfl, rd2, Tried.frame fr (by rintro k rfl; exact lV), fun _ => ⟨rfl, rfl⟩, fun h => absurd hl (by omega), Tried.whole bel fr (by omega)⟩
  · have h1 := get_any _ _ R l (by omega) (by omega) w1 rd
    clear hV rd
    show Calls Try.prog _ #[.pointer (some ⟨R, 0, none⟩), .pointer (some ⟨V, 0, none⟩)] _ _
    have HL := Lib.hid hl
    clear hl
    go_enter Try.func20, Try.ntmps20
    go_wp2_with fail
    refine h1.mono ?_
    rintro x w2 ⟨hx, rd2, hb2⟩
    rcases hx with ⟨hz, rfl⟩ | ⟨hz, rfl⟩
    · have hV2 := hV1.but hb2 (by omega)
      obtain ⟨sv, sb⟩ := setW_facts (gN l 0) (gN l 1) (gN l 2) (gN l 3) (gN l 4) (gN l 5) (gN l 6) hV2
      have rd3 := rd2.but sb (.inl (by omega))
      have fr : Buts (fun k => k = R ∨ k = V) w1 (setW w2 V (gN l 0) (gN l 1) (gN l 2) (gN l 3) (gN l 4) (gN l 5) (gN l 6)) := ((Buts.refl _ w1).but hb2 (.inl (.inl rfl))).but sb (.inl (.inr rfl))
      have x0 := hV2.2.1 0 (by omega)
      have x1 := hV2.2.1 1 (by omega)
      have x2 := hV2.2.1 2 (by omega)
      have x3 := hV2.2.1 3 (by omega)
      have x4 := hV2.2.1 4 (by omega)
      have x5 := hV2.2.1 5 (by omega)
      have x6 := hV2.2.1 6 (by omega)
      have y0 := hV2.2.2 0 (by omega)
      have y1 := hV2.2.2 1 (by omega)
      have y2 := hV2.2.2 2 (by omega)
      have y3 := hV2.2.2 3 (by omega)
      have y4 := hV2.2.2 4 (by omega)
      have y5 := hV2.2.2 5 (by omega)
      have y6 := hV2.2.2 6 (by omega)
      have HF := Lib.hid (And.intro fr (And.intro rd3 sv))
      have HZ := Lib.hid hz
      clear h1 hV1 rd2 hb2 hV2 sv sb rd3 fr hz
      unfold cf
      go_wp2_with fail
      go_end0
      obtain ⟨fr, rd3, sv⟩ := HF.out
      exact ⟨l.drop 14, 0, .inl ⟨rfl, rfl⟩, by rw [HZ.out] at rd3; exact rd3, Tried.frame fr (by rintro k rfl; exact lV), fun h => absurd h HL.out, fun _ => ⟨rfl, HZ.out.symm, fun _ => ⟨sv.1, fun j hj => (sv.2 j hj).trans (by rw [nf_gN l j hj])⟩⟩, Tried.whole bel fr (by omega)⟩
    · have fr : Buts (fun k => k = R ∨ k = V) w1 w2 := (Buts.refl _ w1).but hb2 (.inl (.inl rfl))
      exact ⟨rfl, l.drop 14, gE l, .inr rfl, rd2, Tried.frame fr (by rintro k rfl; exact lV), fun h => absurd h HL.out, fun _ => ⟨rfl, rfl, fun h => absurd h hz⟩, Tried.whole bel fr (by omega)⟩

theorem entersT (x : Value) (cap : Array Value) (w : World) : (callFunc 20 (#[x] ++ cap)).run Try.prog w = .ok (.enter 20 (#[x] ++ cap)) w := by
  simp [go_sem]

/-- How it ends. -/
def tkE (l : List UInt8) : Int := if l.length < 14 then 2 else if gE l = 0 then (if l.length = 14 then 0 else 3) else gE l
theorem tkE_ok {l : List UInt8} (h : tkE l = 0) : l.length = 14 ∧ gE l = 0 := by
  unfold tkE at h
  split at h
  · omega
  · split at h
    · split at h
      · rename_i h1 h2 h3; exact ⟨h3, h2⟩
      · omega
    · rename_i h1 h2; exact absurd h h2
/-- The config that is answered. -/
def tkV (l : List UInt8) : Value := if tkE l = 0 then cf (gN l 0) (gN l 1) (gN l 2) (gN l 3) (gN l 4) (gN l 5) (gN l 6) else cf 0 0 0 0 0 0 0

set_option maxHeartbeats 1000000 in
theorem taken_any (a : Option Addr) (n c : Nat) (l : List UInt8) (hl : l.length = n) (hm : n ≤ 1000) (ha : a = none → c = 0) (w : World) (h : HoldsE KB w a l) :
    Calls Try.prog 12 #[.slice a n c] w fun e w' => e = .returned (.tuple #[tkV l, .int .i64 (tkE l)]) ∧ Below w.heap.size w w' := by
  have hmf : ∀ (fn : Fn) (first cap : Array Value) (w : World), (Instr.makeFunc fn first cap).run Try.prog w = .ok (.func fn first cap) w := fun _ _ _ _ => rfl
  have b0 := zerW_below w 23
  have s0 := zerW_sev w 23 (fun _ => 0) (fun _ => rfl)
  have z0 := zerW_size w 23
  have b1 := zerW_below (zerW w 23) 23
  have s1 := zerW_sev (zerW w 23) 23 (fun _ => 0) (fun _ => rfl)
  have z1 := zerW_size (zerW w 23) 23
  have s0' := s0.below b1 s0.1
  have h1 := (h.below b0).below b1
  rw [z0] at s1
  have tr := try_any 20 #[.pointer (some ⟨w.heap.size + 1, 0, none⟩)] a n c l hl (by omega) ha _ h1 (fun x w => entersT x _ w) _ (takenF_any _ _ _ s1 l (by omega))
  have b01 := b0.trans (b1.mono (by omega))
  go_enter Try.func12, Try.ntmps12
  go_wp2_with fail
  change Calls Try.prog _ _ (zerW (zerW w 23) 23) _
  clear s0 b0 b1
  rw [z0] at z1
  clear z0
  generalize zerW (zerW w 23) 23 = W at *
  obtain ⟨X, hX⟩ : ∃ X, w.heap.size = X := ⟨_, rfl⟩
  have HX := Lib.hid hX
  rw [hX] at s1 s0' tr z1 ⊢
  clear hX
  refine tr.mono ?_
  clear tr
  rintro x w5 ⟨l', e, w4, rfl, ⟨p1, p2, f4⟩, hb⟩
  have HE : Hid (endE l' e = tkE l) := by
    show _ = _
    unfold tkE endE
    by_cases h14 : l.length < 14
    · obtain ⟨_, rfl⟩ := p1 h14
      rw [if_pos h14]
      rfl
    · obtain ⟨rfl, rfl, _⟩ := p2 (by omega)
      rw [if_neg h14]
      by_cases hz : gE l = 0
      · rw [if_pos hz, if_pos hz, List.length_drop]
        by_cases h15 : l.length = 14
        · rw [if_pos h15, if_pos (by omega)]
        · rw [if_neg h15, if_neg (by omega)]
      · rw [if_neg hz, if_neg hz]
  rw [HE.out]
  have s5 := (s0'.buts f4 (by omega)).but hb (by omega)
  have bb : Below w.heap.size w w5 := (f4.but hb (.inr (Nat.le_refl _))).onto b01 (by have := HX.out; omega) (by rintro k rfl; have := HX.out; omega)
  by_cases ht : tkE l = 0
  · obtain ⟨hl14, hz⟩ := tkE_ok ht
    obtain ⟨_, _, sv⟩ := p2 (by omega)
    have sv5 := (sv hz)
    have c0 := (hb.cell (p := ⟨X + 1, 0, none⟩) sv5.1 (by show X + 1 ≠ _; omega)).trans (sv5.2 0 (by omega))
    have c1 := (hb.cell (p := ⟨X + 1, 1, none⟩) sv5.1 (by show X + 1 ≠ _; omega)).trans (sv5.2 1 (by omega))
    have c2 := (hb.cell (p := ⟨X + 1, 2, none⟩) sv5.1 (by show X + 1 ≠ _; omega)).trans (sv5.2 2 (by omega))
    have c3 := (hb.cell (p := ⟨X + 1, 3, none⟩) sv5.1 (by show X + 1 ≠ _; omega)).trans (sv5.2 3 (by omega))
    have c4 := (hb.cell (p := ⟨X + 1, 4, none⟩) sv5.1 (by show X + 1 ≠ _; omega)).trans (sv5.2 4 (by omega))
    have c5 := (hb.cell (p := ⟨X + 1, 5, none⟩) sv5.1 (by show X + 1 ≠ _; omega)).trans (sv5.2 5 (by omega))
    have c6 := (hb.cell (p := ⟨X + 1, 6, none⟩) sv5.1 (by show X + 1 ≠ _; omega)).trans (sv5.2 6 (by omega))
    have HV : Hid (tkV l = .agg #[.int .i64 (gN l 0), .int .i64 (gN l 1), .int .i64 (gN l 2), .int .i64 (gN l 3), .int .i64 (gN l 4), .int .i64 (gN l 5), .int .i64 (gN l 6)]) := if_pos ht
    have HT := Lib.hid ht
    rw [ht]
    have x0 := s5.2.1 0 (by omega)
    have x1 := s5.2.1 1 (by omega)
    have x2 := s5.2.1 2 (by omega)
    have x3 := s5.2.1 3 (by omega)
    have x4 := s5.2.1 4 (by omega)
    have x5 := s5.2.1 5 (by omega)
    have x6 := s5.2.1 6 (by omega)
    have y0 := s5.2.2 0 (by omega)
    have y1 := s5.2.2 1 (by omega)
    have y2 := s5.2.2 2 (by omega)
    have y3 := s5.2.2 3 (by omega)
    have y4 := s5.2.2 4 (by omega)
    have y5 := s5.2.2 5 (by omega)
    have y6 := s5.2.2 6 (by omega)
    obtain ⟨fv, fb⟩ := setW_facts (gN l 0) (gN l 1) (gN l 2) (gN l 3) (gN l 4) (gN l 5) (gN l 6) s5
    have HB := Lib.hid (bb.trans (fb.below (by have := HX.out; omega) bb.size))
    clear ht hl14 hz p1 p2 f4 hb s1 s0' b01 sv sv5 bb HE z1 h1 h hl
    go_wp2_with fail
    change bodyPost _ _ _ _ _ (setW w5 X (gN l 0) (gN l 1) (gN l 2) (gN l 3) (gN l 4) (gN l 5) (gN l 6))
    clear c0 c1 c2 c3 c4 c5 c6 x0 x1 x2 x3 x4 x5 x6 y0 y1 y2 y3 y4 y5 y6 fb s5
    generalize setW w5 X (gN l 0) (gN l 1) (gN l 2) (gN l 3) (gN l 4) (gN l 5) (gN l 6) = w6 at *
    obtain ⟨c0, c1, c2, c3, c4, c5, c6⟩ := fv.cells
    refine bodyPost_ret (v := .tuple #[.agg #[.int .i64 (gN l 0), .int .i64 (gN l 1), .int .i64 (gN l 2), .int .i64 (gN l 3), .int .i64 (gN l 4), .int .i64 (gN l 5), .int .i64 (gN l 6)], .int .i64 0]) (by simp [results, Try.results12, go_sem, c0, c1, c2, c3, c4, c5, c6]) rfl ?_
    exact ⟨by rw [HV.out, HT.out], HB.out⟩
  · have HV : Hid (tkV l = .agg #[.int .i64 0, .int .i64 0, .int .i64 0, .int .i64 0, .int .i64 0, .int .i64 0, .int .i64 0]) := if_neg ht
    have g5 : (tkE l != 0) = true := by simpa using ht
    have x0 := s5.2.1 0 (by omega)
    have x1 := s5.2.1 1 (by omega)
    have x2 := s5.2.1 2 (by omega)
    have x3 := s5.2.1 3 (by omega)
    have x4 := s5.2.1 4 (by omega)
    have x5 := s5.2.1 5 (by omega)
    have x6 := s5.2.1 6 (by omega)
    have y0 := s5.2.2 0 (by omega)
    have y1 := s5.2.2 1 (by omega)
    have y2 := s5.2.2 2 (by omega)
    have y3 := s5.2.2 3 (by omega)
    have y4 := s5.2.2 4 (by omega)
    have y5 := s5.2.2 5 (by omega)
    have y6 := s5.2.2 6 (by omega)
    obtain ⟨fv, fb⟩ := setW_facts 0 0 0 0 0 0 0 s5
    have HB := Lib.hid (bb.trans (fb.below (by have := HX.out; omega) bb.size))
    clear ht p1 p2 f4 hb s1 s0' b01 bb HE z1 h1 h hl
    generalize hte : tkE l = te at *
    have HT := Lib.hid hte
    clear hte
    go_wp2_with fail
    change bodyPost _ _ _ _ _ (setW w5 X 0 0 0 0 0 0 0)
    clear x0 x1 x2 x3 x4 x5 x6 y0 y1 y2 y3 y4 y5 y6 fb s5
    generalize setW w5 X 0 0 0 0 0 0 0 = w6 at *
    obtain ⟨c0, c1, c2, c3, c4, c5, c6⟩ := fv.cells
    refine bodyPost_ret (v := .tuple #[.agg #[.int .i64 0, .int .i64 0, .int .i64 0, .int .i64 0, .int .i64 0, .int .i64 0, .int .i64 0], .int .i64 te]) (by simp [results, Try.results12, go_sem, c0, c1, c2, c3, c4, c5, c6]) rfl ?_
    exact ⟨by rw [HV.out, HT.out], HB.out⟩
end Go.Proofs.Ytodejnligocadaa
