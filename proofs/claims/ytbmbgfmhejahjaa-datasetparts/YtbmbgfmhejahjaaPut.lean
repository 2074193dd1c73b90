/-
  PUT: what is put behind bytes, and the document's own text of a number's bytes. Conditions: no more than 10000 bytes; the number has 64 bits.
-/
import Derived.Test.YtbmbgfmhejahjaaReader
import Derived.Laws.MakeOwn
namespace Go.Proofs.Ytbmbgfmhejahjaa
open Go.RowKit

/-- What 'make' of no bytes, with room for some, leaves. -/
theorem run_made0 (w : World) (m k : Nat) (h : m + k ≤ 1048576) : ∃ w', (Instr.makeSlice 30 (.int .i64 0) (.int .i64 ((m : Int) + (k : Int)))).run Try.prog w = .ok (.slice (some ⟨w.heap.size, 0, none⟩) 0 (m + k)) w' ∧
    Own KB w' w.heap.size (.slice (some ⟨w.heap.size, 0, none⟩) 0 (m + k)) [] ∧ Below w.heap.size w w' := by
  obtain ⟨i0, hi, hz0, hz1, hz2⟩ := info_parts okB.info
  have hb := okB.bytes
  obtain ⟨w', h1, h2, h3⟩ := run_make_own (P := Try.prog) w w.heap.size 30 5 i0 _ 1 okB.under hi hz0 hz1 .i64 .i64 (m + k) (by rw [hz2]; show 1 * (m + k) ≤ _; omega) (by unfold maxLen; omega) (Nat.le_refl _)
  refine ⟨w', ?_, h2, (Below.refl _ w).grown h3 (Nat.le_refl _) (fun g hg => by cases hg)⟩
  rw [show ((m : Int) + (k : Int)) = ((m + k : Nat) : Int) by omega]
  exact h1

theorem put_byte (x j : Nat) : (x : Int) / 2 ^ (8 * j) % 256 = ((byt (x / 256 ^ j)).toNat : Int) := by
  have e : (256 : Nat) ^ j = 2 ^ (8 * j) := by rw [Nat.pow_mul]
  rw [byt_toNat, e, Int.natCast_emod, Int.natCast_ediv, Int.natCast_pow]
  rfl

set_option maxHeartbeats 1000000 in
theorem put_any (b : Int) (A : Option Addr) (m c : Nat) (l : List UInt8) (hl : l.length = m) (hm : m ≤ 10000) (hA : A = none → c = 0) (x : Nat) (w : World) (h : HoldsE KB w A l) :
    Calls Try.prog 46 #[.slice A m c, .int .u64 (x : Int), .int .i64 b] w fun e w' => ∃ v, e = .returned v ∧ Own KB w' w.heap.size v (l ++ bts x (cnt b)) ∧ Below w.heap.size w w' := by
  have hw := within_any b
  have h8 := cnt_le b
  obtain ⟨k, hk⟩ : ∃ k, cnt b = k := ⟨_, rfl⟩
  rw [hk] at hw h8 ⊢
  clear hk
  obtain ⟨w1, hmk, hown, bel⟩ := run_made0 w m k (by omega)
  have h1 := h.below bel
  go_enter Try.func46, Try.ntmps46
  go_wp2_with fail
  refine (hw _).mono ?_
  rintro e w0 ⟨rfl, rfl⟩
  clear hw
  go_wp2_with (at_builtin; refine app_any okB rfl _ _ rfl w.heap.size bel.size (.slice (some ⟨w.heap.size, 0, none⟩) 0 (m + k)) [] rfl hown A m c l rfl hl hA h1 (by simp; omega) (fun h => by cases h) ?_)
  intro v2 w2 own2 bel2 hn2
  have bel3 := bel.trans bel2
  clear hmk hown bel h1 bel2
  go_wp2_with fail
  go_loopw [8, 9] (fun v8 v9 wr => ∃ j r, j ≤ k ∧ v9 = .int .i64 ((j : Int) - 1) ∧ Own KB wr w.heap.size v8 r ∧ r ++ bts x j = l ++ bts x k ∧ v8 ≠ .slice none 0 0 ∧ Below w.heap.size w wr) (fun _ v9 _ => (intOf v9 + 1).toNat)
  case atStart => exact ⟨k, l, Nat.le_refl _, rfl, own2, rfl, hn2, bel3⟩
  case round =>
    obtain ⟨j, r, hj, rfl, own, hr, hn, bel⟩ := hrel
    cases j with
    | zero =>
      have g : ¬ ((0 : Nat) : Int) - 1 ≥ 0 := by decide
      rw [show bts x 0 = [] from rfl, List.append_nil] at hr
      go_wp2_with fail
      go_ret
      exact ⟨_, rfl, hr ▸ own, bel⟩
    | succ j =>
      rw [show ((j + 1 : Nat) : Int) - 1 = (j : Int) by omega]
      have g : (0 : Int) ≤ (j : Int) := by omega
      obtain ⟨g, cap, rfl, _⟩ : ∃ g cap, u8 = .slice (some ⟨g, 0, none⟩) r.length cap ∧ True := by
        rcases own.lst with ⟨h, _⟩ | ⟨g, cap, h, _⟩
        · exact absurd h hn
        · exact ⟨g, cap, h, trivial⟩
      clear bel3 own2 hn2
      have hrl : r.length + (j + 1) = m + k := by have := congrArg List.length hr; simp [bts_len, hl] at this; omega
      have HV := Lib.hid (put_byte x j)
      have bb : Below w.heap.size wr (wr.alloc (.cells #[bv (byt (x / 256 ^ j))] 5)) := (Below.refl _ wr).alloc bel.size _
      have own1 := own.alloc (.cells #[bv (byt (x / 256 ^ j))] 5)
      have cam : CameE KB (wr.alloc (.cells #[bv (byt (x / 256 ^ j))] 5)) (some ⟨wr.heap.size, 0, none⟩) 1 [byt (x / 256 ^ j)] := CameE.new (K := KB) _
      have hsz := bb.size
      have hs0 := bel.size
      unfold bv at bb own1 cam hsz
      rw [← HV.out] at bb own1 cam hsz
      have HR : Hid (r ++ [byt (x / 256 ^ j)] ++ bts x j = l ++ bts x k) := by
        show _ = _
        rw [← hr]; simp [bts]
      clear HV hr
      have HA := Lib.hid bel
      have HB2 := Lib.hid bb
      clear bel bb
      go_wp2_with (at_builtin; refine app_e okB rfl _ _ rfl w.heap.size (Nat.le_trans hs0 hsz) (.slice (some ⟨g, 0, none⟩) r.length cap) r rfl own1 _ 1 1 _ rfl cam (by simp; omega) (fun h => by cases h) ?_)
      intro v3 w3 own3 bel3 hn3
      have bel4 := Lib.hid ((HA.out.trans HB2.out).trans bel3)
      clear HA HB2 bel3 own own1 cam
      go_wp2_with fail
      go_roundw
      case rel => exact ⟨j, _, by omega, rfl, own3, HR.out, hn3, bel4.out⟩
      case measure => simp [intOf]

theorem putWhole_any (A : Option Addr) (m c : Nat) (l : List UInt8) (hl : l.length = m) (hm : m ≤ 10000) (hA : A = none → c = 0) (x : Nat) (z : Int) (hz : IntKind.u64.wrap z = (x : Int)) (w : World) (h : HoldsE KB w A l) :
    Calls Try.prog 49 #[.slice A m c, .int .i64 z] w fun e w' => ∃ v, e = .returned v ∧ Own KB w' w.heap.size v (l ++ bts x 8) ∧ Below w.heap.size w w' := by
  have hp := put_any 8 A m c l hl hm hA x w h
  rw [show cnt 8 = 8 from rfl] at hp
  clear h
  go_enter Try.func49, Try.ntmps49
  go_wp2_with fail
  refine hp.mono ?_
  rintro e w1 ⟨v, rfl, own, bel⟩
  go_wp2_with fail
  go_ret
  exact ⟨v, rfl, own, bel⟩
theorem putValue_any (A : Option Addr) (m c : Nat) (l : List UInt8) (hl : l.length = m) (hm : m ≤ 10000) (hA : A = none → c = 0) (x : Nat) (w : World) (h : HoldsE KB w A l) :
    Calls Try.prog 48 #[.slice A m c, .float .f64 x] w fun e w' => ∃ v, e = .returned v ∧ Own KB w' w.heap.size v (l ++ bts x 8) ∧ Below w.heap.size w w' := by
  have hp := put_any 8 A m c l hl hm hA x w h
  rw [show cnt 8 = 8 from rfl] at hp
  clear h
  go_enter Try.func48, Try.ntmps48
  go_wp2_with (simp only [tob])
  refine hp.mono ?_
  rintro e w1 ⟨v, rfl, own, bel⟩
  go_wp2_with fail
  go_ret
  exact ⟨v, rfl, own, bel⟩

theorem count_any (n : Int) (w : World) : Calls Try.prog 50 #[.int .i64 n] w fun e w' => e = .returned (.int .i64 (cnt n : Int)) ∧ w = w' := by
  by_cases h1 : n < 0
  · have HE : Hid (cnt n = 0) := if_pos h1
    go_enter Try.func50, Try.ntmps50
    go_wp2
    go_ret
    exact ⟨by rw [HE.out]; rfl, rfl⟩
  · by_cases h2 : 8 < n
    · have HE : Hid (cnt n = 8) := (if_neg h1).trans (if_pos h2)
      go_enter Try.func50, Try.ntmps50
      go_wp2
      go_ret
      exact ⟨by rw [HE.out]; rfl, rfl⟩
    · have HE : Hid ((cnt n : Int) = n) := by
        show _ = _
        unfold cnt
        rw [if_neg h1, if_neg h2]; omega
      go_enter Try.func50, Try.ntmps50
      go_wp2
      go_ret
      exact ⟨by rw [HE.out]; rfl, rfl⟩

theorem refPut_any (b : Int) (x : Nat) (hx : x < 18446744073709551616) (w : World) :
    Calls Try.prog 27 #[.int .u64 (x : Int), .int .i64 b] w fun e w' => e = .returned (.string (sb (bts x (cnt b)))) ∧ Below w.heap.size w w' := by
  have hw := count_any b
  have h8 := cnt_le b
  obtain ⟨k, hk⟩ : ∃ k, cnt b = k := ⟨_, rfl⟩
  rw [hk] at hw h8 ⊢
  clear hk
  go_enter Try.func27, Try.ntmps27
  go_wp2_with fail
  go_loopw [0, 5, 6] (fun v0 v5 v6 wr => ∃ j : Nat, j ≤ k ∧ v0 = .int .u64 ((x / 256 ^ j : Nat) : Int) ∧ v5 = .string (sb (bts x j)) ∧ v6 = .int .i64 (j : Int) ∧ Below w.heap.size w wr) (fun _ _ v6 _ => k - (intOf v6).toNat)
  case atStart => exact ⟨0, by omega, by simp, rfl, rfl, Below.refl _ _⟩
  case round =>
    obtain ⟨j, hj, rfl, rfl, rfl, bel⟩ := hrel
    have hw0 := hw wr
    clear hw
    go_wp2_with fail
    refine hw0.mono ?_
    rintro e w1 ⟨rfl, rfl⟩
    by_cases hlt : j < k
    · have i1 : (j : Int) < (k : Int) := by omega
      have HN : Hid (x / 256 ^ (j + 1) = x / 256 ^ j / 256) := by
        show _ = _
        rw [Nat.pow_succ, Nat.div_div_eq_div_mul]
      have HS : Hid (sb (bts x (j + 1)) = sb [byt (x / 256 ^ j)] ++ sb (bts x j)) := by
        show _ = _
        rw [sb_append]; rfl
      have hsz : (sb (bts x j)).size ≤ 8 := by rw [sb_size, bts_len]; omega
      have hs1 : (sb [byt (x / 256 ^ j)]).size = 1 := by rw [sb_size]; rfl
      have hyx : x / 256 ^ j < 18446744073709551616 := Nat.lt_of_le_of_lt (Nat.div_le_self _ _) hx
      generalize x / 256 ^ j = y at *
      have hz := run_str (wr.alloc (.cells #[bv (byt y)] 5)) (some ⟨wr.heap.size, 0, none⟩) 1 1 [byt y] rfl (Lst.made (K := KB) wr [byt y]).holds
      have HB2 : Below w.heap.size w (wr.alloc (.cells #[bv (byt y)] 5)) := bel.alloc (by exact bel.size) _
      have hby : ((byt y).toNat : Int) = (y : Int) % 256 := by rw [byt_toNat]; omega
      unfold bv at hz HB2
      rw [hby] at hz HB2
      generalize sb [byt y] = s1 at *
      generalize sb (bts x j) = s2 at *
      clear hw0 hby
      go_wp2_with fail
      refine ⟨⟨j + 1, by omega, ?_, by rw [HS.out], by go_num, HB2⟩, by simp [intOf]; omega⟩
      rw [HN.out]; rfl
    · have i1 : ¬ (j : Int) < (k : Int) := by omega
      obtain rfl : j = k := by omega
      go_wp2_with fail
      go_ret
      exact ⟨rfl, bel⟩
end Go.Proofs.Ytbmbgfmhejahjaa
