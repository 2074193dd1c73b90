/-
  CONFIG: the bytes of a config, one field behind the other. No condition.
-/
import Derived.Test.YtbmbgfmhejahjaaCheck
import Derived.Test.YtbmbgfmhejahjaaPut
namespace Go.Proofs.Ytbmbgfmhejahjaa
open Go.RowKit

/-- A whole number as one of 64 bits without a sign. -/
def u64 (n : Int) : Nat := (IntKind.u64.wrap n).toNat
theorem u64_int (n : Int) : ((u64 n : Nat) : Int) = IntKind.u64.wrap n := by
  unfold u64
  rw [IntKind.wrap_u64]
  omega
/-- A config's first so many fields' bytes. -/
def bf (nn : Nat → Int) : Nat → List UInt8
  | 0 => []
  | j + 1 => bf nn j ++ bts (u64 (nn j)) (cnt (fB j))
/-- A config's bytes. -/
def cb (k c b t d l p : Int) : List UInt8 := bf (nf k c b t d l p) 7
theorem bf_len (nn : Nat → Int) (j : Nat) (h : j ≤ 7) : (bf nn j).length ≤ 8 * j := by
  induction j with
  | zero => simp [bf]
  | succ j ih =>
    have := ih (by omega)
    have := cnt_le (fB j)
    simp only [bf, List.length_append, bts_len]
    omega
theorem cb_len (k c b t d l p : Int) : (cb k c b t d l p).length = 14 := by
  simp only [cb, bf, List.length_append, bts_len, List.length_nil]
  decide

/-- A slice that leads to these bytes. -/
def Tale (w : World) (v : Value) (l : List UInt8) : Prop := ∃ a cap, v = .slice a l.length cap ∧ (a = none → cap = 0) ∧ HoldsE KB w a l
theorem Own.tale {w : World} {B : Nat} {v : Value} {l : List UInt8} (h : Own KB w B v l) : Tale w v l := by
  obtain ⟨a, cap, h1, h2, _, _, h3⟩ := h.holds
  exact ⟨a, cap, h1, h2, h3⟩
theorem Tale.below {w w' : World} {v : Value} {l : List UInt8} (h : Tale w v l) (b : Below w.heap.size w w') : Tale w' v l := by
  obtain ⟨a, cap, h1, h2, h3⟩ := h
  exact ⟨a, cap, h1, h2, h3.below b⟩

set_option maxHeartbeats 2000000 in
theorem bytesOf_any (k c b t d l p : Int) (w : World) :
    Calls Try.prog 70 #[cf k c b t d l p] w fun e w' => ∃ v, e = .returned v ∧ Tale w' v (cb k c b t d l p) ∧ Below w.heap.size w w' := by
  have hn := numbers_any k c b t d l p
  have hf := fields_any k
  unfold cf at *
  have b0 := (Below.refl w.heap.size w).alloc (Nat.le_refl _) (.cells #[.int .i64 k, .int .i64 c, .int .i64 b, .int .i64 t, .int .i64 d, .int .i64 l, .int .i64 p] 23)
  have s0 : (w.alloc (.cells #[.int .i64 k, .int .i64 c, .int .i64 b, .int .i64 t, .int .i64 d, .int .i64 l, .int .i64 p] 23)).heap.size = w.heap.size + 1 := by simp
  have c0 : (w.alloc (.cells #[.int .i64 k, .int .i64 c, .int .i64 b, .int .i64 t, .int .i64 d, .int .i64 l, .int .i64 p] 23)).cell? ⟨w.heap.size, 0, none⟩ = some (.int .i64 k) := by simp [go_sem]
  go_enter Try.func70, Try.ntmps70
  go_wp2_with fail
  refine (hn _).mono ?_
  rintro e w1 ⟨rfl, b1⟩
  clear hn
  have s1 := b1.size
  have c1 := (b1.cell (p := ⟨w.heap.size, 0, none⟩) (by show w.heap.size < _; omega)).trans c0
  have b01 := b0.trans (b1.mono (by omega))
  have q1 := Seven.new k c b t d l p w1 105
  have b2 := (Below.refl w1.heap.size w1).alloc (Nat.le_refl _) (.cells #[.int .i64 k, .int .i64 c, .int .i64 b, .int .i64 t, .int .i64 d, .int .i64 l, .int .i64 p] 105)
  have c2 := (b2.cell (p := ⟨w.heap.size, 0, none⟩) (by show w.heap.size < _; omega)).trans c1
  have b02 := b01.trans (b2.mono (by omega))
  clear b0 s0 c0 b1 c1 b01 b2
  go_wp2_with fail
  refine (hf _).mono ?_
  rintro e w2 ⟨rfl, b3⟩
  have q2 := q1.below b3 q1.1
  have b03 := b02.trans (b3.mono (by have := b02.size; omega))
  obtain ⟨N, hN⟩ : ∃ N, w1.heap.size = N := ⟨_, rfl⟩
  rw [hN] at q2 ⊢
  clear hf q1 b02 b3 c2 s1 hN
  have hx := index_any (cLo k) (cHi k) (cAb k)
  have HC : Hid (cb k c b t d l p = bf (nf k c b t d l p) 7) := rfl
  generalize fieldsV (cLo k) (cHi k) (cAb k) = FV at *
  generalize fLo (cLo k) = lo at *
  generalize fHi (cHi k) = hi at *
  generalize fAb (cAb k) = ab at *
  generalize nf k c b t d l p = nn at *
  go_wp2_with fail
  go_loopw [12, 3] (fun v12 v3 wr => ∃ j : Nat, j ≤ 7 ∧ v12 = .int .i64 (j : Int) ∧ Tale wr v3 (bf nn j) ∧ Below w2.heap.size w2 wr) (fun v12 _ _ => 7 - (intOf v12).toNat)
  case atStart => exact ⟨0, by omega, rfl, ⟨none, 0, rfl, fun _ => rfl, .inl rfl⟩, Below.refl _ _⟩
  case round =>
    obtain ⟨j, hj, rfl, ta, bel⟩ := hrel
    by_cases hlt : j < 7
    · have i1 : (j : Int) < 7 := by omega
      have hxj := hx j hlt
      have q3 := q2.below bel q2.1
      have ba := (Below.refl wr.heap.size wr).alloc (Nat.le_refl _) (.cells #[.int .i64 (fB j), .int .i64 (lo j), .int .i64 (hi j), .int .i64 (ab j)] 108)
      have cn := (q3.below ba q3.1).2 j hlt
      have cf0 : (wr.alloc (.cells #[.int .i64 (fB j), .int .i64 (lo j), .int .i64 (hi j), .int .i64 (ab j)] 108)).cell? ⟨wr.heap.size, 0, none⟩ = some (.int .i64 (fB j)) := by simp [go_sem]
      have ta1 := ta.below ba
      have HBL := Lib.hid (bel.trans (ba.mono bel.size))
      have hs2 := HBL.out.size
      obtain ⟨a, cap, rfl, hA, hH⟩ := ta1
      have hlen := bf_len nn j hj
      have hu := u64_int (nn j)
      have HS : Hid (bf nn (j + 1) = bf nn j ++ bts (u64 (nn j)) (cnt (fB j))) := rfl
      have hp : Hid (∀ W, Below (wr.alloc (.cells #[.int .i64 (fB j), .int .i64 (lo j), .int .i64 (hi j), .int .i64 (ab j)] 108)).heap.size (wr.alloc (.cells #[.int .i64 (fB j), .int .i64 (lo j), .int .i64 (hi j), .int .i64 (ab j)] 108)) W → _) := fun W hW => put_any (fB j) a (bf nn j).length cap (bf nn j) rfl (by omega) hA (u64 (nn j)) W (hH.below hW)
      rw [hu] at hp
      clear hx q2 q3 ba bel ta hH hA hlen hu
      generalize fB j = fb at *
      generalize lo j = x at *
      generalize hi j = y at *
      generalize ab j = z at *
      generalize nn j = n at *
      generalize (bf nn j).length = m at *
      go_wp2_with fail
      generalize wr.alloc (.cells #[.int .i64 fb, .int .i64 x, .int .i64 y, .int .i64 z] 108) = wz at *
      have cc : Below wz.heap.size wz wz.drew := ⟨rfl, rfl, rfl, Nat.le_refl _, fun _ _ => rfl⟩
      have c0 : Below wz.heap.size wz wz := Below.refl _ _
      go_region_held3 (fun W => W.cell? ⟨N, j, none⟩ = some (.int .i64 n) ∧ W.cell? ⟨wr.heap.size, 0, none⟩ = some (.int .i64 fb))
        (first | exact ⟨cn4, cf4⟩ | exact ⟨cn, cf0⟩)
        (first
        | (go_at_call 46
           refine (hp.out _ cc).mono ?_
           rintro _ w4 ⟨v4, rfl, own4, b4⟩
           have cn4 : w4.cell? ⟨N, j, none⟩ = some (.int .i64 n) := (b4.cell (World.block_lt_of_cell? wz _ cn)).trans cn
           have cf4 : w4.cell? ⟨wr.heap.size, 0, none⟩ = some (.int .i64 fb) := (b4.cell (World.block_lt_of_cell? wz _ cf0)).trans cf0))
      have ta4 := own4.tale
      have HB4 := Lib.hid (HBL.out.trans ((cc.trans b4).mono hs2))
      clear hp own4 cc c0 b4 cn cf0 cn4 cf4
      go_wp2_with fail
      go_roundw
      case rel => exact ⟨j + 1, by omega, by go_num, by rw [HS.out]; exact ta4, HB4.out⟩
      case measure => simp [intOf]; omega
    · have i1 : ¬ (j : Int) < 7 := by omega
      obtain rfl : j = 7 := by omega
      have HB := Lib.hid (b03.trans (bel.mono b03.size))
      clear hx q2 bel b03
      go_wp2_with fail
      go_ret
      exact ⟨_, rfl, by rw [HC.out]; exact ta, HB.out⟩
end Go.Proofs.Ytbmbgfmhejahjaa
