/-
  What TakeBack's function takes: each number, whole number or value as it was put. Conditions: no more than 50 numbers, of 64 bits.
-/
import Derived.Test.YtmdbncalcbdigaaPut
import Derived.Test.YtmdbncalcbdigaaTakeFix
namespace Go.Proofs.Ytmdbncalcbdigaa
open Go.RowKit

/-- The kind of the number at a place. -/
def kindN (ks : List UInt8) (i : Nat) : Nat := if i < ks.length then (ks.getD i 0).toNat % 10 else 8
theorem kindN_lt (ks : List UInt8) (i : Nat) : kindN ks i < 10 := by unfold kindN; split <;> omega
theorem kind_any (K : Nat) (aK : Option Addr) (cK : Nat) (ks : List UInt8) (i : Nat) (hk : ks.length ≤ 50) (w : World) (hK : w.cell? ⟨K, 0, none⟩ = some (.slice aK ks.length cK)) (hh : HoldsE KB w aK ks) :
    Calls Try.prog 21 #[.int .i64 (i : Int), .pointer (some ⟨K, 0, none⟩)] w fun e w' => e = .returned (.int .i64 (kindN ks i : Int)) ∧ w' = w := by
  by_cases h : i < ks.length
  · have HE : Hid (kindN ks i = (ks.getD i 0).toNat % 10) := if_pos h
    obtain ⟨g, off, rfl, hc⟩ : ∃ g off, aK = some ⟨g, off, none⟩ ∧ w.cell? ⟨g, off + i, none⟩ = some (KB.enc (ks.getD i KB.z)) := by
      rcases hh with rfl | ⟨g, off, h1, h2, h3⟩
      · cases h
      · exact ⟨g, off, h1, h3 i h⟩
    have hc2 : w.cell? ⟨g, off + i, none⟩ = some (.int .u8 ((ks.getD i 0).toNat : Int)) := hc
    have hx : (ks.getD i 0).toNat < 256 := (ks.getD i 0).toNat_lt
    generalize (ks.getD i 0).toNat = x at *
    have g1 : (i : Int) < (ks.length : Int) := by omega
    have x1 : IntKind.i64.wrap (x : Int) = (x : Int) := by rw [IntKind.wrap_i64]; omega
    clear hc hh
    go_enter Try.func21, Try.ntmps21
    go_wp2_with fail
    go_ret
    refine ⟨?_, rfl⟩
    rw [HE.out]
    rfl
  · have HE : Hid (kindN ks i = 8) := if_neg h
    have g1 : ¬ (i : Int) < (ks.length : Int) := by omega
    clear hh
    go_enter Try.func21, Try.ntmps21
    go_wp2_with fail
    go_ret
    refine ⟨?_, rfl⟩
    rw [HE.out]
    rfl

/-- How many bytes a kind has. -/
def wd (k : Nat) : Nat := if k = 9 then 8 else if k = 0 then 8 else k
theorem wd_le (k : Nat) (h : k < 10) : wd k ≤ 8 := by unfold wd; split <;> (try split) <;> omega
/-- The bytes of the number at a place; of the first so many. -/
def chunk (ns : List Nat) (ks : List UInt8) (i : Nat) : List UInt8 := bts (ns.getD i 0) (wd (kindN ks i))
def pre (ns : List Nat) (ks : List UInt8) : Nat → List UInt8
  | 0 => []
  | i + 1 => pre ns ks i ++ chunk ns ks i
theorem chunk_len (ns : List Nat) (ks : List UInt8) (i : Nat) : (chunk ns ks i).length = wd (kindN ks i) := bts_len _ _
theorem pre_len (ns : List Nat) (ks : List UInt8) (i : Nat) : (pre ns ks i).length ≤ 8 * i := by
  induction i with
  | zero => exact Nat.le_refl _
  | succ i ih =>
    have := wd_le _ (kindN_lt ks i)
    rw [pre, List.length_append, chunk_len]; omega
theorem pre_more (ns : List Nat) (ks : List UInt8) (i n : Nat) (h : i ≤ n) : ∃ X, pre ns ks n = pre ns ks i ++ X := by
  induction n with
  | zero => obtain rfl : i = 0 := by omega
            exact ⟨[], rfl⟩
  | succ n ih =>
    by_cases e : i = n + 1
    · subst e; exact ⟨[], by simp⟩
    · obtain ⟨X, hX⟩ := ih (by omega)
      exact ⟨X ++ chunk ns ks n, by rw [pre, hX, List.append_assoc]⟩
/-- What is left from a place on. -/
def suf (ns : List Nat) (ks : List UInt8) (i : Nat) : List UInt8 := (pre ns ks ns.length).drop (pre ns ks i).length
theorem suf_zero (ns : List Nat) (ks : List UInt8) : suf ns ks 0 = pre ns ks ns.length := rfl
theorem suf_end (ns : List Nat) (ks : List UInt8) : suf ns ks ns.length = [] := List.drop_length
theorem suf_step (ns : List Nat) (ks : List UInt8) (i : Nat) (h : i < ns.length) : suf ns ks i = chunk ns ks i ++ suf ns ks (i + 1) := by
  obtain ⟨X, hX⟩ := pre_more ns ks (i + 1) ns.length (by omega)
  unfold suf
  rw [hX, List.drop_left, pre, List.append_assoc, List.drop_left]
theorem suf_len (ns : List Nat) (ks : List UInt8) (i : Nat) : (suf ns ks i).length ≤ 8 * ns.length := by
  unfold suf
  rw [List.length_drop]
  have := pre_len ns ks ns.length
  omega
theorem suf_take (ns : List Nat) (ks : List UInt8) (i : Nat) (h : i < ns.length) : (suf ns ks i).take (wd (kindN ks i)) = chunk ns ks i ∧ (suf ns ks i).drop (wd (kindN ks i)) = suf ns ks (i + 1) ∧ wd (kindN ks i) ≤ (suf ns ks i).length := by
  have e := chunk_len ns ks i
  rw [suf_step ns ks i h]
  generalize chunk ns ks i = c at *
  rw [← e]
  exact ⟨by simp, by simp, by simp⟩

/-- Numbers of 64 bits, as they lie. -/
def KN : Kind Nat := ⟨25, 31, fun n => .int .u64 (n : Int), 0, 8⟩

/-- The lowest bytes of a number, by a mask. -/
theorem mask_is (x k : Nat) (hx : x < 18446744073709551616) (hk : k ≤ 8) (m d : Nat) (hm : m = 256 ^ k) (hd : d = 256 ^ k - 1) : (((x : Int) % (m : Int)) == bits .and .u64 (x : Int) (d : Int)) = true := by
  have h1 : (256 : Nat) ^ k = 2 ^ (8 * k) := by rw [Nat.pow_mul]
  have h2 : (256 : Nat) ^ k ≤ 256 ^ 8 := Nat.pow_le_pow_right (by decide) hk
  have h3 : (256 : Nat) ^ 8 = 18446744073709551616 := by decide
  rw [u64_and_nat x d hx (by omega), hd, hm, h1, Nat.and_two_pow_sub_one_eq_mod, beq_iff_eq]
  rfl

set_option maxHeartbeats 4000000 in
theorem backF_any (L F G T K : Nat) (aL aK : Option Addr) (cL cK : Nat) (ns : List Nat) (ks : List UInt8) (hns : ns.length ≤ 50) (hks : ks.length ≤ 50) (hn : ∀ n ∈ ns, n < 18446744073709551616) (w0 w : World) (b0 : Below w0.heap.size w0 w)
    (hL : Var L (.slice aL ns.length cL) w) (hF : Var F (.func (.func 21) #[] #[.pointer (some ⟨K, 0, none⟩)]) w) (hG : Var G (.bool true) w) (hT : Var T (.int .i64 0) w) (hK : Var K (.slice aK ks.length cK) w)
    (hl : HoldsE KN w0 aL ns) (hk : HoldsE KB w0 aK ks) (hGL : L ≠ G) (hTL : L ≠ T) (hGF : F ≠ G) (hTF : F ≠ T) (hGK : K ≠ G) (hTK : K ≠ T) (hGT : G ≠ T) (hG0 : w0.heap.size ≤ G) (hT0 : w0.heap.size ≤ T) :
    Tried w 22 #[.pointer (some ⟨L, 0, none⟩), .pointer (some ⟨F, 0, none⟩), .pointer (some ⟨G, 0, none⟩), .pointer (some ⟨T, 0, none⟩)] (pre ns ks ns.length)
      fun l' e w2 => l' = [] ∧ e = 0 ∧ Var G (.bool true) w2 ∧ Var T (.int .i64 (ns.length : Int)) w2 ∧ Buts (fun k => k = G ∨ k = T) w w2 := by
  intro R w1 rd bel
  have lo := rd.lo
  have hi := rd.hi
  have lL := hL.lt
  have lF := hF.lt
  have lG := hG.lt
  have lT := hT.lt
  have lK := hK.lt
  have hL1 := hL.below bel lL
  have hF1 := hF.below bel lF
  have hK1 := hK.below bel lK
  have hG1 := hG.below bel lG
  have hT1 := hT.below bel lT
  have cL1 := hL1.c
  have HB := Lib.hid (b0.trans (bel.mono b0.size))
  have HW := Lib.hid bel
  have h0 := b0.size
  have hsz := bel.size
  rw [← suf_zero] at rd
  clear hL hF hG hT hK b0 bel
  show Calls Try.prog _ #[.pointer (some ⟨R, 0, none⟩), .pointer (some ⟨L, 0, none⟩), .pointer (some ⟨F, 0, none⟩), .pointer (some ⟨G, 0, none⟩), .pointer (some ⟨T, 0, none⟩)] _ _
  go_enter Try.func22, Try.ntmps22
  go_wp2_with fail
  go_loopw [11] (fun iv wr => ∃ i : Nat, i ≤ ns.length ∧ iv = .int .i64 (i : Int) ∧ Rd (w.heap.size + 1) w1.heap.size R (suf ns ks i) 0 wr ∧ Var G (.bool true) wr ∧ Var T (.int .i64 (i : Int)) wr ∧ Buts (fun k => k = R ∨ k = G ∨ k = T) w1 wr) (fun iv _ => ns.length - (intOf iv).toNat)
  case atStart => exact ⟨0, by omega, rfl, rd, hG1, hT1, Buts.refl _ _⟩
  case round =>
    obtain ⟨i, hin, rfl, rdi, gi, ti, fr⟩ := hrel
    clear rd hG1 hT1
    by_cases hlt : i < ns.length
    · have i1 : (i : Int) < (ns.length : Int) := by omega
      have b0r := fr.onto HB.out (by omega) (by rintro k (rfl | rfl | rfl) <;> omega)
      obtain ⟨g, off, rfl, hc⟩ : ∃ g off, aL = some ⟨g, off, none⟩ ∧ wr.cell? ⟨g, off + i, none⟩ = some (.int .u64 ((ns.getD i 0 : Nat) : Int)) := by
        rcases hl with rfl | ⟨g, off, h1, h2, h3⟩
        · cases hlt
        · exact ⟨g, off, h1, (b0r.cell (by exact h2)).trans (h3 i hlt)⟩
      have hkr := hk.below b0r
      have hFr := hF1.buts fr (by omega)
      have hKr := hK1.buts fr (by omega)
      have hkind := kind_any K aK cK ks i hks wr hKr.c hkr
      have cF := hFr.c
      have cG := gi.c
      have fG := gi.f
      have cT := ti.c
      have fT := ti.f
      have hnx := hn (ns.getD i 0) (by simp [List.getD_eq_getElem?_getD, hlt])
      obtain ⟨st1, st2, st3⟩ := suf_take ns ks i hlt
      have hch : num (chunk ns ks i) = ns.getD i 0 % 256 ^ wd (kindN ks i) := num_bts _ _
      have hkl := kindN_lt ks i
      have hsl := suf_len ns ks i
      generalize ns.getD i 0 = x at *
      generalize kindN ks i = k at *
      generalize hrest : suf ns ks (i + 1) = rest at *
      generalize suf ns ks i = l at *
      generalize chunk ns ks i = c at *
      have HR : Hid (suf ns ks (i + 1) = rest) := hrest
      have HF := Lib.hid fr
      clear hrest fr b0r hkr hFr hKr
      go_wp2_with fail
      refine hkind.mono ?_
      rintro e w2 ⟨rfl, rfl⟩
      clear hkind
      by_cases h9 : k = 9
      · have q9 : ((k : Int) == 9) = true := by rw [beq_iff_eq]; omega
        have hwd : wd k = 8 := by unfold wd; rw [if_pos h9]
        have hnum := whole_some _ _ R l (by omega) w2 rdi (by omega)
        rw [hwd] at st1 st2 hch
        rw [st1, st2, hch] at hnum
        rw [show x % 256 ^ 8 = x by have h3 : (256 : Nat) ^ 8 = 18446744073709551616 := by decide
                                    omega] at hnum
        clear hwd st1 st2 st3 hch rdi
        go_wp2_with fail
        refine hnum.mono ?_
        rintro e w3 ⟨rfl, rd3, hb3⟩
        have gi3 := gi.but hb3 (by omega)
        have ti3 := ti.but hb3 (by omega)
        have cG3 := gi3.c
        have fG3 := gi3.f
        have cT3 := ti3.c
        have fT3 := ti3.f
        have HF3 := Lib.hid (HF.out.but hb3 (.inl (.inl rfl)))
        clear hnum cG fG cT fT gi ti hb3 HF hc cF q9
        go_wp2_with fail
        have gi4 := gi3.set (.bool true)
        have ti4 := ti3.but (But.setCell G 0 w3 (.bool true)) (Ne.symm hGT)
        have gi5 := gi4.but (But.setCell T 0 _ (.int .i64 ((i : Int) + 1))) hGT
        have ti5 := ti4.set (.int .i64 ((i : Int) + 1))
        have rd5 := (rd3.but (But.setCell G 0 w3 (.bool true)) (.inl (by omega))).but (But.setCell T 0 _ (.int .i64 ((i : Int) + 1))) (.inl (by omega))
        have HF5 := Lib.hid ((HF3.out.but (But.setCell G 0 w3 (.bool true)) (.inl (.inr (.inl rfl)))).but (But.setCell T 0 _ (.int .i64 ((i : Int) + 1))) (.inl (.inr (.inr rfl))))
        rw [← HR.out] at rd5
        exact ⟨⟨i + 1, by omega, by go_num, rd5, gi5, ti5, HF5.out⟩, by simp [intOf]; omega⟩
      · have q9 : ((k : Int) == 9) = false := by rw [beq_eq_false_iff_ne]; omega
        by_cases h0 : k = 0
        · have q0 : ((k : Int) == 0) = true := by rw [beq_iff_eq]; omega
          have hwd : wd k = 8 := by unfold wd; rw [if_neg h9, if_pos h0]
          have hnum := value_some _ _ R l (by omega) w2 rdi (by omega)
          rw [hwd] at st1 st2 hch
          rw [st1, st2, hch] at hnum
          rw [show x % 256 ^ 8 = x by have h3 : (256 : Nat) ^ 8 = 18446744073709551616 := by decide
                                      omega] at hnum
          clear hwd st1 st2 st3 hch rdi
          go_wp2_with fail
          refine hnum.mono ?_
          rintro e w3 ⟨rfl, rd3, hb3⟩
          have gi3 := gi.but hb3 (by omega)
          have ti3 := ti.but hb3 (by omega)
          have cG3 := gi3.c
          have fG3 := gi3.f
          have cT3 := ti3.c
          have fT3 := ti3.f
          have HF3 := Lib.hid (HF.out.but hb3 (.inl (.inl rfl)))
          clear hnum cG fG cT fT gi ti hb3 HF hc cF q9
          go_wp2_with (simp only [tob])
          have gi4 := gi3.set (.bool true)
          have ti4 := ti3.but (But.setCell G 0 w3 (.bool true)) (Ne.symm hGT)
          have gi5 := gi4.but (But.setCell T 0 _ (.int .i64 ((i : Int) + 1))) hGT
          have ti5 := ti4.set (.int .i64 ((i : Int) + 1))
          have rd5 := (rd3.but (But.setCell G 0 w3 (.bool true)) (.inl (by omega))).but (But.setCell T 0 _ (.int .i64 ((i : Int) + 1))) (.inl (by omega))
          have HF5 := Lib.hid ((HF3.out.but (But.setCell G 0 w3 (.bool true)) (.inl (.inr (.inl rfl)))).but (But.setCell T 0 _ (.int .i64 ((i : Int) + 1))) (.inl (.inr (.inr rfl))))
          rw [← HR.out] at rd5
          exact ⟨⟨i + 1, by omega, by go_num, rd5, gi5, ti5, HF5.out⟩, by simp [intOf]; omega⟩
        · have q0 : ((k : Int) == 0) = false := by rw [beq_eq_false_iff_ne]; omega
          have hcn : cnt (k : Int) = k := by unfold cnt; rw [if_neg (by omega), if_neg (by omega)]; omega
          have hwd : wd k = k := by unfold wd; rw [if_neg h9, if_neg h0]
          have hnum := number_some _ _ R l (k : Int) (by rw [hcn]; omega) w2 rdi (by omega)
          rw [hcn] at hnum
          rw [hwd] at st1 st2 hch
          rw [st1, st2, hch] at hnum
          clear hwd st1 st2 st3 hch hcn rdi
          go_wp2_with fail
          refine hnum.mono ?_
          rintro e w3 ⟨rfl, rd3, hb3⟩
          have gi3 := gi.but hb3 (by omega)
          have ti3 := ti.but hb3 (by omega)
          have cG3 := gi3.c
          have fG3 := gi3.f
          have cT3 := ti3.c
          have fT3 := ti3.f
          have HF3 := Lib.hid (HF.out.but hb3 (.inl (.inl rfl)))
          clear hnum cG fG cT fT gi ti hb3 HF hc cF q0 q9
          have hk8 : k = 1 ∨ k = 2 ∨ k = 3 ∨ k = 4 ∨ k = 5 ∨ k = 6 ∨ k = 7 ∨ k = 8 := by omega
          rcases hk8 with rfl | rfl | rfl | rfl | rfl | rfl | rfl | rfl
          · have q : (((x : Int) % 256) == bits .and .u64 (x : Int) 255) = true := mask_is x 1 hnx (by decide) 256 255 rfl rfl
            go_wp2_with fail
            have gi4 := gi3.set (.bool true)
            have ti4 := ti3.but (But.setCell G 0 w3 (.bool true)) (Ne.symm hGT)
            have gi5 := gi4.but (But.setCell T 0 _ (.int .i64 ((i : Int) + 1))) hGT
            have ti5 := ti4.set (.int .i64 ((i : Int) + 1))
            have rd5 := (rd3.but (But.setCell G 0 w3 (.bool true)) (.inl (by omega))).but (But.setCell T 0 _ (.int .i64 ((i : Int) + 1))) (.inl (by omega))
            have HF5 := Lib.hid ((HF3.out.but (But.setCell G 0 w3 (.bool true)) (.inl (.inr (.inl rfl)))).but (But.setCell T 0 _ (.int .i64 ((i : Int) + 1))) (.inl (.inr (.inr rfl))))
            rw [← HR.out] at rd5
            exact ⟨⟨i + 1, by omega, by go_num, rd5, gi5, ti5, HF5.out⟩, by simp [intOf]; omega⟩
          · have q : (((x : Int) % 65536) == bits .and .u64 (x : Int) 65535) = true := mask_is x 2 hnx (by decide) 65536 65535 rfl rfl
            go_wp2_with fail
            have gi4 := gi3.set (.bool true)
            have ti4 := ti3.but (But.setCell G 0 w3 (.bool true)) (Ne.symm hGT)
            have gi5 := gi4.but (But.setCell T 0 _ (.int .i64 ((i : Int) + 1))) hGT
            have ti5 := ti4.set (.int .i64 ((i : Int) + 1))
            have rd5 := (rd3.but (But.setCell G 0 w3 (.bool true)) (.inl (by omega))).but (But.setCell T 0 _ (.int .i64 ((i : Int) + 1))) (.inl (by omega))
            have HF5 := Lib.hid ((HF3.out.but (But.setCell G 0 w3 (.bool true)) (.inl (.inr (.inl rfl)))).but (But.setCell T 0 _ (.int .i64 ((i : Int) + 1))) (.inl (.inr (.inr rfl))))
            rw [← HR.out] at rd5
            exact ⟨⟨i + 1, by omega, by go_num, rd5, gi5, ti5, HF5.out⟩, by simp [intOf]; omega⟩
          · have q : (((x : Int) % 16777216) == bits .and .u64 (x : Int) 16777215) = true := mask_is x 3 hnx (by decide) 16777216 16777215 rfl rfl
            go_wp2_with fail
            have gi4 := gi3.set (.bool true)
            have ti4 := ti3.but (But.setCell G 0 w3 (.bool true)) (Ne.symm hGT)
            have gi5 := gi4.but (But.setCell T 0 _ (.int .i64 ((i : Int) + 1))) hGT
            have ti5 := ti4.set (.int .i64 ((i : Int) + 1))
            have rd5 := (rd3.but (But.setCell G 0 w3 (.bool true)) (.inl (by omega))).but (But.setCell T 0 _ (.int .i64 ((i : Int) + 1))) (.inl (by omega))
            have HF5 := Lib.hid ((HF3.out.but (But.setCell G 0 w3 (.bool true)) (.inl (.inr (.inl rfl)))).but (But.setCell T 0 _ (.int .i64 ((i : Int) + 1))) (.inl (.inr (.inr rfl))))
            rw [← HR.out] at rd5
            exact ⟨⟨i + 1, by omega, by go_num, rd5, gi5, ti5, HF5.out⟩, by simp [intOf]; omega⟩
          · have q : (((x : Int) % 4294967296) == bits .and .u64 (x : Int) 4294967295) = true := mask_is x 4 hnx (by decide) 4294967296 4294967295 rfl rfl
            go_wp2_with fail
            have gi4 := gi3.set (.bool true)
            have ti4 := ti3.but (But.setCell G 0 w3 (.bool true)) (Ne.symm hGT)
            have gi5 := gi4.but (But.setCell T 0 _ (.int .i64 ((i : Int) + 1))) hGT
            have ti5 := ti4.set (.int .i64 ((i : Int) + 1))
            have rd5 := (rd3.but (But.setCell G 0 w3 (.bool true)) (.inl (by omega))).but (But.setCell T 0 _ (.int .i64 ((i : Int) + 1))) (.inl (by omega))
            have HF5 := Lib.hid ((HF3.out.but (But.setCell G 0 w3 (.bool true)) (.inl (.inr (.inl rfl)))).but (But.setCell T 0 _ (.int .i64 ((i : Int) + 1))) (.inl (.inr (.inr rfl))))
            rw [← HR.out] at rd5
            exact ⟨⟨i + 1, by omega, by go_num, rd5, gi5, ti5, HF5.out⟩, by simp [intOf]; omega⟩
          · have q : (((x : Int) % 1099511627776) == bits .and .u64 (x : Int) 1099511627775) = true := mask_is x 5 hnx (by decide) 1099511627776 1099511627775 rfl rfl
            go_wp2_with fail
            have gi4 := gi3.set (.bool true)
            have ti4 := ti3.but (But.setCell G 0 w3 (.bool true)) (Ne.symm hGT)
            have gi5 := gi4.but (But.setCell T 0 _ (.int .i64 ((i : Int) + 1))) hGT
            have ti5 := ti4.set (.int .i64 ((i : Int) + 1))
            have rd5 := (rd3.but (But.setCell G 0 w3 (.bool true)) (.inl (by omega))).but (But.setCell T 0 _ (.int .i64 ((i : Int) + 1))) (.inl (by omega))
            have HF5 := Lib.hid ((HF3.out.but (But.setCell G 0 w3 (.bool true)) (.inl (.inr (.inl rfl)))).but (But.setCell T 0 _ (.int .i64 ((i : Int) + 1))) (.inl (.inr (.inr rfl))))
            rw [← HR.out] at rd5
            exact ⟨⟨i + 1, by omega, by go_num, rd5, gi5, ti5, HF5.out⟩, by simp [intOf]; omega⟩
          · have q : (((x : Int) % 281474976710656) == bits .and .u64 (x : Int) 281474976710655) = true := mask_is x 6 hnx (by decide) 281474976710656 281474976710655 rfl rfl
            go_wp2_with fail
            have gi4 := gi3.set (.bool true)
            have ti4 := ti3.but (But.setCell G 0 w3 (.bool true)) (Ne.symm hGT)
            have gi5 := gi4.but (But.setCell T 0 _ (.int .i64 ((i : Int) + 1))) hGT
            have ti5 := ti4.set (.int .i64 ((i : Int) + 1))
            have rd5 := (rd3.but (But.setCell G 0 w3 (.bool true)) (.inl (by omega))).but (But.setCell T 0 _ (.int .i64 ((i : Int) + 1))) (.inl (by omega))
            have HF5 := Lib.hid ((HF3.out.but (But.setCell G 0 w3 (.bool true)) (.inl (.inr (.inl rfl)))).but (But.setCell T 0 _ (.int .i64 ((i : Int) + 1))) (.inl (.inr (.inr rfl))))
            rw [← HR.out] at rd5
            exact ⟨⟨i + 1, by omega, by go_num, rd5, gi5, ti5, HF5.out⟩, by simp [intOf]; omega⟩
          · have q : (((x : Int) % 72057594037927936) == bits .and .u64 (x : Int) 72057594037927935) = true := mask_is x 7 hnx (by decide) 72057594037927936 72057594037927935 rfl rfl
            go_wp2_with fail
            have gi4 := gi3.set (.bool true)
            have ti4 := ti3.but (But.setCell G 0 w3 (.bool true)) (Ne.symm hGT)
            have gi5 := gi4.but (But.setCell T 0 _ (.int .i64 ((i : Int) + 1))) hGT
            have ti5 := ti4.set (.int .i64 ((i : Int) + 1))
            have rd5 := (rd3.but (But.setCell G 0 w3 (.bool true)) (.inl (by omega))).but (But.setCell T 0 _ (.int .i64 ((i : Int) + 1))) (.inl (by omega))
            have HF5 := Lib.hid ((HF3.out.but (But.setCell G 0 w3 (.bool true)) (.inl (.inr (.inl rfl)))).but (But.setCell T 0 _ (.int .i64 ((i : Int) + 1))) (.inl (.inr (.inr rfl))))
            rw [← HR.out] at rd5
            exact ⟨⟨i + 1, by omega, by go_num, rd5, gi5, ti5, HF5.out⟩, by simp [intOf]; omega⟩
          · have q : (((x : Int) % 18446744073709551616) == bits .and .u64 (x : Int) 18446744073709551615) = true := mask_is x 8 hnx (by decide) 18446744073709551616 18446744073709551615 rfl rfl
            go_wp2_with fail
            simp only [show IntKind.u64.wrap (IntKind.u64.wrap 18446744073709551616 - 1) = 18446744073709551615 by decide, q]
            have gi4 := gi3.set (.bool true)
            have ti4 := ti3.but (But.setCell G 0 w3 (.bool true)) (Ne.symm hGT)
            have gi5 := gi4.but (But.setCell T 0 _ (.int .i64 ((i : Int) + 1))) hGT
            have ti5 := ti4.set (.int .i64 ((i : Int) + 1))
            have rd5 := (rd3.but (But.setCell G 0 w3 (.bool true)) (.inl (by omega))).but (But.setCell T 0 _ (.int .i64 ((i : Int) + 1))) (.inl (by omega))
            have HF5 := Lib.hid ((HF3.out.but (But.setCell G 0 w3 (.bool true)) (.inl (.inr (.inl rfl)))).but (But.setCell T 0 _ (.int .i64 ((i : Int) + 1))) (.inl (.inr (.inr rfl))))
            rw [← HR.out] at rd5
            exact ⟨⟨i + 1, by omega, by go_num, rd5, gi5, ti5, HF5.out⟩, by simp [intOf]; omega⟩
    · have i1 : ¬ (i : Int) < (ns.length : Int) := by omega
      obtain rfl : i = ns.length := by omega
      rw [suf_end] at rdi
      have HF := Lib.hid (Tried.frame fr (w := w) (by rintro k (rfl | rfl) <;> omega))
      have HG := Lib.hid (Tried.whole HW.out fr (by omega))
      clear fr
      go_wp2_with fail
      go_end0
      exact ⟨_, 0, .inl ⟨rfl, rfl⟩, rdi, HF.out, rfl, rfl, gi, ti, HG.out⟩
end Go.Proofs.Ytmdbncalcbdigaa
