/-
  THE NUMBERS OF A MIX: the steps of mix, as the walk spells them (whole numbers, wrapped), are those of 64 bits, and each has its way back: the way back of a number's mix is that number, and the mix of a number's way back is that number. Conditions: the number is at least 0 and below 2^64.
-/
import Derived.Laws.Bits64
namespace Go.Proofs.YtikdiaikggojjaaDoor

def st (d f z : Int) : Int := IntKind.u64.wrap (bits .xor .u64 z (z / d) * f)
def ush (d y : Int) : Int := bits .xor .u64 y (bits .xor .u64 y (y / d) / d)
def bk (d u z : Int) : Int := ush d (IntKind.u64.wrap (z * u))
def mix3 (z : Int) : Int := st 2147483648 1 (st 134217728 10723151780598845931 (st 1073741824 13787848793156543929 z))
def back3 (z : Int) : Int := bk 1073741824 10871156337175269513 (bk 134217728 3573116690164977347 (bk 2147483648 1 z))
def mixI (x : Int) : Int := mix3 (IntKind.u64.wrap (x + 11400714819323198485))
def backI (y : Int) : Int := IntKind.u64.wrap (back3 y - 11400714819323198485)

/- The same of 64 bits. -/
def stB (s : Nat) (f z : BitVec 64) : BitVec 64 := (z ^^^ z >>> s) * f
def bkB (s : Nat) (u z : BitVec 64) : BitVec 64 := (z * u) ^^^ ((z * u) ^^^ (z * u) >>> s) >>> s

def I (x : BitVec 64) : Int := (x.toNat : Int)

theorem I_xor (x y : BitVec 64) : bits .xor .u64 (I x) (I y) = I (x ^^^ y) := by
  unfold I
  rw [bits_xor_u64_nat _ _ x.isLt y.isLt, BitVec.toNat_xor]
theorem I_shr (x : BitVec 64) (s : Nat) : I x / ((2 ^ s : Nat) : Int) = I (x >>> s) := by
  unfold I
  rw [BitVec.toNat_ushiftRight, Nat.shiftRight_eq_div_pow, Int.natCast_ediv]
theorem I_mul (x y : BitVec 64) : IntKind.u64.wrap (I x * I y) = I (x * y) := by
  unfold I
  rw [IntKind.wrap_u64, BitVec.toNat_mul, Int.natCast_emod, Int.natCast_mul]; rfl
theorem I_add (x y : BitVec 64) : IntKind.u64.wrap (I x + I y) = I (x + y) := by
  unfold I
  rw [IntKind.wrap_u64, BitVec.toNat_add, Int.natCast_emod, Int.natCast_add]; rfl
theorem I_sub (x y : BitVec 64) : IntKind.u64.wrap (I x - I y) = I (x - y) := by
  unfold I
  rw [IntKind.wrap_u64, BitVec.toNat_sub]
  have := x.isLt
  have := y.isLt
  omega
theorem I_inj {x y : BitVec 64} (h : I x = I y) : x = y := BitVec.eq_of_toNat_eq (Int.ofNat.inj h)
theorem I_lt (x : BitVec 64) : 0 ≤ I x ∧ I x < 18446744073709551616 := by
  unfold I
  have := x.isLt
  omega
theorem I_of {x : Int} (h0 : 0 ≤ x) (h1 : x < 18446744073709551616) : ∃ y, x = I y := by
  refine ⟨BitVec.ofNat 64 x.toNat, ?_⟩
  unfold I
  rw [BitVec.toNat_ofNat]
  omega

theorem I_st (s : Nat) (f z : BitVec 64) : st ((2 ^ s : Nat) : Int) (I f) (I z) = I (stB s f z) := by
  unfold st stB
  rw [I_shr, I_xor, I_mul]
theorem I_bk (s : Nat) (u z : BitVec 64) : bk ((2 ^ s : Nat) : Int) (I u) (I z) = I (bkB s u z) := by
  unfold bk ush bkB
  rw [I_mul, I_shr, I_xor, I_shr, I_xor]

def c0 : BitVec 64 := 11400714819323198485#64
def f1 : BitVec 64 := 13787848793156543929#64
def u1 : BitVec 64 := 10871156337175269513#64
def f2 : BitVec 64 := 10723151780598845931#64
def u2 : BitVec 64 := 3573116690164977347#64

def mixB (x : BitVec 64) : BitVec 64 := stB 31 1#64 (stB 27 f2 (stB 30 f1 (x + c0)))
def backB (y : BitVec 64) : BitVec 64 := bkB 30 u1 (bkB 27 u2 (bkB 31 1#64 y)) - c0

theorem I_mix (x : BitVec 64) : mixI (I x) = I (mixB x) := by
  unfold mixI mix3 mixB
  have e0 : (11400714819323198485 : Int) = I c0 := rfl
  have e1 : (13787848793156543929 : Int) = I f1 := rfl
  have e2 : (10723151780598845931 : Int) = I f2 := rfl
  have e3 : (1 : Int) = I 1#64 := rfl
  rw [e0, e1, e2, e3, I_add]
  rw [show (1073741824 : Int) = ((2 ^ 30 : Nat) : Int) from rfl, show (134217728 : Int) = ((2 ^ 27 : Nat) : Int) from rfl, show (2147483648 : Int) = ((2 ^ 31 : Nat) : Int) from rfl]
  rw [I_st, I_st, I_st]
theorem I_back (x : BitVec 64) : backI (I x) = I (backB x) := by
  unfold backI back3 backB
  have e0 : (11400714819323198485 : Int) = I c0 := rfl
  have e1 : (10871156337175269513 : Int) = I u1 := rfl
  have e2 : (3573116690164977347 : Int) = I u2 := rfl
  have e3 : (1 : Int) = I 1#64 := rfl
  rw [e0, e1, e2, e3]
  rw [show (1073741824 : Int) = ((2 ^ 30 : Nat) : Int) from rfl, show (134217728 : Int) = ((2 ^ 27 : Nat) : Int) from rfl, show (2147483648 : Int) = ((2 ^ 31 : Nat) : Int) from rfl]
  rw [I_bk, I_bk, I_bk, I_sub]

theorem shr_far (z : BitVec 64) (n : Nat) (h : 64 ≤ n) : z >>> n = 0#64 := by
  apply BitVec.eq_of_toNat_eq
  rw [BitVec.toNat_ushiftRight, Nat.shiftRight_eq_div_pow]
  simp only [BitVec.toNat_ofNat, Nat.zero_mod]
  exact Nat.div_eq_of_lt (Nat.lt_of_lt_of_le z.isLt (Nat.pow_le_pow_right (by decide) h))
theorem x3 (a b c : BitVec 64) : (a ^^^ b) ^^^ (b ^^^ c ^^^ c) = a := by
  rw [BitVec.xor_assoc b c c, BitVec.xor_self, BitVec.xor_zero, BitVec.xor_assoc, BitVec.xor_self, BitVec.xor_zero]
theorem x4 (a b c : BitVec 64) : a ^^^ (b ^^^ c) ^^^ (b ^^^ c) = a := by
  rw [BitVec.xor_assoc, BitVec.xor_self, BitVec.xor_zero]
/-- A number made one with itself, shifted, and what undoes it. -/
theorem un_sh (s : Nat) (hs : 64 ≤ s + s + s) (z : BitVec 64) : (z ^^^ z >>> s) ^^^ ((z ^^^ z >>> s) ^^^ (z ^^^ z >>> s) >>> s) >>> s = z := by
  simp only [BitVec.ushiftRight_xor_distrib, ← BitVec.shiftRight_add]
  rw [shr_far z (s + s + s) hs, BitVec.xor_zero]
  exact x3 _ _ _
theorem sh_un (s : Nat) (hs : 64 ≤ s + s + s) (y : BitVec 64) : (y ^^^ (y ^^^ y >>> s) >>> s) ^^^ (y ^^^ (y ^^^ y >>> s) >>> s) >>> s = y := by
  simp only [BitVec.ushiftRight_xor_distrib, ← BitVec.shiftRight_add]
  rw [shr_far y (s + s + s) hs, BitVec.xor_zero]
  exact x4 _ _ _

theorem bk_st (s : Nat) (hs : 64 ≤ s + s + s) (f u : BitVec 64) (h : f * u = 1#64) (z : BitVec 64) : bkB s u (stB s f z) = z := by
  unfold bkB stB
  rw [BitVec.mul_assoc, h, BitVec.mul_one]
  exact un_sh s hs z
theorem st_bk (s : Nat) (hs : 64 ≤ s + s + s) (f u : BitVec 64) (h : u * f = 1#64) (z : BitVec 64) : stB s f (bkB s u z) = z := by
  unfold bkB stB
  rw [sh_un s hs, BitVec.mul_assoc, h, BitVec.mul_one]

theorem back_mix (x : BitVec 64) : backB (mixB x) = x := by
  unfold backB mixB
  rw [bk_st 31 (by decide) _ _ (by decide), bk_st 27 (by decide) _ _ (by decide), bk_st 30 (by decide) _ _ (by decide), BitVec.add_sub_cancel]
theorem mix_back (x : BitVec 64) : mixB (backB x) = x := by
  unfold backB mixB
  rw [BitVec.sub_add_cancel, st_bk 30 (by decide) _ _ (by decide), st_bk 27 (by decide) _ _ (by decide), st_bk 31 (by decide) _ _ (by decide)]

theorem backI_mixI (x : Int) (h0 : 0 ≤ x) (h1 : x < 18446744073709551616) : backI (mixI x) = x := by
  obtain ⟨y, rfl⟩ := I_of h0 h1
  rw [I_mix, I_back, back_mix]
theorem mixI_backI (x : Int) (h0 : 0 ≤ x) (h1 : x < 18446744073709551616) : mixI (backI x) = x := by
  obtain ⟨y, rfl⟩ := I_of h0 h1
  rw [I_back, I_mix, mix_back]
theorem mixI_inj (x y : Int) (h0 : 0 ≤ x) (h1 : x < 18446744073709551616) (k0 : 0 ≤ y) (k1 : y < 18446744073709551616) (h : mixI x = mixI y) : x = y := by
  rw [← backI_mixI x h0 h1, h, backI_mixI y k0 k1]
theorem mixI_lt (x : Int) (h0 : 0 ≤ x) (h1 : x < 18446744073709551616) : 0 ≤ mixI x ∧ mixI x < 18446744073709551616 := by
  obtain ⟨y, rfl⟩ := I_of h0 h1
  rw [I_mix]
  exact I_lt _

theorem mixI_0 : mixI 0 = 16294208416658607535 := by
  rw [show (0 : Int) = I 0#64 from rfl, I_mix, show mixB 0#64 = 16294208416658607535#64 by decide]; rfl
theorem mixI_c : mixI 11400714819323198485 = 7960286522194355700 := by
  rw [show (11400714819323198485 : Int) = I c0 from rfl, I_mix, show mixB c0 = 7960286522194355700#64 by decide]; rfl

end Go.Proofs.YtikdiaikggojjaaDoor
