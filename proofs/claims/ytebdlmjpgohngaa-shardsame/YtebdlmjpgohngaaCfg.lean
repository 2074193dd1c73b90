/-
  CONFIG: a config's numbers, its fields with their ends, and what is wrong with it: the first field, in their order, that is below its least or above its most. No condition.
-/
import Derived.Test.YtebdlmjpgohngaaOwnE
import Derived.Carry
import Derived.Deep.DeepCutAuto
import Derived.Laws.Rows
import Derived.Laws.Tables
namespace Go.Proofs.Ytebdlmjpgohngaa
open Go.RowKit

/-- A config as a value. -/
def cf (k c b t d l p : Int) : Value := .agg #[.int .i64 k, .int .i64 c, .int .i64 b, .int .i64 t, .int .i64 d, .int .i64 l, .int .i64 p]
/-- All fields: how many bytes, the least, the most, what is told above it. -/
def fieldsA (x y z : Int) : Array Value := #[.int .i64 1, .int .i64 0, .int .i64 1, .int .i64 3, .int .i64 2, .int .i64 x, .int .i64 y, .int .i64 z, .int .i64 2, .int .i64 2, .int .i64 256, .int .i64 4, .int .i64 2, .int .i64 1, .int .i64 4096, .int .i64 4, .int .i64 1, .int .i64 0, .int .i64 32, .int .i64 4, .int .i64 4, .int .i64 1, .int .i64 1048576, .int .i64 4, .int .i64 2, .int .i64 1, .int .i64 1024, .int .i64 4]
def fieldsV (x y z : Int) : Value := .agg (fieldsA x y z)
def cLo (k : Int) : Int := if k = 1 then 0 else 2
def cHi (k : Int) : Int := if k = 1 then 0 else 256
def cAb (k : Int) : Int := if k = 1 then 3 else 4

/-- One field: what it tells, or what those behind it tell. -/
def st (n lo hi ab r : Int) : Int := if n < lo then 3 else if hi < n then ab else r
/-- What is wrong with a config. -/
def chk (k c b t d l p : Int) : Int := st k 0 1 3 (st c (cLo k) (cHi k) (cAb k) (st b 2 256 4 (st t 1 4096 4 (st d 0 32 4 (st l 1 1048576 4 (st p 1 1024 4 0))))))

theorem numbers_any (k c b t d l p : Int) (w : World) :
    Calls Try.prog 46 #[cf k c b t d l p] w fun e w' => e = .returned (cf k c b t d l p) ∧ Below w.heap.size w w' := by
  unfold cf
  go_enter Try.func46, Try.ntmps46
  go_wp2
  go_returns
  exact ⟨rfl, ((Below.refl _ w).alloc (Nat.le_refl _) _).alloc (by simp) _⟩

theorem setRow_below {w W : World} (h : Below w.heap.size w W) (cs : Array Value) : Below w.heap.size w (W.setRow w.heap.size cs) :=
  h.trans ⟨rfl, rfl, rfl, by simp [World.setRow], fun k hk => setRow_other W _ k cs (by omega)⟩

set_option maxHeartbeats 2000000 in
theorem fields_any (k : Int) (w : World) :
    Calls Try.prog 47 #[.int .i64 k] w fun e w' => e = .returned (fieldsV (cLo k) (cHi k) (cAb k)) ∧ Below w.heap.size w w' := by
  by_cases h : k = 1
  · have g : (k == 1) = true := by simpa using h
    have H1 : Hid (fieldsV (cLo k) (cHi k) (cAb k) = fieldsV 0 0 3) := by show _ = _; unfold cLo cHi cAb; rw [if_pos h, if_pos h, if_pos h]
    clear h
    go_enter Try.func47, Try.ntmps47
    go_upto_region 4 with fail
    have hB : Below w.heap.size w ((w.alloc (.cells (Array.replicate 28 (.int .i64 0)) 94)).alloc (.cells #[.int .i64 2, .int .i64 0, .int .i64 0, .int .i64 3] 93)) := ((Below.refl _ w).alloc (Nat.le_refl _) _).alloc (by simp) _
    have h1 := heap_alloc2_new w (.cells (Array.replicate 28 (.int .i64 0)) 94) (.cells #[.int .i64 2, .int .i64 0, .int .i64 0, .int .i64 3] 93)
    have h0 : ((w.alloc (.cells (Array.replicate 28 (.int .i64 0)) 94)).alloc (.cells #[.int .i64 2, .int .i64 0, .int .i64 0, .int .i64 3] 93)).heap[w.heap.size]? = some (.cells (Array.replicate 28 (.int .i64 0)) 94) := by
      rw [heap_alloc_old _ _ (by simp), heap_alloc_new]
    change Code.wp _ _ _ _ ((w.alloc (.cells (Array.replicate 28 (.int .i64 0)) 94)).alloc (.cells #[.int .i64 2, .int .i64 0, .int .i64 0, .int .i64 3] 93))
    generalize (w.alloc (.cells (Array.replicate 28 (.int .i64 0)) 94)).alloc (.cells #[.int .i64 2, .int .i64 0, .int .i64 0, .int .i64 3] 93) = W at *
    refine wp_region_list ?_
    refine wpList_build rfl _ _ rfl (by kernel_rfl) ?_
    refine wpList_load_row rfl 93 _ rfl (w.heap.size + 1) rfl 93 _ (0, 0) _ h1 Try.underlying93 rfl (by kernel_rfl) ?_
    refine wpList_build rfl _ _ rfl (by kernel_rfl) ?_
    refine wpList_build rfl _ _ rfl (by kernel_rfl) ?_
    refine wpList_build rfl _ _ rfl (by kernel_rfl) ?_
    refine wpList_build rfl _ _ rfl (by kernel_rfl) ?_
    refine wpList_build rfl _ _ rfl (by kernel_rfl) ?_
    refine wpList_build rfl _ _ rfl (by kernel_rfl) ?_
    refine wpList_store_row rfl 94 _ _ rfl w.heap.size (fieldsA 0 0 3) (by kernel_rfl) (by kernel_rfl) 94 _ h0 (by kernel_rfl) (by kernel_rfl) (by kernel_rfl) ?_
    refine wpList_nil ?_
    have h2 := setRow_heap W w.heap.size _ (fieldsA 0 0 3) _ _ h0
    have hB2 := setRow_below hB (fieldsA 0 0 3)
    generalize W.setRow w.heap.size (fieldsA 0 0 3) = W2 at *
    rename_i Q' K hK
    show K _ _
    refine hK _ _ (wp_ret ?_)
    exact bodyPost_ret (results_cell_row rfl _ W2 w.heap.size 94 _ (0, 0) _ (by kernel_rfl) h2 Try.underlying94 rfl (by kernel_rfl)) (by kernel_rfl) ⟨by rw [H1.out]; rfl, hB2⟩
  · have g : (k == 1) = false := by simpa using h
    have H1 : Hid (fieldsV (cLo k) (cHi k) (cAb k) = fieldsV 2 256 4) := by show _ = _; unfold cLo cHi cAb; rw [if_neg h, if_neg h, if_neg h]
    clear h
    go_enter Try.func47, Try.ntmps47
    go_upto_region 4 with fail
    have hB : Below w.heap.size w ((w.alloc (.cells (Array.replicate 28 (.int .i64 0)) 94)).alloc (.cells #[.int .i64 2, .int .i64 2, .int .i64 256, .int .i64 4] 93)) := ((Below.refl _ w).alloc (Nat.le_refl _) _).alloc (by simp) _
    have h1 := heap_alloc2_new w (.cells (Array.replicate 28 (.int .i64 0)) 94) (.cells #[.int .i64 2, .int .i64 2, .int .i64 256, .int .i64 4] 93)
    have h0 : ((w.alloc (.cells (Array.replicate 28 (.int .i64 0)) 94)).alloc (.cells #[.int .i64 2, .int .i64 2, .int .i64 256, .int .i64 4] 93)).heap[w.heap.size]? = some (.cells (Array.replicate 28 (.int .i64 0)) 94) := by
      rw [heap_alloc_old _ _ (by simp), heap_alloc_new]
    change Code.wp _ _ _ _ ((w.alloc (.cells (Array.replicate 28 (.int .i64 0)) 94)).alloc (.cells #[.int .i64 2, .int .i64 2, .int .i64 256, .int .i64 4] 93))
    generalize (w.alloc (.cells (Array.replicate 28 (.int .i64 0)) 94)).alloc (.cells #[.int .i64 2, .int .i64 2, .int .i64 256, .int .i64 4] 93) = W at *
    refine wp_region_list ?_
    refine wpList_build rfl _ _ rfl (by kernel_rfl) ?_
    refine wpList_load_row rfl 93 _ rfl (w.heap.size + 1) rfl 93 _ (0, 0) _ h1 Try.underlying93 rfl (by kernel_rfl) ?_
    refine wpList_build rfl _ _ rfl (by kernel_rfl) ?_
    refine wpList_build rfl _ _ rfl (by kernel_rfl) ?_
    refine wpList_build rfl _ _ rfl (by kernel_rfl) ?_
    refine wpList_build rfl _ _ rfl (by kernel_rfl) ?_
    refine wpList_build rfl _ _ rfl (by kernel_rfl) ?_
    refine wpList_build rfl _ _ rfl (by kernel_rfl) ?_
    refine wpList_store_row rfl 94 _ _ rfl w.heap.size (fieldsA 2 256 4) (by kernel_rfl) (by kernel_rfl) 94 _ h0 (by kernel_rfl) (by kernel_rfl) (by kernel_rfl) ?_
    refine wpList_nil ?_
    have h2 := setRow_heap W w.heap.size _ (fieldsA 2 256 4) _ _ h0
    have hB2 := setRow_below hB (fieldsA 2 256 4)
    generalize W.setRow w.heap.size (fieldsA 2 256 4) = W2 at *
    rename_i Q' K hK
    show K _ _
    refine hK _ _ (wp_ret ?_)
    exact bodyPost_ret (results_cell_row rfl _ W2 w.heap.size 94 _ (0, 0) _ (by kernel_rfl) h2 Try.underlying94 rfl (by kernel_rfl)) (by kernel_rfl) ⟨by rw [H1.out]; rfl, hB2⟩
end Go.Proofs.Ytebdlmjpgohngaa
