/-
  THE DOCUMENT's: a dataset, its values told by their bits. Conditions: at most 2^20 values of 64 bits.
-/
import Derived.Test.YtbmbgfmhejahjaaPSame
import Derived.Test.YtbmbgfmhejahjaaDBack2
namespace Go.Proofs.Ytbmbgfmhejahjaa
open Go.RowKit

/-- Values as numbers. -/
def nums (V : List Nat) : List Int := V.map fun (x : Nat) => (x : Int)
theorem nums_len (V : List Nat) : (nums V).length = V.length := by simp [nums]
theorem nums_step (V : List Nat) (j : Nat) (h : j < V.length) : nums (V.take (j + 1)) = nums (V.take j) ++ [((V.getD j 0 : Nat) : Int)] := by
  have e : V.take (j + 1) = V.take j ++ [V.getD j 0] := by rw [List.take_add_one, List.getElem?_eq_getElem h]; simp [List.getD_eq_getElem?_getD, h]
  rw [e, nums, List.map_append]
  rfl

set_option maxRecDepth 20000 in
set_option maxHeartbeats 8000000 in
theorem pof_any (k c b t d l p r q : Int) (aV aT : Option Addr) (nV cV nT cT : Nat) (V : List Nat) (hVl : V.length = nV) (hn : nV ≤ 100000) (w : World) (hV : HoldsE KF w aV V) :
    Calls Try.prog 14 #[ds k c b t d l p r q (.slice aV nV cV) (.slice aT nT cT)] w fun e w' => (∃ v, e = .returned (ds k c b t d l p r q v (.slice aT nT cT)) ∧ Own KU w' w.heap.size v (nums V)) ∧ Below w.heap.size w w' := by
  have D0 := lay_dat w 36 k c b t d l p r q (.slice aV nV cV) (.slice aT nT cT)
  have b0 := lay_below w 36 k c b t d l p r q (.slice aV nV cV) (.slice aT nT cT)
  have z0 := lay_size w 36 k c b t d l p r q (.slice aV nV cV) (.slice aT nT cT)
  unfold ds
  go_enter Try.func14, Try.ntmps14
  go_upto_region 2 with fail
  change Code.wp _ _ _ _ (lay (lay (lay w 36 k c b t d l p r q (.slice aV nV cV) (.slice aT nT cT)) 27 0 0 0 0 0 0 0 0 0 (.slice none 0 0) (.slice none 0 0)) 27 k c b t d l p r q (.slice none 0 0) (.slice aT nT cT))
  generalize lay w 36 k c b t d l p r q (.slice aV nV cV) (.slice aT nT cT) = w1 at *
  have X0 := lay_dat w1 27 0 0 0 0 0 0 0 0 0 (.slice none 0 0) (.slice none 0 0)
  have b1 := lay_below w1 27 0 0 0 0 0 0 0 0 0 (.slice none 0 0) (.slice none 0 0)
  have z1 := lay_size w1 27 0 0 0 0 0 0 0 0 0 (.slice none 0 0) (.slice none 0 0)
  have D1 := D0.below b1 D0.lt
  have bb1 := b0.trans (b1.mono b0.size)
  generalize lay w1 27 0 0 0 0 0 0 0 0 0 (.slice none 0 0) (.slice none 0 0) = w2 at *
  have Y0 := lay_dat w2 27 k c b t d l p r q (.slice none 0 0) (.slice aT nT cT)
  have b2 := lay_below w2 27 k c b t d l p r q (.slice none 0 0) (.slice aT nT cT)
  have z2 := lay_size w2 27 k c b t d l p r q (.slice none 0 0) (.slice aT nT cT)
  have D2 := D1.below b2 D1.lt
  have X2 := X0.below b2 X0.lt
  have bb2 := bb1.trans (b2.mono bb1.size)
  generalize lay w2 27 k c b t d l p r q (.slice none 0 0) (.slice aT nT cT) = w3 at *
  obtain ⟨N, hN⟩ : ∃ N, w.heap.size = N := ⟨_, rfl⟩
  have HN := Lib.hid hN
  have zz : w3.heap.size = N + 1 + 1 + 1 := by omega
  have hb3 : N + 3 ≤ w3.heap.size := by omega
  rw [z1, z0, hN] at Y0
  rw [z0, hN] at X2
  rw [hN] at D2 ⊢
  have HVL := Lib.hid hVl
  clear hN D0 D1 X0 b0 b1 b2 z0 z1 z2 zz bb1 hVl
  go_wp2_with fail
  go_loopw [4] (fun v wr => ∃ (j : Nat) (a : Option Addr) (m cc : Nat), v = .int .i64 (j : Int) ∧ j ≤ nV ∧ Dat N (dv k c b t d l p r q (.slice aV nV cV) (.slice aT nT cT)) wr ∧ Dat (N + 1) (dv 0 0 0 0 0 0 0 0 0 (.slice none 0 0) (.slice none 0 0)) wr ∧ Dat (N + 1 + 1) (dv k c b t d l p r q (.slice a m cc) (.slice aT nT cT)) wr ∧ Own KU wr (N + 3) (.slice a m cc) (nums (V.take j)) ∧ N + 3 ≤ wr.heap.size ∧ Below w.heap.size w wr) (fun v _ => nV - (intOf v).toNat)
  case atStart => exact ⟨0, none, 0, 0, rfl, by omega, D2, X2, Y0, Own.nil _ _, hb3, bb2⟩
  case round =>
    obtain ⟨j, a, m, cc, rfl, hj, D, X, Y, own, hsz, bel⟩ := hrel
    clear D2 X2 Y0 hb3 bb2
    have c9 : wr.cell? ⟨N, 9, none⟩ = some (.slice aV nV cV) := D.c 9 (by decide)
    by_cases hlt : j < nV
    · have hl0 : j < V.length := by rw [HVL.out]; exact hlt
      obtain ⟨ga, off, rfl, hg, hrow⟩ := hV.at hl0
      obtain ⟨y, HY⟩ : ∃ y, Hid (V.getD j 0 = y) := ⟨_, rfl⟩
      have HST := Lib.hid (nums_step V j hl0)
      rw [HY.out] at HST
      have ce : wr.cell? ⟨ga, off + j, none⟩ = some (.float .f64 y) := by rw [← HY.out]; exact (bel.cell (by exact hg)).trans (hrow j hl0)
      have i1 : (j : Int) < (nV : Int) := by omega
      have i0 : (0 : Int) ≤ (j : Int) := by omega
      have hlen : (nums (V.take j)).length = j := by rw [nums_len, List.length_take]; omega
      have hgw : ga < wr.heap.size := Nat.lt_of_lt_of_le hg bel.size
      have hgN : ga < N := by rw [← HN.out]; exact hg
      clear hV hrow hl0
      go_wp2_with fail
      clear c9
      have D' := D.drew
      have Y' := Y.drew
      have X' := X.drew
      have own' := own.drew
      have bel' := bel.drew
      have ce' : wr.drew.cell? ⟨ga, off + j, none⟩ = some (.float .f64 y) := ce
      clear D Y X own bel ce
      refine wp_region_held_drew (S := (fun W => W.cell? ⟨N, 9, none⟩ = some (.slice (some ⟨ga, off, none⟩) nV cV) ∧ W.cell? ⟨ga, off + j, none⟩ = some (.float .f64 y))) (by kernel_rfl) (by first | exact ⟨DZ.c 9 (by decide), ceZ⟩ | exact ⟨D'.c 9 (by decide), ce'⟩) (fun hHeld => ?_)
      refine takeQ (i := 0) (v := ?_) rfl (by kernel_rfl) (by kernel_rfl) (by kernel_rfl) (fun _ _ _ h => h) (by rfl) hHeld ?_ ?_
      rotate_left
      · (intro w' hSw; (try dsimp only at hSw); go_simp <;> (with_reducible rfl))
      try simp only [Act.put, List.setIfInBounds_toArray, List.set_cons_zero, List.set_cons_succ]
      refine takeQ (i := 2) (v := ?_) rfl (by kernel_rfl) (by kernel_rfl) (by kernel_rfl) (fun _ _ _ h => h) (by rfl) hHeld ?_ ?_
      rotate_left
      · (intro w' hSw; (try dsimp only at hSw); go_simp <;> (with_reducible rfl))
      try simp only [Act.put, List.setIfInBounds_toArray, List.set_cons_zero, List.set_cons_succ]
      refine takeQ (i := 3) (v := ?_) rfl (by kernel_rfl) (by kernel_rfl) (by kernel_rfl) (fun _ _ _ h => h) (by rfl) hHeld ?_ ?_
      rotate_left
      · (intro w' hSw; (try dsimp only at hSw); go_simp <;> (with_reducible rfl))
      try simp only [Act.put, List.setIfInBounds_toArray, List.set_cons_zero, List.set_cons_succ]
      refine takeQ (i := 4) (v := ?_) rfl (by kernel_rfl) (by kernel_rfl) (by kernel_rfl) (fun _ _ _ h => h) (by rfl) hHeld ?_ ?_
      rotate_left
      · (intro w' hSw; (try dsimp only at hSw); go_simp <;> (with_reducible rfl))
      try simp only [Act.put, List.setIfInBounds_toArray, List.set_cons_zero, List.set_cons_succ]
      refine takeQ (i := 5) (v := ?_) rfl (by kernel_rfl) (by kernel_rfl) (by kernel_rfl) (fun _ _ _ h => h) (by rfl) hHeld ?_ ?_
      rotate_left
      · (intro w' hSw; (try dsimp only at hSw); go_simp <;> (with_reducible rfl))
      try simp only [Act.put, List.setIfInBounds_toArray, List.set_cons_zero, List.set_cons_succ]
      refine takeQ (i := 6) (v := ?_) rfl (by kernel_rfl) (by kernel_rfl) (by kernel_rfl) (fun _ _ _ h => h) (by rfl) hHeld ?_ ?_
      rotate_left
      · (intro w' hSw; (try dsimp only at hSw); go_simp <;> (with_reducible rfl))
      try simp only [Act.put, List.setIfInBounds_toArray, List.set_cons_zero, List.set_cons_succ]
      refine takeQ (i := 7) (v := ?_) rfl (by kernel_rfl) (by kernel_rfl) (by kernel_rfl) (fun _ _ _ h => h) (by rfl) hHeld ?_ ?_
      rotate_left
      · (intro w' hSw; (try dsimp only at hSw); go_simp; exact tob y w')
      try simp only [Act.put, List.setIfInBounds_toArray, List.set_cons_zero, List.set_cons_succ]
      refine bothL (i := 1) (j := 8) (by kernel_rfl) rfl rfl (by rfl) (by rfl) (fun K hK => ?_) (fun K hK => ?_)
      · have y9 : wr.drew.cell? ⟨N + 1 + 1, 9, none⟩ = some (.slice a m cc) := Y'.c 9 (by decide)
        go_simp
        try dsimp only
        refine hK.out _ _ (by first | exact ⟨DZ.c 9 (by decide), ceZ⟩ | exact ⟨D'.c 9 (by decide), ce'⟩) (fun hHeld => ?_)
        clear hK K
        try simp only [Act.put, List.setIfInBounds_toArray, List.set_cons_zero, List.set_cons_succ]
        refine callL (i := 8) (by kernel_rfl) rfl (by rfl) (fun K hK => ?_)
        go_simp
        have b4 := (Below.refl wr.drew.heap.size wr.drew).alloc (Nat.le_refl _) (.cells #[.int .u64 (y : Int)] 52)
        have cam : CameE KU (wr.drew.alloc (.cells #[.int .u64 (y : Int)] 52)) (some ⟨wr.drew.heap.size, 0, none⟩) 1 [(y : Int)] := CameE.new (K := KU) _
        replace own' := own'.alloc (.cells #[.int .u64 (y : Int)] 52)
        replace ce' := (b4.cell (p := ⟨ga, off + j, none⟩) hgw).trans ce'
        replace D' := D'.below b4 D'.lt
        replace X' := X'.below b4 X'.lt
        replace Y' := Y'.below b4 Y'.lt
        replace bel' := bel'.trans (b4.mono bel'.size)
        have hs4 : N + 3 ≤ (wr.drew.alloc (.cells #[.int .u64 (y : Int)] 52)).heap.size := Nat.le_trans hsz b4.size
        try dsimp only
        refine hK.out _ _ (by first | exact ⟨DZ.c 9 (by decide), ceZ⟩ | exact ⟨D'.c 9 (by decide), ce'⟩) (fun hHeld => ?_)
        clear hK K
        try simp only [Act.put, List.setIfInBounds_toArray, List.set_cons_zero, List.set_cons_succ]
        refine callL (i := 9) (by kernel_rfl) rfl (by rfl) (fun K hK => ?_)
        refine app_wp0 (w := wr.drew.alloc (.cells #[.int .u64 (y : Int)] 52)) okU _ _ rfl (N + 3) hs4 _ (nums (V.take j)) rfl own' (some ⟨wr.drew.heap.size, 0, none⟩) 1 1 [(y : Int)] rfl cam (by rw [hlen]; simp; omega) ?_
        intro v6 w6 own6 gr6
        have b6 : Below (N + 3) _ w6 := (Below.refl _ _).grown gr6 hs4 (fun g hg => (World.ownsRow.lt own' g hg).1)
        obtain ⟨a6, m6, c6, rfl⟩ : ∃ a n c, v6 = .slice a n c := (by obtain ⟨a, c, h, _⟩ := own6.holds; exact ⟨a, _, c, h⟩)
        replace ce' := (b6.cell (p := ⟨ga, off + j, none⟩) (by show ga < N + 3; omega)).trans ce'
        replace D' := D'.below b6 (by omega)
        replace X' := X'.below b6 (by omega)
        replace Y' := Y'.below b6 (by omega)
        replace bel' := bel'.trans (b6.mono (by have := HN.out; omega))
        have hs6 := Nat.le_trans hs4 b6.size
        have q9 := Y'.c 9 (by decide)
        have q9f := Y'.fr 9 (by decide)
        have bz := But.setCell (N + 1 + 1) 9 w6 (.slice a6 m6 c6)
        have YZ := Y'.set 9 (.slice a6 m6 c6) (by decide) (dv9 k c b t d l p r q (.slice a m cc) (.slice aT nT cT) (.slice a6 m6 c6))
        have DZ := D'.but bz (by omega)
        have XZ := X'.but bz (by omega)
        have ceZ := (bz.cell (p := ⟨ga, off + j, none⟩) (by show ga < _; omega) (by show ga ≠ _; omega)).trans ce'
        have ownZ := own6.but bz (by omega)
        have belZ := bel'.trans (bz.below (B := w.heap.size) (by have := HN.out; omega) bel'.size)
        have hsZ := Nat.le_trans hs6 bz.size
        try dsimp only
        refine hK.out _ _ (by first | exact ⟨DZ.c 9 (by decide), ceZ⟩ | exact ⟨D'.c 9 (by decide), ce'⟩) (fun hHeld => ?_)
        clear hK K
        try simp only [Act.put, List.setIfInBounds_toArray, List.set_cons_zero, List.set_cons_succ]
        refine callL (i := 10) (by kernel_rfl) rfl (by rfl) (fun K hK => ?_)
        go_simp
        try dsimp only
        refine hK.out _ _ (by first | exact ⟨DZ.c 9 (by decide), ceZ⟩ | exact ⟨D'.c 9 (by decide), ce'⟩) (fun hHeld => ?_)
        clear hK K
        try simp only [Act.put, List.setIfInBounds_toArray, List.set_cons_zero, List.set_cons_succ]
        refine callL (i := 11) (by kernel_rfl) rfl (by rfl) (fun K hK => ?_)
        go_simp
        try dsimp only
        refine hK.out _ _ (by first | exact ⟨DZ.c 9 (by decide), ceZ⟩ | exact ⟨D'.c 9 (by decide), ce'⟩) (fun hHeld => ?_)
        clear hK K
        try simp only [Act.put, List.setIfInBounds_toArray, List.set_cons_zero, List.set_cons_succ]
        refine wpAnyH_done (by kernel_rfl) ?_ _
        have HO : Hid (Own KU (w6.setCell ⟨N + 1 + 1, 9, none⟩ (.slice a6 m6 c6)) (N + 3) (.slice a6 m6 c6) (nums (V.take (j + 1)))) := (by show Own KU _ _ _ _; rw [HST.out]; exact ownZ)
        have HB := Lib.hid belZ
        clear own6 gr6 b6 D' X' Y' bel' bz ownZ belZ ce' ceZ cam own' q9 q9f b4 hs4 hs6 hHeld
        generalize w6.setCell ⟨N + 1 + 1, 9, none⟩ (.slice a6 m6 c6) = w7 at *
        go_wp2_with fail
        go_roundw
        case rel => exact ⟨j + 1, a6, m6, c6, by go_num, by omega, DZ, XZ, YZ, HO.out, hsZ, HB.out⟩
        case measure => simp [intOf]; omega
      · go_simp
        have b4 := (Below.refl wr.drew.heap.size wr.drew).alloc (Nat.le_refl _) (.cells #[.int .u64 (y : Int)] 52)
        have cam : CameE KU (wr.drew.alloc (.cells #[.int .u64 (y : Int)] 52)) (some ⟨wr.drew.heap.size, 0, none⟩) 1 [(y : Int)] := CameE.new (K := KU) _
        replace own' := own'.alloc (.cells #[.int .u64 (y : Int)] 52)
        replace ce' := (b4.cell (p := ⟨ga, off + j, none⟩) hgw).trans ce'
        replace D' := D'.below b4 D'.lt
        replace X' := X'.below b4 X'.lt
        replace Y' := Y'.below b4 Y'.lt
        replace bel' := bel'.trans (b4.mono bel'.size)
        have hs4 : N + 3 ≤ (wr.drew.alloc (.cells #[.int .u64 (y : Int)] 52)).heap.size := Nat.le_trans hsz b4.size
        try dsimp only
        refine hK.out _ _ (by first | exact ⟨DZ.c 9 (by decide), ceZ⟩ | exact ⟨D'.c 9 (by decide), ce'⟩) (fun hHeld => ?_)
        clear hK K
        try simp only [Act.put, List.setIfInBounds_toArray, List.set_cons_zero, List.set_cons_succ]
        refine callL (i := 1) (by kernel_rfl) rfl (by rfl) (fun K hK => ?_)
        have y9 : (wr.alloc (.cells #[.int .u64 (y : Int)] 52)).cell? ⟨N + 1 + 1, 9, none⟩ = some (.slice a m cc) := Y'.c 9 (by decide)
        go_simp
        try dsimp only
        refine hK.out _ _ (by first | exact ⟨DZ.c 9 (by decide), ceZ⟩ | exact ⟨D'.c 9 (by decide), ce'⟩) (fun hHeld => ?_)
        clear hK K
        try simp only [Act.put, List.setIfInBounds_toArray, List.set_cons_zero, List.set_cons_succ]
        refine callL (i := 9) (by kernel_rfl) rfl (by rfl) (fun K hK => ?_)
        refine app_wp0 (w := wr.drew.alloc (.cells #[.int .u64 (y : Int)] 52)) okU _ _ rfl (N + 3) hs4 _ (nums (V.take j)) rfl own' (some ⟨wr.drew.heap.size, 0, none⟩) 1 1 [(y : Int)] rfl cam (by rw [hlen]; simp; omega) ?_
        intro v6 w6 own6 gr6
        have b6 : Below (N + 3) _ w6 := (Below.refl _ _).grown gr6 hs4 (fun g hg => (World.ownsRow.lt own' g hg).1)
        obtain ⟨a6, m6, c6, rfl⟩ : ∃ a n c, v6 = .slice a n c := (by obtain ⟨a, c, h, _⟩ := own6.holds; exact ⟨a, _, c, h⟩)
        replace ce' := (b6.cell (p := ⟨ga, off + j, none⟩) (by show ga < N + 3; omega)).trans ce'
        replace D' := D'.below b6 (by omega)
        replace X' := X'.below b6 (by omega)
        replace Y' := Y'.below b6 (by omega)
        replace bel' := bel'.trans (b6.mono (by have := HN.out; omega))
        have hs6 := Nat.le_trans hs4 b6.size
        have q9 := Y'.c 9 (by decide)
        have q9f := Y'.fr 9 (by decide)
        have bz := But.setCell (N + 1 + 1) 9 w6 (.slice a6 m6 c6)
        have YZ := Y'.set 9 (.slice a6 m6 c6) (by decide) (dv9 k c b t d l p r q (.slice a m cc) (.slice aT nT cT) (.slice a6 m6 c6))
        have DZ := D'.but bz (by omega)
        have XZ := X'.but bz (by omega)
        have ceZ := (bz.cell (p := ⟨ga, off + j, none⟩) (by show ga < _; omega) (by show ga ≠ _; omega)).trans ce'
        have ownZ := own6.but bz (by omega)
        have belZ := bel'.trans (bz.below (B := w.heap.size) (by have := HN.out; omega) bel'.size)
        have hsZ := Nat.le_trans hs6 bz.size
        try dsimp only
        refine hK.out _ _ (by first | exact ⟨DZ.c 9 (by decide), ceZ⟩ | exact ⟨D'.c 9 (by decide), ce'⟩) (fun hHeld => ?_)
        clear hK K
        try simp only [Act.put, List.setIfInBounds_toArray, List.set_cons_zero, List.set_cons_succ]
        refine callL (i := 10) (by kernel_rfl) rfl (by rfl) (fun K hK => ?_)
        go_simp
        try dsimp only
        refine hK.out _ _ (by first | exact ⟨DZ.c 9 (by decide), ceZ⟩ | exact ⟨D'.c 9 (by decide), ce'⟩) (fun hHeld => ?_)
        clear hK K
        try simp only [Act.put, List.setIfInBounds_toArray, List.set_cons_zero, List.set_cons_succ]
        refine callL (i := 11) (by kernel_rfl) rfl (by rfl) (fun K hK => ?_)
        go_simp
        try dsimp only
        refine hK.out _ _ (by first | exact ⟨DZ.c 9 (by decide), ceZ⟩ | exact ⟨D'.c 9 (by decide), ce'⟩) (fun hHeld => ?_)
        clear hK K
        try simp only [Act.put, List.setIfInBounds_toArray, List.set_cons_zero, List.set_cons_succ]
        refine wpAnyH_done (by kernel_rfl) ?_ _
        have HO : Hid (Own KU (w6.setCell ⟨N + 1 + 1, 9, none⟩ (.slice a6 m6 c6)) (N + 3) (.slice a6 m6 c6) (nums (V.take (j + 1)))) := (by show Own KU _ _ _ _; rw [HST.out]; exact ownZ)
        have HB := Lib.hid belZ
        clear own6 gr6 b6 D' X' Y' bel' bz ownZ belZ ce' ceZ cam own' q9 q9f b4 hs4 hs6 hHeld
        generalize w6.setCell ⟨N + 1 + 1, 9, none⟩ (.slice a6 m6 c6) = w7 at *
        go_wp2_with fail
        go_roundw
        case rel => exact ⟨j + 1, a6, m6, c6, by go_num, by omega, DZ, XZ, YZ, HO.out, hsZ, HB.out⟩
        case measure => simp [intOf]; omega
    · obtain rfl : j = nV := by omega
      rw [List.take_of_length_le (by rw [HVL.out]; exact Nat.le_refl _)] at own
      obtain ⟨c0, c1, c2, c3, c4, c5, c6, c7, c8, c9', c10⟩ := Y.cells
      obtain ⟨x0, x1, x2, x3, x4, x5, x6, x7, x8, x9, x10⟩ := X.cells
      obtain ⟨y0, y1, y2, y3, y4, y5, y6, y7, y8, y9, y10⟩ := X.frs
      obtain ⟨fv, fb⟩ := put11_facts k c b t d l p r q (.slice a m cc) (.slice aT nT cT) X
      have HB := Lib.hid (bel.trans (fb.below (by have := HN.out; omega) bel.size))
      have HO := Lib.hid ((own.but fb (by omega)).base (show w.heap.size ≤ N + 3 by have := HN.out; omega))
      clear D Y X own bel fb hV
      go_wp2_with fail
      change bodyPost _ _ _ _ _ (put11 wr (N + 1) k c b t d l p r q (.slice a m cc) (.slice aT nT cT))
      clear c0 c1 c2 c3 c4 c5 c6 c7 c8 c9' c10 x0 x1 x2 x3 x4 x5 x6 x7 x8 x9 x10 y0 y1 y2 y3 y4 y5 y6 y7 y8 y9 y10
      generalize put11 wr (N + 1) k c b t d l p r q (.slice a m cc) (.slice aT nT cT) = w9 at *
      obtain ⟨c0, c1, c2, c3, c4, c5, c6, c7, c8, c9', c10⟩ := fv.cells
      refine bodyPost_ret (v := ds k c b t d l p r q (.slice a m cc) (.slice aT nT cT)) (by simp [ds, results, Try.results14, go_sem, c0, c1, c2, c3, c4, c5, c6, c7, c8, c9', c10]) rfl ?_
      exact ⟨⟨_, rfl, HO.out⟩, HB.out⟩
end Go.Proofs.Ytbmbgfmhejahjaa
