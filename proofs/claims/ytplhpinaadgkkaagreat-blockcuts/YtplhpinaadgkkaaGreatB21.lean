/-
  The program's small functions of layer 6: which numbers are vertices, whether all are, and how a vertex goes.
  The program's Delete and Contract keep their contracts.
  The program's blocks and cuts of a graph keep their contract (layer 7).
  What the program's walks stand on: isVertex, marked.
-/
import Derived.Test.YtplhpinaadgkkaaGreatB20
import Derived.Test.YtplhpinaadgkkaaGreatB18
import Derived.Test.YtplhpinaadgkkaaGreatB09
import Derived.Test.YtplhpinaadgkkaaGreatB07
import Derived.Test.YtplhpinaadgkkaaGreatB04
import Derived.Test.YtplhpinaadgkkaaGreatB12
import Derived.Test.YtplhpinaadgkkaaGreatB17
import Derived.Test.YtplhpinaadgkkaaGreatB11
import Derived.Test.YtplhpinaadgkkaaGreatB13
namespace Go.Proofs.YtplhpinaadgkkaaGreat
open Go.RowKit Go.Lib

theorem ren_ok {n N : Int} {f : Int → Int} {es : List (Int × Int)} {er N' : Int} {E : List (Int × Int)} (hR : RightG n es) (h0 : 0 ≤ N) (h1 : N ≤ 1000) (hf : ∀ v, 0 ≤ v → v < n → f v = -1 ∨ (0 ≤ f v ∧ f v < N)) (h : RenS N f es er N' E) : er = 0 ∧ N' = N ∧ IsNorm (renL f es) E := by
  obtain ⟨e, h⟩ := h
  have hall := renL_all hR hf
  rcases h with ⟨h2, _⟩ | ⟨h2, _⟩ | ⟨_, h2, _⟩ | ⟨_, _, _, _, x, h2, h3⟩ | ⟨_, _, rfl, h4, _⟩
  · omega
  · omega
  · exact absurd hall h2
  · have := h2.len
    have := renL_len f es
    have := hR.2.2.1
    omega
  · exact ⟨rfl, e, h4⟩
set_option maxHeartbeats 1000000 in
theorem sub_isVertex_any (n v : Int) (a : Option Addr) (N cap : Nat) (w : World) :
    Calls Tryz.prog 14 #[.agg #[.int .i64 n, .slice a N cap], .int .i64 v] w fun e w' => e = .returned (.bool (decide (0 ≤ v ∧ v < n))) ∧ Below w.heap.size w w' := by
  have o := heap_alloc_new w (.cells #[.int .i64 n, .slice a N cap] 26)
  have c0 := cell_of_heap o 0
  have hb := below_one w (.cells #[.int .i64 n, .slice a N cap] 26)
  have HB := hid hb
  clear hb o
  by_cases h0 : v < 0
  · have e0 : decide (0 ≤ v ∧ v < n) = false := decide_eq_false (by omega)
    rw [e0]
    have e1 : decide (v ≥ 0) = false := decide_eq_false (by omega)
    have e2 : decide (0 ≤ v) = false := decide_eq_false (by omega)
    have e3 : ¬ 0 ≤ v := by omega
    clear e0
    go_enter Tryz.func14, Tryz.ntmps14
    go_wp2
    go_ret
    exact ⟨rfl, HB.out⟩
  · have e1 : decide (v ≥ 0) = true := decide_eq_true (by omega)
    have e2 : decide (0 ≤ v) = true := decide_eq_true (by omega)
    have e3 : 0 ≤ v := by omega
    by_cases h1 : v < n
    · have e0 : decide (0 ≤ v ∧ v < n) = true := decide_eq_true (by omega)
      rw [e0]
      have e4 : decide (v < n) = true := decide_eq_true h1
      clear e0
      go_enter Tryz.func14, Tryz.ntmps14
      go_wp2
      go_ret
      exact ⟨rfl, HB.out⟩
    · have e0 : decide (0 ≤ v ∧ v < n) = false := decide_eq_false (by omega)
      rw [e0]
      have e4 : decide (v < n) = false := decide_eq_false h1
      clear e0
      go_enter Tryz.func14, Tryz.ntmps14
      go_wp2
      go_ret
      exact ⟨rfl, HB.out⟩
set_option maxHeartbeats 2000000 in
theorem closingUp_any (n out heir : Int) (a : Option Addr) (N cap : Nat) (w : World) (hn0 : 0 ≤ n) (hn : n ≤ 1000) :
    Calls Tryz.prog 16 #[.agg #[.int .i64 n, .slice a N cap], .int .i64 out, .int .i64 heir] w fun e w' => ∃ bo bh, e = .returned (.agg #[.int .i64 (n - 1), .func (.func 32) #[] #[.pointer (some ⟨bo, 0, none⟩), .pointer (some ⟨bh, 0, none⟩)]]) ∧ w'.cell? ⟨bo, 0, none⟩ = some (.int .i64 out) ∧ w'.cell? ⟨bh, 0, none⟩ = some (.int .i64 heir) ∧ Below w.heap.size w w' := by
  obtain ⟨W4, hW4⟩ := ex_eq ((((w.alloc (.cells #[.int .i64 n, .slice a N cap] 26)).alloc (.cells #[.int .i64 out] 3)).alloc (.cells #[.int .i64 heir] 3)).alloc (.cells #[.int .i64 0, .nilFunc] 49))
  have o0 : W4.heap[w.heap.size]? = some (.cells #[.int .i64 n, .slice a N cap] 26 (0, 0)) := by
    rw [hW4, alloc_at (by simp; omega), alloc_at (by simp; omega), alloc_at (by simp)]
    exact heap_alloc_new w _
  have o1 : W4.heap[w.heap.size + 1]? = some (.cells #[.int .i64 out] 3 (0, 0)) := by
    rw [hW4, alloc_at (by simp), alloc_at (by simp)]
    have h := heap_alloc_new (w.alloc (.cells #[.int .i64 n, .slice a N cap] 26)) (.cells #[.int .i64 out] 3)
    simpa using h
  have o2 : W4.heap[w.heap.size + 1 + 1]? = some (.cells #[.int .i64 heir] 3 (0, 0)) := by
    rw [hW4, alloc_at (by simp)]
    have h := heap_alloc_new ((w.alloc (.cells #[.int .i64 n, .slice a N cap] 26)).alloc (.cells #[.int .i64 out] 3)) (.cells #[.int .i64 heir] 3)
    simpa using h
  have o3 : W4.heap[w.heap.size + 1 + 1 + 1]? = some (.cells #[.int .i64 0, .nilFunc] 49 (0, 0)) := by
    have h := heap_alloc_new (((w.alloc (.cells #[.int .i64 n, .slice a N cap] 26)).alloc (.cells #[.int .i64 out] 3)).alloc (.cells #[.int .i64 heir] 3)) (.cells #[.int .i64 0, .nilFunc] 49)
    rw [← hW4] at h
    simpa using h
  have HB : Hid (Below w.heap.size w W4) := by
    show Below _ _ _
    rw [hW4]; exact (((((Below.refl _ w).alloc (Nat.le_refl _) _).alloc (by simp) _).alloc (by simp; omega) _).alloc (by simp; omega) _)
  have c0 := cell_of_heap o0 0
  have HO1 : Hid (W4.cell? ⟨w.heap.size + 1, 0, none⟩ = some (.int .i64 out)) := cell_of_heap o1 0
  have HO2 : Hid (W4.cell? ⟨w.heap.size + 1 + 1, 0, none⟩ = some (.int .i64 heir)) := cell_of_heap o2 0
  have z0 := cell_of_heap o3 0
  have z1 := cell_of_heap o3 1
  have zf0 := frozen_of_heap o3 0
  have zf1 := frozen_of_heap o3 1
  have q4 : IntKind.i64.wrap (n - 1) = n - 1 := by simp [IntKind.wrap, IntKind.bits, IntKind.signed]; omega
  have hsf := fun (a : Addr) (c : Array Value) (w : World) => run_store Tryz.prog w a (.func (.func 32) #[] c) .plain rfl
  have HW4 := hid hW4
  clear hW4 o0 o1 o2 o3
  go_enter Tryz.func16, Tryz.ntmps16
  go_upto_region 1 with fail
  rw [← HW4.out]
  clear HW4
  go_wp2

  refine bodyPost_ret (v := .agg #[.int .i64 (n - 1), .func (.func 32) #[] #[.pointer (some ⟨w.heap.size + 1, 0, none⟩), .pointer (some ⟨w.heap.size + 1 + 1, 0, none⟩)]]) ?_ rfl ⟨w.heap.size + 1, w.heap.size + 1 + 1, rfl, ?_, ?_, ?_⟩
  · rw [results_cell1 rfl]
    go_simp
  · rw [World.cell?_setCell_other _ _ _ _ (by simp), World.cell?_setCell_other _ _ _ _ (by simp)]; exact HO1.out
  · rw [World.cell?_setCell_other _ _ _ _ (by simp), World.cell?_setCell_other _ _ _ _ (by simp)]; exact HO2.out
  · exact (HB.out.setCell (p := ⟨w.heap.size + 1 + 1 + 1, 0, none⟩) (by simp; omega) _).setCell (p := ⟨w.heap.size + 1 + 1 + 1, 1, none⟩) (by simp; omega) _
end Go.Proofs.YtplhpinaadgkkaaGreat
namespace Go.Proofs.YtplhpinaadgkkaaGreat
open Go.RowKit Go.Lib

theorem SubTold.imp {S S' : Int → Int → List (Int × Int) → Prop} {w w' : World} {v : Value} (h : SubTold S w w' v) (i : ∀ er N E, S er N E → S' er N E) : SubTold S' w w' v := by
  obtain ⟨er, N, E, a', cap', h1, h2, h3⟩ := h
  exact ⟨er, N, E, a', cap', h1, i _ _ _ h2, h3⟩
theorem del_of_ren {m V : Nat} {es : List (Int × Int)} {er N : Int} {E : List (Int × Int)} (hR : RightG m es) (hv : V < m) (h : RenS ((m : Int) - 1) (fC V (-1)) es er N E) : DelS m es V er N E := by
  obtain ⟨rfl, rfl, h3⟩ := ren_ok hR (by omega) (by have := hR.2.1; omega) (fC_in (Or.inl rfl) hv) h
  exact Or.inr (Or.inr ⟨hR, by omega, rfl, rfl, by simpa using ren_ind hR (othL_nodup _ _) (fC_place hv) h3⟩)
/-- The edges, when out goes to heir. -/
theorem ren_closed_any (m out : Nat) (heir : Int) (a : Option Addr) (cap : Nat) (es : List (Int × Int)) (bo bh : Nat) (X : World) (hN : es.length ≤ 1000000) (hR : RightG m es) (hE : EAt X a es) (ho : X.cell? ⟨bo, 0, none⟩ = some (.int .i64 out)) (hh : X.cell? ⟨bh, 0, none⟩ = some (.int .i64 heir)) :
    Calls Tryz.prog 15 #[.agg #[.int .i64 m, .slice a es.length cap], .agg #[.int .i64 ((m : Int) - 1), .func (.func 32) #[] #[.pointer (some ⟨bo, 0, none⟩), .pointer (some ⟨bh, 0, none⟩)]]] X fun e w' => ∃ u, e = .returned u ∧ SubTold (RenS ((m : Int) - 1) (fC out heir) es) X w' u :=
  ren_closed m ((m : Int) - 1) a cap es (fC out heir) bo bh X hN hE (fun e he => by have := hR.2.2.2.1 e he; omega) (fun X' x h0 h1 hX' => by
    obtain ⟨k, rfl⟩ : ∃ k : Nat, x = k := ⟨x.toNat, by omega⟩
    exact closed_any out bo bh k heir X' (by have := hR.2.1; omega) ((hX'.cell (p := ⟨bo, 0, none⟩) (block_lt_of_cell ho)).trans ho) ((hX'.cell (p := ⟨bh, 0, none⟩) (block_lt_of_cell hh)).trans hh))

set_option maxHeartbeats 4000000 in
set_option maxRecDepth 100000 in
theorem sub_del_any (n : Int) (a : Option Addr) (cap : Nat) (es : List (Int × Int)) (v : Int) (b : Bool) (w : World) (hN : es.length ≤ 1000000) (hE : EAt w a es) (hb : b = true ↔ RightG n es) :
    Calls Tryz.prog 6 #[.agg #[.int .i64 n, .slice a es.length cap], .int .i64 v] w fun e w' => ∃ u, e = .returned u ∧ SubTold (DelS n es v) w w' u := by
  obtain ⟨N, hNe⟩ := ex_eq es.length
  obtain ⟨W, hW, hsW, hO0, hO1, hbW⟩ := new_two w (.cells #[.int .i64 n, .slice a N cap] 26) (.cells #[.int .i64 0, .slice none 0 0] 26)
  have HGC : Hid (∀ X, Below W.heap.size W X → GC X w.heap.size n a N cap es ∧ Below w.heap.size w X ∧ X.heap[w.heap.size + 1]? = some (.cells #[.int .i64 0, .slice none 0 0] 26 (0, 0))) := fun X hX => by
    have o := (hX.block _ (by omega)).trans hO0
    have o1 := (hX.block (w.heap.size + 1) (by omega)).trans hO1
    have hbx : Below w.heap.size w X := hbW.trans (hX.mono (by omega))
    exact ⟨⟨cell_of_heap o 0, cell_of_heap o 1, hE.below hbx⟩, hbx, o1⟩
  have CR : Hid (∀ X, Below W.heap.size W X → Calls Tryz.prog 13 #[.agg #[.int .i64 n, .slice a N cap]] X fun e w' => e = .returned (.bool b) ∧ Below X.heap.size X w') := fun X hX => by
    rw [hNe]; exact right_any n a cap es b X hN (HGC.out X hX).1.at_ hb
  have CV : Hid (∀ v X, Calls Tryz.prog 14 #[.agg #[.int .i64 n, .slice a N cap], .int .i64 v] X fun e w' => e = .returned (.bool (decide (0 ≤ v ∧ v < n))) ∧ Below X.heap.size X w') := fun v X => sub_isVertex_any n v a N cap X
  have CRN : Hid (∀ (m out : Nat) (heir : Int) bo bh X, n = m → RightG n es → GC X w.heap.size n a N cap es → X.cell? ⟨bo, 0, none⟩ = some (.int .i64 out) → X.cell? ⟨bh, 0, none⟩ = some (.int .i64 heir) → Calls Tryz.prog 15 #[.agg #[.int .i64 m, .slice a N cap], .agg #[.int .i64 ((m : Int) - 1), .func (.func 32) #[] #[.pointer (some ⟨bo, 0, none⟩), .pointer (some ⟨bh, 0, none⟩)]]] X fun e w' => ∃ u, e = .returned u ∧ SubTold (RenS ((m : Int) - 1) (fC out heir) es) X w' u) := fun m out heir bo bh X hm hR hX ho hh => by
    rw [hNe]; subst hm; exact ren_closed_any m out heir a cap es bo bh X hN hR hX.at_ ho hh
  have HBB := hid hb
  have HW := hid hW
  have HZ : Hid (∀ X, Below w.heap.size w X → Below w.heap.size w ((X.setCell ⟨w.heap.size + 1, 0, none⟩ (.int .i64 0)).setCell ⟨w.heap.size + 1, 1, none⟩ (.slice none 0 0))) := fun X hX => (hX.setCell (p := ⟨w.heap.size + 1, 0, none⟩) (by simp) _).setCell (p := ⟨w.heap.size + 1, 1, none⟩) (by simp) _
  rw [← hNe]
  clear hNe hW hO0 hO1 hbW hE hb hN
  go_enter Tryz.func6, Tryz.ntmps6
  go_wp2_with fail
  rw [← HW.out]
  refine (CR.out W (Below.refl _ _)).mono ?_
  rintro e w1 ⟨rfl, hb1⟩
  obtain ⟨hg1, hbw1, ho1⟩ := HGC.out w1 hb1
  have HB1 := hid hb1
  have HBw1 := hid hbw1
  have z0 := cell_of_heap ho1 0
  have z1 := cell_of_heap ho1 1
  have zf0 := frozen_of_heap ho1 0
  have zf1 := frozen_of_heap ho1 1
  obtain ⟨g0, g1⟩ := hg1.cells
  have HG1 := hid hg1
  clear CR hb1 hbw1 HW hg1 ho1
  cases b with
  | false =>
    have HNR : Hid (DelS n es v 1 0 []) := Or.inl ⟨(fun h => by have := HBB.out.2 h; cases this), rfl, rfl, rfl⟩
    clear HBB
    go_wp2
    refine bodyPost_ret (v := .tuple #[.agg #[.int .i64 0, .slice none 0 0], .int .i64 1]) ?_ rfl ⟨_, rfl, subTold_none HNR.out (HZ.out _ HBw1.out)⟩
    rw [results_cell_tmp rfl]
    go_simp
  | true =>
    have HRG := hid (HBB.out.1 rfl)
    clear HBB
    have CV1 := hid (CV.out v w1)
    obtain ⟨r, hr⟩ := ex_eq (decide (0 ≤ v ∧ v < n))
    rw [← hr] at CV1
    have HRV := hid hr
    clear hr CV z0 z1 zf0 zf1
    go_wp2_with fail
    refine CV1.out.mono ?_
    rintro e w2 ⟨rfl, hb2⟩
    have hbW2 : Below W.heap.size W w2 := HB1.out.trans (hb2.mono HB1.out.size)
    obtain ⟨hg2, hbw2, ho2⟩ := HGC.out w2 hbW2
    have HB2 := hid hbW2
    have HBw2 := hid hbw2
    clear CV1 hb2 hbW2 hbw2 HB1 HBw1 HG1 g0 g1
    cases r with
    | false =>
      have z0 := cell_of_heap ho2 0
      have z1 := cell_of_heap ho2 1
      have zf0 := frozen_of_heap ho2 0
      have zf1 := frozen_of_heap ho2 1
      have HNR : Hid (DelS n es v 4 0 []) := Or.inr (Or.inl ⟨HRG.out, of_decide_eq_false HRV.out.symm, rfl, rfl, rfl⟩)
      clear ho2 hg2 HRV
      go_wp2
      refine bodyPost_ret (v := .tuple #[.agg #[.int .i64 0, .slice none 0 0], .int .i64 4]) ?_ rfl ⟨_, rfl, subTold_none HNR.out (HZ.out _ HBw2.out)⟩
      rw [results_cell_tmp rfl]
      go_simp
    | true =>
      have hv : 0 ≤ v ∧ v < n := of_decide_eq_true HRV.out.symm
      obtain ⟨m, rfl⟩ : ∃ m : Nat, n = m := ⟨n.toNat, by have := HRG.out.1; omega⟩
      obtain ⟨V, rfl⟩ : ∃ V : Nat, v = V := ⟨v.toNat, by omega⟩
      have hVm : V < m := by omega
      have hm : m ≤ 1000 := by have := HRG.out.2.1; omega
      have HDEF : Hid (∀ er N E, RenS ((m : Int) - 1) (fC V (-1)) es er N E → DelS m es V er N E) := fun er N E h => del_of_ren HRG.out hVm h
      have hBd : Below W.heap.size W w2.drew := HB2.out.drew
      have HS5 : Hid (∀ w5, Below w2.drew.heap.size w2.drew w5 → w5.cell? ⟨w.heap.size, 0, none⟩ = some (.int .i64 m) ∧ w5.cell? ⟨w.heap.size, 1, none⟩ = some (.slice a N cap)) := fun w5 h5 => ((HGC.out w5 (hBd.trans (h5.mono hBd.size))).1).cells
      have HZC : Hid (∀ w5, Below w2.drew.heap.size w2.drew w5 → w5.cell? ⟨w.heap.size + 1, 0, none⟩ = some (.int .i64 0) ∧ w5.cell? ⟨w.heap.size + 1, 1, none⟩ = some (.slice none 0 0) ∧ w5.frozen? ⟨w.heap.size + 1, 0, none⟩ = false ∧ w5.frozen? ⟨w.heap.size + 1, 1, none⟩ = false) := fun w5 h5 => by
        have o := (HGC.out w5 (hBd.trans (h5.mono hBd.size))).2.2
        exact ⟨cell_of_heap o 0, cell_of_heap o 1, frozen_of_heap o 0, frozen_of_heap o 1⟩
      have HZO : Hid (∀ w5, Below w2.drew.heap.size w2.drew w5 → w5.heap[w.heap.size + 1]? = some (.cells #[.int .i64 0, .slice none 0 0] 26 (0, 0))) := fun w5 h5 => (HGC.out w5 (hBd.trans (h5.mono hBd.size))).2.2
      have HBx : Hid (∀ w5, Below w2.drew.heap.size w2.drew w5 → Below w.heap.size w w5) := fun w5 h5 => (HGC.out w5 (hBd.trans (h5.mono hBd.size))).2.1
      have CO : Hid (∀ X, Calls Tryz.prog 16 #[.agg #[.int .i64 m, .slice a N cap], .int .i64 V, .int .i64 (-1)] X fun e w' => ∃ bo bh, e = .returned (.agg #[.int .i64 ((m : Int) - 1), .func (.func 32) #[] #[.pointer (some ⟨bo, 0, none⟩), .pointer (some ⟨bh, 0, none⟩)]]) ∧ w'.cell? ⟨bo, 0, none⟩ = some (.int .i64 V) ∧ w'.cell? ⟨bh, 0, none⟩ = some (.int .i64 (-1)) ∧ Below X.heap.size X w') := fun X => closingUp_any m V (-1) a N cap X (by omega) (by omega)
      have CI : Hid (∀ bo bh X, Below w2.drew.heap.size w2.drew X → X.cell? ⟨bo, 0, none⟩ = some (.int .i64 V) → X.cell? ⟨bh, 0, none⟩ = some (.int .i64 (-1)) → Calls Tryz.prog 15 #[.agg #[.int .i64 m, .slice a N cap], .agg #[.int .i64 ((m : Int) - 1), .func (.func 32) #[] #[.pointer (some ⟨bo, 0, none⟩), .pointer (some ⟨bh, 0, none⟩)]]] X fun e w' => ∃ u, e = .returned u ∧ SubTold (RenS ((m : Int) - 1) (fC V (-1)) es) X w' u) := fun bo bh X hX ho hh =>
        CRN.out m V (-1) bo bh X rfl HRG.out (HGC.out X (hBd.trans (hX.mono hBd.size))).1 ho hh
      have HS7 : Hid (∀ w5, Below w2.drew.heap.size w2.drew w5 → ∀ x y, ((w5.setCell ⟨w.heap.size + 1, 0, none⟩ x).setCell ⟨w.heap.size + 1, 1, none⟩ y).cell? ⟨w.heap.size, 0, none⟩ = some (.int .i64 m) ∧ ((w5.setCell ⟨w.heap.size + 1, 0, none⟩ x).setCell ⟨w.heap.size + 1, 1, none⟩ y).cell? ⟨w.heap.size, 1, none⟩ = some (.slice a N cap)) := fun w5 h5 x y => by
        rw [World.cell?_setCell_other _ _ _ _ (by simp), World.cell?_setCell_other _ _ _ _ (by simp), World.cell?_setCell_other _ _ _ _ (by simp), World.cell?_setCell_other _ _ _ _ (by simp)]
        exact HS5.out w5 h5
      clear CRN hBd hg2 ho2 HRV hv
      go_upto_region 5 with fail
      refine wp_region_held_drew (S := (fun X => X.cell? ⟨w.heap.size, 0, none⟩ = some (.int .i64 m) ∧ X.cell? ⟨w.heap.size, 1, none⟩ = some (.slice a N cap))) (by kernel_rfl) (HS5.out w2.drew (Below.refl _ _)) (fun hHeld => ?_)
      (refine takeW (i := 0) (dst := some 17) (v := ?_) rfl rfl (by kernel_rfl) (by kernel_rfl) (by kernel_rfl) (fun _ _ _ h => h) (Or.inl ⟨by rfl, ?_⟩) hHeld ?_; rotate_left; focus (intro w hSw; (try dsimp only at hSw); go_simp; (try with_reducible rfl); done))
      try simp only [Act.put, List.setIfInBounds_toArray, List.set_cons_zero, List.set_cons_succ]
      (refine takeW (i := 1) (dst := some 18) (v := ?_) rfl rfl (by kernel_rfl) (by kernel_rfl) (by kernel_rfl) (fun _ _ _ h => h) (Or.inl ⟨by rfl, ?_⟩) hHeld ?_; rotate_left; focus (intro w hSw; (try dsimp only at hSw); go_simp; (try with_reducible rfl); done))
      try simp only [Act.put, List.setIfInBounds_toArray, List.set_cons_zero, List.set_cons_succ]
      (refine takeW (i := 2) (dst := some 19) (v := ?_) rfl rfl (by kernel_rfl) (by kernel_rfl) (by kernel_rfl) (fun _ _ _ h => h) (Or.inl ⟨by rfl, ?_⟩) hHeld ?_; rotate_left; focus (intro w hSw; (try dsimp only at hSw); go_simp; (try with_reducible rfl); done))
      try simp only [Act.put, List.setIfInBounds_toArray, List.set_cons_zero, List.set_cons_succ]
      refine wpAnyH_ready (rs := [3]) (by kernel_rfl) (by simp) ?_
      refine AllReadyH.cons (o := _) rfl (fun KK hK => ?_) AllReadyH.nil
      go_simp
      refine (CO.out _).mono ?_
      rintro e w5 ⟨bo, bh, rfl, ho5, hh5, hb5⟩
      have hS5 := HS5.out w5 hb5
      have HO5 := hid ho5
      have HH5 := hid hh5
      have HB5 := hid hb5
      refine hK.out _ _ hS5 (fun hHeld => ?_)
      clear hK KK
      try simp only [Act.put]
      try simp only [List.setIfInBounds_toArray]
      try simp only [List.set_cons_succ]
      try simp only [List.set_cons_zero]
      refine wpAnyH_ready (rs := [4]) (by kernel_rfl) (by simp) ?_
      refine AllReadyH.cons (o := _) rfl (fun KK hK => ?_) AllReadyH.nil
      go_simp
      refine (CI.out bo bh w5 HB5.out HO5.out HH5.out).mono ?_
      rintro e w6 ⟨v6, rfl, ht6⟩
      obtain ⟨er, N6, E6, a6, c6, rfl, hs6, hsl6, hea6, hb6⟩ := ht6
      have hb56 := HB5.out.trans (hb6.mono HB5.out.size)
      have hS6 := HS5.out w6 hb56
      have HS6 := hid hs6
      have HSL6 := hid hsl6
      have HEA6 := hid hea6
      have HB6 := hid hb56
      obtain ⟨z0, z1, zf0, zf1⟩ := HZC.out w6 hb56
      refine hK.out _ _ hS6 (fun hHeld => ?_)
      clear hK KK
      try simp only [Act.put]
      try simp only [List.setIfInBounds_toArray]
      try simp only [List.set_cons_succ]
      try simp only [List.set_cons_zero]
      (refine takeW (i := 5) (dst := some 22) (v := ?_) rfl rfl (by kernel_rfl) (by kernel_rfl) (by kernel_rfl) (fun _ _ _ h => h) (Or.inl ⟨by rfl, ?_⟩) hHeld ?_; rotate_left; focus (intro w hSw; (try dsimp only at hSw); go_simp; (try with_reducible rfl); done))
      try simp only [Act.put, List.setIfInBounds_toArray, List.set_cons_zero, List.set_cons_succ]
      (refine takeW (i := 6) (dst := some 23) (v := ?_) rfl rfl (by kernel_rfl) (by kernel_rfl) (by kernel_rfl) (fun _ _ _ h => h) (Or.inl ⟨by rfl, ?_⟩) hHeld ?_; rotate_left; focus (intro w hSw; (try dsimp only at hSw); go_simp; (try with_reducible rfl); done))
      try simp only [Act.put, List.setIfInBounds_toArray, List.set_cons_zero, List.set_cons_succ]
      refine wpAnyH_ready (rs := [7]) (by kernel_rfl) (by simp) ?_
      refine AllReadyH.cons (o := _) rfl (fun KK hK => ?_) AllReadyH.nil
      go_simp
      refine hK.out _ _ (HS7.out w6 HB6.out _ _) (fun hHeld => ?_)
      clear hK KK
      try simp only [Act.put]
      try simp only [List.setIfInBounds_toArray]
      try simp only [List.set_cons_succ]
      try simp only [List.set_cons_zero]
      (refine takeW (i := 8) (dst := some 5) (v := ?_) rfl rfl (by kernel_rfl) (by kernel_rfl) (by kernel_rfl) (fun _ _ _ h => h) (Or.inl ⟨by rfl, ?_⟩) hHeld ?_; rotate_left; focus (intro w hSw; (try dsimp only at hSw); go_simp; (try with_reducible rfl); done))
      try simp only [Act.put]
      try simp only [List.setIfInBounds_toArray]
      try simp only [List.set_cons_succ]
      try simp only [List.set_cons_zero]
      refine wpAnyH_done (by kernel_rfl) ?_ _

      have HDS : Hid (DelS m es V er N6 E6) := HDEF.out _ _ _ HS6.out
      have HBw6 := hid (HBx.out w6 HB6.out)
      have HNE6 := hid (eat_off_box (HZO.out w6 HB6.out) HEA6.out)
      clear hHeld hS5 hS6 hb6 hb56 ho5 hh5 hb5 hs6 hsl6 hea6 HS5 HZC HZO HBx CI HS7 CO HO5 HH5 HB5 HB6 HS6
      go_wp2
      refine bodyPost_ret (v := .tuple #[.agg #[.int .i64 N6, .slice a6 E6.length c6], .int .i64 er]) ?_ rfl ⟨_, rfl, er, N6, E6, a6, c6, rfl, HDS.out, HSL6.out, ?_, ?_⟩
      · rw [results_cell_tmp rfl]
        go_simp
      · have hne : ∀ g off, 0 < E6.length → a6 = some ⟨g, off, none⟩ → g ≠ w.heap.size + 1 := HNE6.out
        exact (HEA6.out.set (p := ⟨w.heap.size + 1, 0, none⟩) hne _).set (p := ⟨w.heap.size + 1, 1, none⟩) hne _
      · exact (HBw6.out.setCell (p := ⟨w.heap.size + 1, 0, none⟩) (by simp) _).setCell (p := ⟨w.heap.size + 1, 1, none⟩) (by simp) _

end Go.Proofs.YtplhpinaadgkkaaGreat
namespace Go.Proofs.YtplhpinaadgkkaaGreat
open Go.RowKit Go.Lib

theorem flat_count {LL : List (List Int)} (hnd : ∀ L ∈ LL, L.Nodup) (v : Nat) : LL.flatten.count (v : Int) = (atL LL v).length := by
  induction LL with
  | nil => simp [atL]
  | cons L LL ih =>
    have h2 := ih (fun M hM => hnd M (List.mem_cons_of_mem _ hM))
    have h1 := hnd L (by simp)
    unfold atL at h2 ⊢
    rw [List.flatten_cons, List.count_append, h2, List.filter_cons]
    by_cases h : (v : Int) ∈ L
    · rw [if_pos (decide_eq_true h), List.Nodup.count h1, if_pos h, List.length_cons]; omega
    · rw [if_neg (by simpa using h), List.count_eq_zero.2 h]; omega
theorem sev_cuts {m : Nat} {es : List (Int × Int)} {Bs : List (List Int)} (hR : RightG m es) (hB : BlocksL es Bs) : CutsL es (sevL m Bs) := by
  refine cuts_of hR hB ?_ (fun v => ?_)
  · unfold sevL
    rw [List.pairwise_map]
    exact (List.pairwise_lt_range.filter _).imp (fun h => by omega)
  · have hnd : ∀ L ∈ Bs, L.Nodup := fun L hL => by
      rw [List.nodup_iff_pairwise_ne]
      exact ((hB.is L).1 hL).1.imp (fun h => by omega)
    unfold sevL
    simp only [List.mem_map, List.mem_filter, List.mem_range, decide_eq_true_eq]
    constructor
    · rintro ⟨i, ⟨h1, h2⟩, rfl⟩
      rw [flat_count hnd] at h2
      exact ⟨by omega, h2⟩
    · rintro ⟨h1, h2⟩
      refine ⟨v.toNat, ⟨by omega, ?_⟩, by omega⟩
      rw [flat_count hnd]; exact h2

theorem iat_off_tree {w : World} {B : Nat} {T : TypeId} {fr : Nat × Nat} {a : Option Addr} {xs : List Int} (hB : w.heap[B]? = some (.cells #[.slice none 0 0, .slice none 0 0] T fr)) (h : IAt w a xs) : ∀ g off, a = some ⟨g, off, none⟩ → 0 < xs.length → ¬ g = B := fun g off ha h0 e => by
  subst e
  obtain ⟨g', off', ha', _, hc⟩ := h h0
  rw [ha] at ha'
  simp only [Option.some.injEq, Addr.mk.injEq, and_true] at ha'
  obtain ⟨rfl, rfl⟩ := ha'
  have h1 := hc 0 h0
  rw [cell_of_heap hB] at h1
  match off, h1 with
  | 0, h1 => simp at h1
  | 1, h1 => simp at h1
  | k + 2, h1 => simp at h1
theorem llat_off_tree {w : World} {B : Nat} {T : TypeId} {fr : Nat × Nat} {a : Option Addr} {LL : List (List Int)} (hB : w.heap[B]? = some (.cells #[.slice none 0 0, .slice none 0 0] T fr)) (hne : ∀ L ∈ LL, 0 < L.length) (h : LLAt w a LL) {w' : World} (hk : KeptBut (fun k => k = B) w w') : LLAt w' a LL := fun h0 => by
  obtain ⟨g, off, ha, hg, hc⟩ := h h0
  have hgB : ¬ g = B := fun e => by
    subst e
    obtain ⟨ak, ck, h1, _⟩ := hc 0 h0
    have hl := hne LL[0] (List.getElem_mem _)
    rw [cell_of_heap hB] at h1
    match off, h1 with
    | 0, h1 => simp at h1; omega
    | 1, h1 => simp at h1; omega
    | k + 2, h1 => simp at h1
  refine ⟨g, off, ha, Nat.lt_of_lt_of_le hg hk.size, fun k hk' => ?_⟩
  obtain ⟨ak, ck, h1, h2⟩ := hc k hk'
  exact ⟨ak, ck, (hk.cell (p := ⟨g, off + k, none⟩) hg hgB).trans h1, h2.kept hk (iat_off_tree hB h2)⟩
set_option maxHeartbeats 4000000 in
set_option maxRecDepth 100000 in
theorem blkOf_any (n : Int) (a : Option Addr) (cap : Nat) (es : List (Int × Int)) (b : Bool) (w : World) (hN : es.length ≤ 1000000) (hE : EAt w a es) (hb : b = true ↔ RightG n es) :
    Calls Tryz.prog 8 #[.agg #[.int .i64 n, .slice a es.length cap]] w fun e w' => ∃ v, e = .returned v ∧ TreeTold n es w w' v := by
  obtain ⟨N, hNe⟩ := ex_eq es.length
  obtain ⟨W, hW, hsW, hO0, hO1, hbW⟩ := new_two w (.cells #[.int .i64 n, .slice a N cap] 26) (.cells #[.slice none 0 0, .slice none 0 0] 35)
  have HGC : Hid (∀ X, Below W.heap.size W X → GC X w.heap.size n a N cap es ∧ Below w.heap.size w X ∧ X.heap[w.heap.size + 1]? = some (.cells #[.slice none 0 0, .slice none 0 0] 35 (0, 0))) := fun X hX => by
    have o := (hX.block _ (by omega)).trans hO0
    have o1 := (hX.block (w.heap.size + 1) (by omega)).trans hO1
    have hbx : Below w.heap.size w X := hbW.trans (hX.mono (by omega))
    exact ⟨⟨cell_of_heap o 0, cell_of_heap o 1, hE.below hbx⟩, hbx, o1⟩
  have CR : Hid (∀ X, Below W.heap.size W X → Calls Tryz.prog 13 #[.agg #[.int .i64 n, .slice a N cap]] X fun e w' => e = .returned (.bool b) ∧ Below X.heap.size X w') := fun X hX => by
    rw [hNe]; exact right_any n a cap es b X hN (HGC.out X hX).1.at_ hb
  have CB : Hid (∀ (m : Nat) X, n = m → RightG n es → Below W.heap.size W X → Calls Tryz.prog 21 #[.int .i64 m, .slice a N cap] X fun e w' => ∃ u us LL, e = .returned u ∧ LLOwn w' X.heap.size (fun k => X.heap.size ≤ k) u us LL ∧ (∀ B, B ∈ LL ↔ IsBlk es B) ∧ LL.Nodup ∧ LL.length ≤ 1000 ∧ Below X.heap.size X w') := fun m X hm hR hX => by
    subst hm
    rw [hNe]; exact blocksOf_any m a cap es X (HGC.out X hX).1.at_ hR
  have HBB := hid hb
  have HW := hid hW
  have HZ : Hid (∀ X u v, Below w.heap.size w X → Below w.heap.size w ((X.setCell ⟨w.heap.size + 1, 0, none⟩ u).setCell ⟨w.heap.size + 1, 1, none⟩ v)) := fun X u v hX => (hX.setCell (p := ⟨w.heap.size + 1, 0, none⟩) (by simp) _).setCell (p := ⟨w.heap.size + 1, 1, none⟩) (by simp) _
  rw [← hNe]
  have HSW := hid hsW
  clear hNe hW hO0 hO1 hbW hE hb hN hsW
  go_enter Tryz.func8, Tryz.ntmps8
  go_wp2_with fail
  rw [← HW.out]
  refine (CR.out W (Below.refl _ _)).mono ?_
  rintro e w1 ⟨rfl, hb1⟩
  obtain ⟨hg1, hbw1, ho1⟩ := HGC.out w1 hb1
  have HB1 := hid hb1
  have HBw1 := hid hbw1
  have z0 := cell_of_heap ho1 0
  have z1 := cell_of_heap ho1 1
  have zf0 := frozen_of_heap ho1 0
  have zf1 := frozen_of_heap ho1 1
  clear CR hb1 hbw1 HW
  cases b with
  | false =>
    have HNR : Hid (OfRel n es [] []) := Or.inr ⟨(fun h => by have := HBB.out.2 h; cases this), rfl, rfl⟩
    clear HBB hg1 ho1 CB
    go_wp2
    refine bodyPost_ret (v := .agg #[.slice none 0 0, .slice none 0 0]) ?_ rfl ⟨_, rfl, [], [], none, 0, none, 0, rfl, HNR.out, iat_nil _ _, llat_nil _ _, HZ.out w1 _ _ HBw1.out⟩
    rw [results_cell1 rfl]
    go_simp
  | true =>
    have HRG := hid (HBB.out.1 rfl)
    obtain ⟨m, rfl⟩ : ∃ m : Nat, n = m := ⟨n.toNat, by have := HRG.out.1; omega⟩
    have hm : m ≤ 1000 := by have := HRG.out.2.1; omega
    have C2 := hid (CB.out m w1 rfl HRG.out HB1.out)
    obtain ⟨c0, c1⟩ := hg1.cells
    clear HBB hg1 ho1 z0 z1 zf0 zf1 CB
    go_wp2_with fail
    refine C2.out.mono ?_
    rintro e w2 ⟨u, us, LL, rfl, hown, hLL, hnd, hlen, hb2⟩
    have hbW2 : Below W.heap.size W w2 := HB1.out.trans (hb2.mono HB1.out.size)
    have hrl : ∀ L ∈ LL, L.length ≤ 1000 := fun L hL => by have := blk_len HRG.out ((hLL L).1 hL); omega
    obtain ⟨x, xc, rfl, CS⟩ := sortL_any hown hnd hlen (fun L hL => by have := hrl L hL; omega)
    have HCS := hid CS
    have HLL := hid hLL
    have HRL := hid hrl
    have HB2 := hid hbW2
    have HS1 : Hid (W.heap.size ≤ w1.heap.size ∧ w1.heap.size ≤ w2.heap.size) := ⟨HB1.out.size, hb2.size⟩
    obtain ⟨K, hK⟩ := ex_eq LL.length
    rw [← hK] at HCS ⊢
    have HK := hid hK
    clear CS hown hLL hnd hrl hbW2 hb2 C2 c0 c1 hK hlen
    go_wp2_with fail
    refine HCS.out.mono ?_
    rintro e w3 ⟨rfl, LL', hperm, hord, hll, hkeep⟩
    have hb3 : Below W.heap.size W w3 := hkeep _ _ HB2.out HS1.out.1 HB2.out.size
    obtain ⟨hg3, hbw3, ho3⟩ := HGC.out w3 hb3
    have hBs : BlocksL es LL' := ⟨fun B => (hperm.mem_iff).trans (HLL.out B), hord⟩
    have hl' : LL'.length = K := by rw [hperm.length_eq, HK.out]
    have hcon := sev_any m x xc LL' w3 hm (by have := blks_len HRG.out hBs; omega) (fun L hL => HRL.out L (hperm.mem_iff.1 hL)) (fun L hL => ((hBs.is L).1 hL).in HRG.out) hll
    rw [hl'] at hcon
    have C3 := hid hcon
    have HREL : Hid (OfRel m es (sevL m LL') LL') := Or.inl ⟨HRG.out, hBs, sev_cuts HRG.out hBs⟩
    have HLL3 := hid hll
    have HB3 := hid hb3
    have HL' := hid hl'
    obtain ⟨c0, c1⟩ := hg3.cells
    clear hcon hperm hord hkeep hbw3 hBs hl' hll HCS HLL HRL HB2 HB1 HBw1 hb3 ho3 hg3
    go_wp2_with fail
    refine C3.out.mono ?_
    rintro e w4 ⟨ca, cc, rfl, hca, hb4⟩
    have hb4W : Below W.heap.size W w4 := HB3.out.trans (hb4.mono HB3.out.size)
    obtain ⟨hg4, hbw4, ho4⟩ := HGC.out w4 hb4W
    have z0 := cell_of_heap ho4 0
    have z1 := cell_of_heap ho4 1
    have zf0 := frozen_of_heap ho4 0
    have zf1 := frozen_of_heap ho4 1
    have HCA := hid hca
    have HLL4 := hid (HLL3.out.below hb4)
    have HBw4 := hid hbw4
    have HO4 := hid ho4
    obtain ⟨Q, hQ⟩ := ex_eq (sevL m LL').length
    rw [← hQ]
    have HQ := hid hQ
    clear hb4 hb4W hg4 hbw4 ho4 hca HLL3 C3 c0 c1 hQ
    go_wp2
    refine bodyPost_ret (v := .agg #[.slice ca Q cc, .slice x K xc]) ?_ rfl ⟨_, rfl, sevL m LL', LL', ca, cc, x, xc, by rw [HQ.out, HL'.out], HREL.out, ?_, ?_, HZ.out w4 _ _ HBw4.out⟩
    · rw [results_cell1 rfl]
      go_simp
    · exact HCA.out.kept ((kept_set w4 ⟨w.heap.size + 1, 0, none⟩ _).trans (kept_set _ ⟨w.heap.size + 1, 1, none⟩ _)) (iat_off_tree HO4.out HCA.out)
    · exact llat_off_tree HO4.out (fun L hL => by
        rcases HREL.out with ⟨h1, h2, _⟩ | ⟨h1, _, _⟩
        · have := blk_two h1 ((h2.is L).1 hL); omega
        · exact absurd HRG.out h1) HLL4.out ((kept_set w4 ⟨w.heap.size + 1, 0, none⟩ _).trans (kept_set _ ⟨w.heap.size + 1, 1, none⟩ _))
end Go.Proofs.YtplhpinaadgkkaaGreat
namespace Go.Proofs.YtplhpinaadgkkaaGreat
open Go.RowKit Go.Lib

set_option maxHeartbeats 400000 in
theorem vtx_any (n v : Int) (r : Bool) (w : World) (hr : r = decide (0 ≤ v ∧ v < n)) :
    Calls Tryz.prog 71 #[.int .i64 n, .int .i64 v] w fun e w' => e = .returned (.bool r) ∧ w' = w := by
  by_cases h : 0 ≤ v
  · by_cases h2 : v < n
    · rw [decide_eq_true (by omega)] at hr
      subst hr
      go_enter Tryz.func71, Tryz.ntmps71
      go_wp2
      go_ret
      exact ⟨rfl, rfl⟩
    · rw [decide_eq_false (by omega)] at hr
      subst hr
      go_enter Tryz.func71, Tryz.ntmps71
      go_wp2
      go_ret
      exact ⟨rfl, rfl⟩
  · rw [decide_eq_false (by omega)] at hr
    subst hr
    go_enter Tryz.func71, Tryz.ntmps71
    go_wp2
    go_ret
    exact ⟨rfl, rfl⟩

/-- A row without doubles, of vertices alone, and not empty. -/
def GoodL (n : Int) (l : List Int) : Prop := l ≠ [] ∧ l.Nodup ∧ ∀ x ∈ l, 0 ≤ x ∧ x < n
/-- The first k of l are vertices, none twice. -/
def GoodTo (n : Int) (l : List Int) (k : Nat) : Prop := (l.take k).Nodup ∧ ∀ x ∈ l.take k, 0 ≤ x ∧ x < n
theorem take_next {l : List Int} {k : Nat} (h : k < l.length) : l.take (k + 1) = l.take k ++ [l[k]] := List.take_append_getElem h |>.symm
theorem goodTo_next {n : Int} {l : List Int} {k : Nat} (h : GoodTo n l k) (hk : k < l.length) (h1 : 0 ≤ l[k] ∧ l[k] < n) (h2 : l[k] ∉ l.take k) : GoodTo n l (k + 1) := by
  unfold GoodTo
  rw [take_next hk]
  refine ⟨List.nodup_append.2 ⟨h.1, by simp, fun y hy z hz => by simp at hz; subst hz; exact fun e => h2 (e ▸ hy)⟩, fun x hx => ?_⟩
  rcases List.mem_append.1 hx with hx | hx
  · exact h.2 x hx
  · simp at hx; subst hx; exact h1
theorem good_not_in {n : Int} {l : List Int} {k : Nat} (hk : k < l.length) (h : ¬ (0 ≤ l[k] ∧ l[k] < n)) : ¬ GoodL n l := fun hg => h (hg.2.2 _ (List.getElem_mem hk))
theorem good_not_twice {n : Int} {l : List Int} {k : Nat} (hk : k < l.length) (h : l[k] ∈ l.take k) : ¬ GoodL n l := fun hg => by
  obtain ⟨j, hj, e⟩ := List.getElem_of_mem h
  rw [List.length_take] at hj
  rw [List.getElem_take] at e
  exact List.pairwise_iff_getElem.1 hg.2.1 j k (by omega) hk (by omega) e
/-- What marked tells. -/
def MarkIs (m : Nat) (l : List Int) (w w' : World) (v : Value) : Prop :=
  (GoodL m l ∧ ∃ g, v = .tuple #[.slice (some ⟨g, 0, none⟩) m m, .bool true] ∧ w.heap.size ≤ g ∧ RowB w' g m (fun j => decide ((j : Int) ∈ l)) ∧ Below w.heap.size w w') ∨
  (¬ GoodL m l ∧ ∃ u, v = .tuple #[u, .bool false] ∧ Below w.heap.size w w')

set_option maxHeartbeats 1000000 in
set_option maxRecDepth 100000 in
theorem marked_any (m : Nat) (la : Option Addr) (lc : Nat) (l : List Int) (w : World) (hm : m ≤ 1000) (hL : l.length ≤ 1000000) (hI : IAt w la l) :
    Calls Tryz.prog 48 #[.int .i64 m, .slice la l.length lc] w fun e w' => ∃ v, e = .returned v ∧ MarkIs m l w w' v := by
  obtain ⟨M, hMe⟩ := ex_eq l.length
  obtain ⟨i0, hi, hz0, hz1, hz2⟩ := info_parts Tryz.info4
  obtain ⟨w2, hrun, hown, hgrow⟩ := run_make_full (P := Tryz.prog) w w.heap.size 82 4 i0 (.bool false) 1 Tryz.underlying82 hi hz0 hz1 .i64 .i64 m (by rw [hz2]; omega) (by unfold maxLen; omega) (Nat.le_refl _)
  have HRW : Hid (RowB w2 w.heap.size m (fun j => decide ((j : Int) ∈ l.take 0))) := (rowB_made hown).congr (fun j _ => by simp)
  have hb2 : Below w.heap.size w w2 := Below.grown (Below.refl _ _) hgrow (Nat.le_refl _) (fun k hk => by cases hk)
  have HI := hid hI
  have HM := hid hMe
  rw [← hMe] at hL ⊢
  clear hI hMe hown hgrow hi hz0 hz1 hz2
  go_enter Tryz.func48, Tryz.ntmps48
  go_wp2
  go_loopw [13] (fun i wr => ∃ k : Nat, k ≤ M ∧ i = .int .i64 k ∧ Hid (RowB wr w.heap.size m (fun j => decide ((j : Int) ∈ l.take k))) ∧ Hid (GoodTo m l k) ∧ Below w.heap.size w wr) (fun i _ => M - (RowKit.intOf i).toNat)
  case atStart => exact ⟨0, Nat.zero_le _, rfl, HRW, ⟨by simp, by simp⟩, hb2⟩
  case round =>
    obtain ⟨k, hk, rfl, hrow, hgd, hbr⟩ := hrel
    by_cases hlt : k < M
    · have hkr : k < l.length := by rw [← HM.out]; exact hlt
      obtain ⟨g, off, rfl, hgl, hcs⟩ := HI.out (by omega)
      have d0 := (hbr.cell (p := ⟨g, off + k, none⟩) hgl).trans (hcs k hkr)
      obtain ⟨x, hx⟩ := ex_eq l[k]
      rw [← hx] at d0
      have HX := hid hx
      clear hcs hx
      by_cases hin : 0 ≤ x ∧ x < m
      · obtain ⟨p, rfl⟩ : ∃ p : Nat, x = p := ⟨x.toNat, by omega⟩
        have hp : p < m := by omega
        have q1 : (p : Int) < (m : Int) := by omega
        have hv := vtx_any m p true wr (decide_eq_true hin).symm
        obtain ⟨r1, r1f⟩ := hrow.out.2 p hp
        by_cases hmem : (p : Int) ∈ l.take k
        · have e1 : decide ((p : Int) ∈ l.take k) = true := decide_eq_true hmem
          simp only [e1] at r1
          have HNG : Hid (¬ GoodL m l) := good_not_twice hkr (by rw [← HX.out]; exact hmem)
          clear e1 hmem hrow hgd hin
          go_wp2_with (go_at_call 71; refine hv.mono ?_; rintro e w' ⟨rfl, rfl⟩)
          go_ret2
          exact ⟨_, rfl, Or.inr ⟨HNG.out, _, rfl, hbr⟩⟩
        · have e1 : decide ((p : Int) ∈ l.take k) = false := decide_eq_false hmem
          simp only [e1] at r1
          have HNX : Hid (GoodTo m l (k + 1)) := goodTo_next hgd.out hkr (by rw [← HX.out]; exact hin) (by rw [← HX.out]; exact hmem)
          have HRX : Hid (RowB (wr.setCell ⟨w.heap.size, p, none⟩ (.bool true)) w.heap.size m (fun j => decide ((j : Int) ∈ l.take (k + 1)))) := (hrow.out.put hp true).congr (fun j _ => by
            rw [take_next hkr, ← HX.out]
            by_cases e : j = p
            · subst e; rw [if_pos rfl]; exact (decide_eq_true (by simp)).symm
            · rw [if_neg e]
              apply decide_eq_decide.2
              simp only [List.mem_append, List.mem_singleton]
              exact ⟨Or.inl, fun h => h.resolve_right (by omega)⟩)
          have hbX : Below w.heap.size w (wr.setCell ⟨w.heap.size, p, none⟩ (.bool true)) := hbr.setCell (p := ⟨w.heap.size, p, none⟩) (Nat.le_refl _) _
          clear e1 hmem hrow hgd hin
          go_wp2_with (go_at_call 71; refine hv.mono ?_; rintro e w' ⟨rfl, rfl⟩)
          go_roundw
          case rel => exact ⟨k + 1, by omega, by go_num, HRX, HNX, hbX⟩
          case measure => simp [RowKit.intOf]; omega
      · have hv := vtx_any m x false wr (decide_eq_false hin).symm
        have HNG : Hid (¬ GoodL m l) := good_not_in hkr (by rw [← HX.out]; exact hin)
        clear hin hrow hgd
        go_wp2_with (go_at_call 71; refine hv.mono ?_; rintro e w' ⟨rfl, rfl⟩)
        go_ret2
        exact ⟨_, rfl, Or.inr ⟨HNG.out, _, rfl, hbr⟩⟩
    · obtain rfl : k = M := by omega
      have htk : l.take k = l := by rw [HM.out, List.take_length]
      rw [htk] at hrow
      have hgd2 := hgd.out
      unfold GoodTo at hgd2
      rw [htk] at hgd2
      have HG2 := hid hgd2
      have HRow := hid hrow.out
      clear hgd2 hgd hrow
      by_cases h0 : k = 0
      · subst h0
        have HNG : Hid (¬ GoodL m l) := fun h => h.1 (List.length_eq_zero_iff.1 HM.out.symm)
        go_wp2
        go_ret2
        exact ⟨_, rfl, Or.inr ⟨HNG.out, _, rfl, hbr⟩⟩
      · have q0 : (0 : Int) < (k : Int) := by omega
        have HNE : Hid (l ≠ []) := fun e => h0 (by rw [HM.out, e]; rfl)
        go_wp2
        go_ret2
        exact ⟨_, rfl, Or.inl ⟨⟨HNE.out, HG2.out⟩, w.heap.size, (by simp <;> omega), Nat.le_refl _, HRow.out, hbr⟩⟩
end Go.Proofs.YtplhpinaadgkkaaGreat
