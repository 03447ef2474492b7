/-
  The program's Delete and Contract keep their contracts.
-/
import Derived.Test.YtlebimolgienkaaM25
import Derived.Test.YtlebimolgienkaaM24
import Derived.Test.YtlebimolgienkaaM06
import Derived.Test.YtlebimolgienkaaM10
import Derived.Test.YtlebimolgienkaaM05
import Derived.Test.YtlebimolgienkaaM18
namespace Go.Proofs.Ytlebimolgienkaa
open Go.RowKit Go.Lib

theorem SubTold.imp {S S' : Int → Int → List (Int × Int) → Prop} {w w' : World} {v : Value} (h : SubTold S w w' v) (i : ∀ er N E, S er N E → S' er N E) : SubTold S' w w' v := by
  obtain ⟨er, N, E, a', cap', h1, h2, h3⟩ := h
  exact ⟨er, N, E, a', cap', h1, i _ _ _ h2, h3⟩
theorem del_of_ren {m V : Nat} {es : List (Int × Int)} {er N : Int} {E : List (Int × Int)} (hR : RightG m es) (hv : V < m) (h : RenS ((m : Int) - 1) (fC V (-1)) es er N E) : DelS m es V er N E := by
  obtain ⟨rfl, rfl, h3⟩ := ren_ok hR (by omega) (by have := hR.2.1; omega) (fC_in (Or.inl rfl) hv) h
  exact Or.inr (Or.inr ⟨hR, by omega, rfl, rfl, by simpa using ren_ind hR (othL_nodup _ _) (fC_place hv) h3⟩)
theorem con_of_ren {m lo hi X Y : Nat} {es : List (Int × Int)} {er N : Int} {E : List (Int × Int)} (hR : RightG m es) (hX : X < m) (hY : Y < m) (hadj : Adj es X Y) (elo : lo = min X Y) (ehi : hi = max X Y) (h : RenS ((m : Int) - 1) (fC hi lo) es er N E) : ConS m es X Y er N E := by
  have hne := (hadj.in hR).2.2
  obtain ⟨rfl, rfl, h3⟩ := ren_ok hR (by omega) (by have := hR.2.1; omega) (fC_in (n := m) (v := hi) (heir := (lo : Int)) (Or.inr ⟨by omega, by omega⟩) (by omega)) h
  refine Or.inr (Or.inr (Or.inr ⟨hR, by omega, hadj, rfl, rfl, ?_⟩))
  have e1 : (min (X : Int) (Y : Int)).toNat = lo := by omega
  have e2 : (max (X : Int) (Y : Int)).toNat = hi := by omega
  rw [e1, e2]
  simpa using ren_con hR (show lo < hi by omega) (show hi < m by omega) h3
/-- The edges, when out goes to heir. -/
theorem ren_closed_any (m out : Nat) (heir : Int) (a : Option Addr) (cap : Nat) (es : List (Int × Int)) (bo bh : Nat) (X : World) (hN : es.length ≤ 1000000) (hR : RightG m es) (hE : EAt X a es) (ho : X.cell? ⟨bo, 0, none⟩ = some (.int .i64 out)) (hh : X.cell? ⟨bh, 0, none⟩ = some (.int .i64 heir)) :
    Calls Try.prog 66 #[.agg #[.int .i64 m, .slice a es.length cap], .agg #[.int .i64 ((m : Int) - 1), .func (.func 101) #[] #[.pointer (some ⟨bo, 0, none⟩), .pointer (some ⟨bh, 0, none⟩)]]] X fun e w' => ∃ u, e = .returned u ∧ SubTold (RenS ((m : Int) - 1) (fC out heir) es) X w' u :=
  ren_closed m ((m : Int) - 1) a cap es (fC out heir) bo bh X hN hE (fun e he => by have := hR.2.2.2.1 e he; omega) (fun X' x h0 h1 hX' => by
    obtain ⟨k, rfl⟩ : ∃ k : Nat, x = k := ⟨x.toNat, by omega⟩
    exact closed_any out bo bh k heir X' (by have := hR.2.1; omega) ((hX'.cell (p := ⟨bo, 0, none⟩) (block_lt_of_cell ho)).trans ho) ((hX'.cell (p := ⟨bh, 0, none⟩) (block_lt_of_cell hh)).trans hh))

set_option maxHeartbeats 4000000 in
set_option maxRecDepth 100000 in
theorem sub_del_any (n : Int) (a : Option Addr) (cap : Nat) (es : List (Int × Int)) (v : Int) (b : Bool) (w : World) (hN : es.length ≤ 1000000) (hE : EAt w a es) (hb : b = true ↔ RightG n es) :
    Calls Try.prog 32 #[.agg #[.int .i64 n, .slice a es.length cap], .int .i64 v] w fun e w' => ∃ u, e = .returned u ∧ SubTold (DelS n es v) w w' u := by
  obtain ⟨N, hNe⟩ := ex_eq es.length
  obtain ⟨W, hW, hsW, hO0, hO1, hbW⟩ := new_two w (.cells #[.int .i64 n, .slice a N cap] 26) (.cells #[.int .i64 0, .slice none 0 0] 26)
  have HGC : Hid (∀ X, Below W.heap.size W X → GC X w.heap.size n a N cap es ∧ Below w.heap.size w X ∧ X.heap[w.heap.size + 1]? = some (.cells #[.int .i64 0, .slice none 0 0] 26 (0, 0))) := fun X hX => by
    have o := (hX.block _ (by omega)).trans hO0
    have o1 := (hX.block (w.heap.size + 1) (by omega)).trans hO1
    have hbx : Below w.heap.size w X := hbW.trans (hX.mono (by omega))
    exact ⟨⟨cell_of_heap o 0, cell_of_heap o 1, hE.below hbx⟩, hbx, o1⟩
  have CR : Hid (∀ X, Below W.heap.size W X → Calls Try.prog 36 #[.agg #[.int .i64 n, .slice a N cap]] X fun e w' => e = .returned (.bool b) ∧ Below X.heap.size X w') := fun X hX => by
    rw [hNe]; exact right_any n a cap es b X hN (HGC.out X hX).1.at_ hb
  have CV : Hid (∀ v X, Calls Try.prog 64 #[.agg #[.int .i64 n, .slice a N cap], .int .i64 v] X fun e w' => e = .returned (.bool (decide (0 ≤ v ∧ v < n))) ∧ Below X.heap.size X w') := fun v X => sub_isVertex_any n v a N cap X
  have CRN : Hid (∀ (m out : Nat) (heir : Int) bo bh X, n = m → RightG n es → GC X w.heap.size n a N cap es → X.cell? ⟨bo, 0, none⟩ = some (.int .i64 out) → X.cell? ⟨bh, 0, none⟩ = some (.int .i64 heir) → Calls Try.prog 66 #[.agg #[.int .i64 m, .slice a N cap], .agg #[.int .i64 ((m : Int) - 1), .func (.func 101) #[] #[.pointer (some ⟨bo, 0, none⟩), .pointer (some ⟨bh, 0, none⟩)]]] X fun e w' => ∃ u, e = .returned u ∧ SubTold (RenS ((m : Int) - 1) (fC out heir) es) X w' u) := fun m out heir bo bh X hm hR hX ho hh => by
    rw [hNe]; subst hm; exact ren_closed_any m out heir a cap es bo bh X hN hR hX.at_ ho hh
  have HBB := hid hb
  have HW := hid hW
  have HZ : Hid (∀ X, Below w.heap.size w X → Below w.heap.size w ((X.setCell ⟨w.heap.size + 1, 0, none⟩ (.int .i64 0)).setCell ⟨w.heap.size + 1, 1, none⟩ (.slice none 0 0))) := fun X hX => (hX.setCell (p := ⟨w.heap.size + 1, 0, none⟩) (by simp) _).setCell (p := ⟨w.heap.size + 1, 1, none⟩) (by simp) _
  rw [← hNe]
  clear hNe hW hO0 hO1 hbW hE hb hN
  go_enter Try.func32, Try.ntmps32
  go_wp2_with fail
  rw [← HW.out]
  refine (CR.out W (Below.refl _ _)).mono ?_
  rintro e w1 ⟨rfl, hb1⟩
  obtain ⟨hg1, hbw1, ho1⟩ := HGC.out w1 hb1
  have HB1 := hid hb1
  have HBw1 := hid hbw1
  have z0 := cell_of_heap ho1 0
  have z1 := cell_of_heap ho1 1
  have zf0 := frozen_of_heap ho1 0
  have zf1 := frozen_of_heap ho1 1
  obtain ⟨g0, g1⟩ := hg1.cells
  have HG1 := hid hg1
  clear CR hb1 hbw1 HW hg1 ho1
  cases b with
  | false =>
    have HNR : Hid (DelS n es v 1 0 []) := Or.inl ⟨(fun h => by have := HBB.out.2 h; cases this), rfl, rfl, rfl⟩
    clear HBB
    go_wp2
    refine bodyPost_ret (v := .tuple #[.agg #[.int .i64 0, .slice none 0 0], .int .i64 1]) ?_ rfl ⟨_, rfl, subTold_none HNR.out (HZ.out _ HBw1.out)⟩
    rw [results_cell_tmp rfl]
    go_simp
  | true =>
    have HRG := hid (HBB.out.1 rfl)
    clear HBB
    have CV1 := hid (CV.out v w1)
    obtain ⟨r, hr⟩ := ex_eq (decide (0 ≤ v ∧ v < n))
    rw [← hr] at CV1
    have HRV := hid hr
    clear hr CV z0 z1 zf0 zf1
    go_wp2_with fail
    refine CV1.out.mono ?_
    rintro e w2 ⟨rfl, hb2⟩
    have hbW2 : Below W.heap.size W w2 := HB1.out.trans (hb2.mono HB1.out.size)
    obtain ⟨hg2, hbw2, ho2⟩ := HGC.out w2 hbW2
    have HB2 := hid hbW2
    have HBw2 := hid hbw2
    clear CV1 hb2 hbW2 hbw2 HB1 HBw1 HG1 g0 g1
    cases r with
    | false =>
      have z0 := cell_of_heap ho2 0
      have z1 := cell_of_heap ho2 1
      have zf0 := frozen_of_heap ho2 0
      have zf1 := frozen_of_heap ho2 1
      have HNR : Hid (DelS n es v 4 0 []) := Or.inr (Or.inl ⟨HRG.out, of_decide_eq_false HRV.out.symm, rfl, rfl, rfl⟩)
      clear ho2 hg2 HRV
      go_wp2
      refine bodyPost_ret (v := .tuple #[.agg #[.int .i64 0, .slice none 0 0], .int .i64 4]) ?_ rfl ⟨_, rfl, subTold_none HNR.out (HZ.out _ HBw2.out)⟩
      rw [results_cell_tmp rfl]
      go_simp
    | true =>
      have hv : 0 ≤ v ∧ v < n := of_decide_eq_true HRV.out.symm
      obtain ⟨m, rfl⟩ : ∃ m : Nat, n = m := ⟨n.toNat, by have := HRG.out.1; omega⟩
      obtain ⟨V, rfl⟩ : ∃ V : Nat, v = V := ⟨v.toNat, by omega⟩
      have hVm : V < m := by omega
      have hm : m ≤ 1000 := by have := HRG.out.2.1; omega
      have HDEF : Hid (∀ er N E, RenS ((m : Int) - 1) (fC V (-1)) es er N E → DelS m es V er N E) := fun er N E h => del_of_ren HRG.out hVm h
      have hBd : Below W.heap.size W w2.drew := HB2.out.drew
      have HS5 : Hid (∀ w5, Below w2.drew.heap.size w2.drew w5 → w5.cell? ⟨w.heap.size, 0, none⟩ = some (.int .i64 m) ∧ w5.cell? ⟨w.heap.size, 1, none⟩ = some (.slice a N cap)) := fun w5 h5 => ((HGC.out w5 (hBd.trans (h5.mono hBd.size))).1).cells
      have HZC : Hid (∀ w5, Below w2.drew.heap.size w2.drew w5 → w5.cell? ⟨w.heap.size + 1, 0, none⟩ = some (.int .i64 0) ∧ w5.cell? ⟨w.heap.size + 1, 1, none⟩ = some (.slice none 0 0) ∧ w5.frozen? ⟨w.heap.size + 1, 0, none⟩ = false ∧ w5.frozen? ⟨w.heap.size + 1, 1, none⟩ = false) := fun w5 h5 => by
        have o := (HGC.out w5 (hBd.trans (h5.mono hBd.size))).2.2
        exact ⟨cell_of_heap o 0, cell_of_heap o 1, frozen_of_heap o 0, frozen_of_heap o 1⟩
      have HZO : Hid (∀ w5, Below w2.drew.heap.size w2.drew w5 → w5.heap[w.heap.size + 1]? = some (.cells #[.int .i64 0, .slice none 0 0] 26 (0, 0))) := fun w5 h5 => (HGC.out w5 (hBd.trans (h5.mono hBd.size))).2.2
      have HBx : Hid (∀ w5, Below w2.drew.heap.size w2.drew w5 → Below w.heap.size w w5) := fun w5 h5 => (HGC.out w5 (hBd.trans (h5.mono hBd.size))).2.1
      have CO : Hid (∀ X, Calls Try.prog 67 #[.agg #[.int .i64 m, .slice a N cap], .int .i64 V, .int .i64 (-1)] X fun e w' => ∃ bo bh, e = .returned (.agg #[.int .i64 ((m : Int) - 1), .func (.func 101) #[] #[.pointer (some ⟨bo, 0, none⟩), .pointer (some ⟨bh, 0, none⟩)]]) ∧ w'.cell? ⟨bo, 0, none⟩ = some (.int .i64 V) ∧ w'.cell? ⟨bh, 0, none⟩ = some (.int .i64 (-1)) ∧ Below X.heap.size X w') := fun X => closingUp_any m V (-1) a N cap X (by omega) (by omega)
      have CI : Hid (∀ bo bh X, Below w2.drew.heap.size w2.drew X → X.cell? ⟨bo, 0, none⟩ = some (.int .i64 V) → X.cell? ⟨bh, 0, none⟩ = some (.int .i64 (-1)) → Calls Try.prog 66 #[.agg #[.int .i64 m, .slice a N cap], .agg #[.int .i64 ((m : Int) - 1), .func (.func 101) #[] #[.pointer (some ⟨bo, 0, none⟩), .pointer (some ⟨bh, 0, none⟩)]]] X fun e w' => ∃ u, e = .returned u ∧ SubTold (RenS ((m : Int) - 1) (fC V (-1)) es) X w' u) := fun bo bh X hX ho hh =>
        CRN.out m V (-1) bo bh X rfl HRG.out (HGC.out X (hBd.trans (hX.mono hBd.size))).1 ho hh
      have HS7 : Hid (∀ w5, Below w2.drew.heap.size w2.drew w5 → ∀ x y, ((w5.setCell ⟨w.heap.size + 1, 0, none⟩ x).setCell ⟨w.heap.size + 1, 1, none⟩ y).cell? ⟨w.heap.size, 0, none⟩ = some (.int .i64 m) ∧ ((w5.setCell ⟨w.heap.size + 1, 0, none⟩ x).setCell ⟨w.heap.size + 1, 1, none⟩ y).cell? ⟨w.heap.size, 1, none⟩ = some (.slice a N cap)) := fun w5 h5 x y => by
        rw [World.cell?_setCell_other _ _ _ _ (by simp), World.cell?_setCell_other _ _ _ _ (by simp), World.cell?_setCell_other _ _ _ _ (by simp), World.cell?_setCell_other _ _ _ _ (by simp)]
        exact HS5.out w5 h5
      clear CRN hBd hg2 ho2 HRV hv
      go_upto_region 5 with fail
      refine wp_region_held_drew (S := (fun X => X.cell? ⟨w.heap.size, 0, none⟩ = some (.int .i64 m) ∧ X.cell? ⟨w.heap.size, 1, none⟩ = some (.slice a N cap))) (by kernel_rfl) (HS5.out w2.drew (Below.refl _ _)) (fun hHeld => ?_)
      (refine takeW (i := 0) (dst := some 17) (v := ?_) rfl rfl (by kernel_rfl) (by kernel_rfl) (by kernel_rfl) (fun _ _ _ h => h) (Or.inl ⟨by rfl, ?_⟩) hHeld ?_; rotate_left; focus (intro w hSw; (try dsimp only at hSw); go_simp; (try with_reducible rfl); done))
      try simp only [Act.put, List.setIfInBounds_toArray, List.set_cons_zero, List.set_cons_succ]
      (refine takeW (i := 1) (dst := some 18) (v := ?_) rfl rfl (by kernel_rfl) (by kernel_rfl) (by kernel_rfl) (fun _ _ _ h => h) (Or.inl ⟨by rfl, ?_⟩) hHeld ?_; rotate_left; focus (intro w hSw; (try dsimp only at hSw); go_simp; (try with_reducible rfl); done))
      try simp only [Act.put, List.setIfInBounds_toArray, List.set_cons_zero, List.set_cons_succ]
      (refine takeW (i := 2) (dst := some 19) (v := ?_) rfl rfl (by kernel_rfl) (by kernel_rfl) (by kernel_rfl) (fun _ _ _ h => h) (Or.inl ⟨by rfl, ?_⟩) hHeld ?_; rotate_left; focus (intro w hSw; (try dsimp only at hSw); go_simp; (try with_reducible rfl); done))
      try simp only [Act.put, List.setIfInBounds_toArray, List.set_cons_zero, List.set_cons_succ]
      refine wpAnyH_ready (rs := [3]) (by kernel_rfl) (by simp) ?_
      refine AllReadyH.cons (o := _) rfl (fun KK hK => ?_) AllReadyH.nil
      go_simp
      refine (CO.out _).mono ?_
      rintro e w5 ⟨bo, bh, rfl, ho5, hh5, hb5⟩
      have hS5 := HS5.out w5 hb5
      have HO5 := hid ho5
      have HH5 := hid hh5
      have HB5 := hid hb5
      refine hK.out _ _ hS5 (fun hHeld => ?_)
      clear hK KK
      try simp only [Act.put]
      try simp only [List.setIfInBounds_toArray]
      try simp only [List.set_cons_succ]
      try simp only [List.set_cons_zero]
      refine wpAnyH_ready (rs := [4]) (by kernel_rfl) (by simp) ?_
      refine AllReadyH.cons (o := _) rfl (fun KK hK => ?_) AllReadyH.nil
      go_simp
      refine (CI.out bo bh w5 HB5.out HO5.out HH5.out).mono ?_
      rintro e w6 ⟨v6, rfl, ht6⟩
      obtain ⟨er, N6, E6, a6, c6, rfl, hs6, hsl6, hea6, hb6⟩ := ht6
      have hb56 := HB5.out.trans (hb6.mono HB5.out.size)
      have hS6 := HS5.out w6 hb56
      have HS6 := hid hs6
      have HSL6 := hid hsl6
      have HEA6 := hid hea6
      have HB6 := hid hb56
      obtain ⟨z0, z1, zf0, zf1⟩ := HZC.out w6 hb56
      refine hK.out _ _ hS6 (fun hHeld => ?_)
      clear hK KK
      try simp only [Act.put]
      try simp only [List.setIfInBounds_toArray]
      try simp only [List.set_cons_succ]
      try simp only [List.set_cons_zero]
      (refine takeW (i := 5) (dst := some 22) (v := ?_) rfl rfl (by kernel_rfl) (by kernel_rfl) (by kernel_rfl) (fun _ _ _ h => h) (Or.inl ⟨by rfl, ?_⟩) hHeld ?_; rotate_left; focus (intro w hSw; (try dsimp only at hSw); go_simp; (try with_reducible rfl); done))
      try simp only [Act.put, List.setIfInBounds_toArray, List.set_cons_zero, List.set_cons_succ]
      (refine takeW (i := 6) (dst := some 23) (v := ?_) rfl rfl (by kernel_rfl) (by kernel_rfl) (by kernel_rfl) (fun _ _ _ h => h) (Or.inl ⟨by rfl, ?_⟩) hHeld ?_; rotate_left; focus (intro w hSw; (try dsimp only at hSw); go_simp; (try with_reducible rfl); done))
      try simp only [Act.put, List.setIfInBounds_toArray, List.set_cons_zero, List.set_cons_succ]
      refine wpAnyH_ready (rs := [7]) (by kernel_rfl) (by simp) ?_
      refine AllReadyH.cons (o := _) rfl (fun KK hK => ?_) AllReadyH.nil
      go_simp
      refine hK.out _ _ (HS7.out w6 HB6.out _ _) (fun hHeld => ?_)
      clear hK KK
      try simp only [Act.put]
      try simp only [List.setIfInBounds_toArray]
      try simp only [List.set_cons_succ]
      try simp only [List.set_cons_zero]
      (refine takeW (i := 8) (dst := some 5) (v := ?_) rfl rfl (by kernel_rfl) (by kernel_rfl) (by kernel_rfl) (fun _ _ _ h => h) (Or.inl ⟨by rfl, ?_⟩) hHeld ?_; rotate_left; focus (intro w hSw; (try dsimp only at hSw); go_simp; (try with_reducible rfl); done))
      try simp only [Act.put]
      try simp only [List.setIfInBounds_toArray]
      try simp only [List.set_cons_succ]
      try simp only [List.set_cons_zero]
      refine wpAnyH_done (by kernel_rfl) ?_ _

      have HDS : Hid (DelS m es V er N6 E6) := HDEF.out _ _ _ HS6.out
      have HBw6 := hid (HBx.out w6 HB6.out)
      have HNE6 := hid (eat_off_box (HZO.out w6 HB6.out) HEA6.out)
      clear hHeld hS5 hS6 hb6 hb56 ho5 hh5 hb5 hs6 hsl6 hea6 HS5 HZC HZO HBx CI HS7 CO HO5 HH5 HB5 HB6 HS6
      go_wp2
      refine bodyPost_ret (v := .tuple #[.agg #[.int .i64 N6, .slice a6 E6.length c6], .int .i64 er]) ?_ rfl ⟨_, rfl, er, N6, E6, a6, c6, rfl, HDS.out, HSL6.out, ?_, ?_⟩
      · rw [results_cell_tmp rfl]
        go_simp
      · have hne : ∀ g off, 0 < E6.length → a6 = some ⟨g, off, none⟩ → g ≠ w.heap.size + 1 := HNE6.out
        exact (HEA6.out.set (p := ⟨w.heap.size + 1, 0, none⟩) hne _).set (p := ⟨w.heap.size + 1, 1, none⟩) hne _
      · exact (HBw6.out.setCell (p := ⟨w.heap.size + 1, 0, none⟩) (by simp) _).setCell (p := ⟨w.heap.size + 1, 1, none⟩) (by simp) _

set_option maxHeartbeats 4000000 in
set_option maxRecDepth 100000 in
theorem sub_con_any (n : Int) (a : Option Addr) (cap : Nat) (es : List (Int × Int)) (x y : Int) (b : Bool) (w : World) (hN : es.length ≤ 1000000) (hE : EAt w a es) (hb : b = true ↔ RightG n es) :
    Calls Try.prog 31 #[.agg #[.int .i64 n, .slice a es.length cap], .int .i64 x, .int .i64 y] w fun e w' => ∃ u, e = .returned u ∧ SubTold (ConS n es x y) w w' u := by
  obtain ⟨N, hNe⟩ := ex_eq es.length
  obtain ⟨W, hW, hsW, hO0, hO1, hbW⟩ := new_two w (.cells #[.int .i64 n, .slice a N cap] 26) (.cells #[.int .i64 0, .slice none 0 0] 26)
  have HGC : Hid (∀ X, Below W.heap.size W X → GC X w.heap.size n a N cap es ∧ Below w.heap.size w X ∧ X.heap[w.heap.size + 1]? = some (.cells #[.int .i64 0, .slice none 0 0] 26 (0, 0))) := fun X hX => by
    have o := (hX.block _ (by omega)).trans hO0
    have o1 := (hX.block (w.heap.size + 1) (by omega)).trans hO1
    have hbx : Below w.heap.size w X := hbW.trans (hX.mono (by omega))
    exact ⟨⟨cell_of_heap o 0, cell_of_heap o 1, hE.below hbx⟩, hbx, o1⟩
  have CR : Hid (∀ X, Below W.heap.size W X → Calls Try.prog 36 #[.agg #[.int .i64 n, .slice a N cap]] X fun e w' => e = .returned (.bool b) ∧ Below X.heap.size X w') := fun X hX => by
    rw [hNe]; exact right_any n a cap es b X hN (HGC.out X hX).1.at_ hb
  have CV : Hid (∀ v X, Calls Try.prog 64 #[.agg #[.int .i64 n, .slice a N cap], .int .i64 v] X fun e w' => e = .returned (.bool (decide (0 ≤ v ∧ v < n))) ∧ Below X.heap.size X w') := fun v X => sub_isVertex_any n v a N cap X
  have CRN : Hid (∀ (m out : Nat) (heir : Int) bo bh X, n = m → RightG n es → GC X w.heap.size n a N cap es → X.cell? ⟨bo, 0, none⟩ = some (.int .i64 out) → X.cell? ⟨bh, 0, none⟩ = some (.int .i64 heir) → Calls Try.prog 66 #[.agg #[.int .i64 m, .slice a N cap], .agg #[.int .i64 ((m : Int) - 1), .func (.func 101) #[] #[.pointer (some ⟨bo, 0, none⟩), .pointer (some ⟨bh, 0, none⟩)]]] X fun e w' => ∃ u, e = .returned u ∧ SubTold (RenS ((m : Int) - 1) (fC out heir) es) X w' u) := fun m out heir bo bh X hm hR hX ho hh => by
    rw [hNe]; subst hm; exact ren_closed_any m out heir a cap es bo bh X hN hR hX.at_ ho hh
  have CH : Hid (∀ X, RightG n es → GC X w.heap.size n a N cap es → Calls Try.prog 65 #[.agg #[.int .i64 n, .slice a N cap], .int .i64 x, .int .i64 y] X fun e w' => e = .returned (.bool (decide (y ∈ nbL x es))) ∧ Below X.heap.size X w') := fun X hR hX => by
    rw [hNe]; exact has_any n a cap es x y b (nbL x es) X hN hX.at_ hb (by rw [if_pos (hb.2 hR)])
  have HBB := hid hb
  have HW := hid hW
  have HZ : Hid (∀ X, Below w.heap.size w X → Below w.heap.size w ((X.setCell ⟨w.heap.size + 1, 0, none⟩ (.int .i64 0)).setCell ⟨w.heap.size + 1, 1, none⟩ (.slice none 0 0))) := fun X hX => (hX.setCell (p := ⟨w.heap.size + 1, 0, none⟩) (by simp) _).setCell (p := ⟨w.heap.size + 1, 1, none⟩) (by simp) _
  rw [← hNe]
  clear hNe hW hO0 hO1 hbW hE hb hN
  go_enter Try.func31, Try.ntmps31
  go_wp2_with fail
  rw [← HW.out]
  refine (CR.out W (Below.refl _ _)).mono ?_
  rintro e w1 ⟨rfl, hb1⟩
  obtain ⟨hg1, hbw1, ho1⟩ := HGC.out w1 hb1
  have HB1 := hid hb1
  have HBw1 := hid hbw1
  have z0 := cell_of_heap ho1 0
  have z1 := cell_of_heap ho1 1
  have zf0 := frozen_of_heap ho1 0
  have zf1 := frozen_of_heap ho1 1
  obtain ⟨g0, g1⟩ := hg1.cells
  have HG1 := hid hg1
  clear CR hb1 hbw1 HW hg1 ho1
  cases b with
  | false =>
    have HNR : Hid (ConS n es x y 1 0 []) := Or.inl ⟨(fun h => by have := HBB.out.2 h; cases this), rfl, rfl, rfl⟩
    clear HBB CH
    go_wp2
    refine bodyPost_ret (v := .tuple #[.agg #[.int .i64 0, .slice none 0 0], .int .i64 1]) ?_ rfl ⟨_, rfl, subTold_none HNR.out (HZ.out _ HBw1.out)⟩
    rw [results_cell_tmp rfl]
    go_simp
  | true =>
    have HRG := hid (HBB.out.1 rfl)
    clear HBB
    have CV1 := hid (CV.out x w1)
    have CV2 := hid (CV.out y)
    obtain ⟨r, hr⟩ := ex_eq (decide (0 ≤ x ∧ x < n))
    obtain ⟨s, hs⟩ := ex_eq (decide (0 ≤ y ∧ y < n))
    rw [← hr] at CV1
    rw [← hs] at CV2
    have HRV := hid hr
    have HSV := hid hs
    clear hr hs CV z0 z1 zf0 zf1
    go_wp2_with fail
    refine CV1.out.mono ?_
    rintro e w2 ⟨rfl, hb2⟩
    have hbW2 : Below W.heap.size W w2 := HB1.out.trans (hb2.mono HB1.out.size)
    obtain ⟨hg2, hbw2, ho2⟩ := HGC.out w2 hbW2
    have HB2 := hid hbW2
    have HBw2 := hid hbw2
    clear CV1 hb2 hbW2 hbw2 HB1 HBw1 HG1 g0 g1
    cases r with
    | false =>
      have z0 := cell_of_heap ho2 0
      have z1 := cell_of_heap ho2 1
      have zf0 := frozen_of_heap ho2 0
      have zf1 := frozen_of_heap ho2 1
      have HNR : Hid (ConS n es x y 4 0 []) := Or.inr (Or.inl ⟨HRG.out, (fun h => of_decide_eq_false HRV.out.symm h.1), rfl, rfl, rfl⟩)
      clear ho2 hg2 HRV HSV CV2 CH
      go_wp2
      refine bodyPost_ret (v := .tuple #[.agg #[.int .i64 0, .slice none 0 0], .int .i64 4]) ?_ rfl ⟨_, rfl, subTold_none HNR.out (HZ.out _ HBw2.out)⟩
      rw [results_cell_tmp rfl]
      go_simp
    | true =>
      obtain ⟨g0, g1⟩ := hg2.cells
      clear ho2
      go_wp2_with fail
      refine (CV2.out w2).mono ?_
      rintro e w3 ⟨rfl, hb3⟩
      have hbW3 : Below W.heap.size W w3 := HB2.out.trans (hb3.mono HB2.out.size)
      obtain ⟨hg3, hbw3, ho3⟩ := HGC.out w3 hbW3
      have HB3 := hid hbW3
      have HBw3 := hid hbw3
      clear CV2 hb3 hbW3 hbw3 HB2 HBw2 g0 g1 hg2
      cases s with
      | false =>
        have z0 := cell_of_heap ho3 0
        have z1 := cell_of_heap ho3 1
        have zf0 := frozen_of_heap ho3 0
        have zf1 := frozen_of_heap ho3 1
        have HNR : Hid (ConS n es x y 4 0 []) := Or.inr (Or.inl ⟨HRG.out, (fun h => of_decide_eq_false HSV.out.symm h.2), rfl, rfl, rfl⟩)
        clear ho3 hg3 HRV HSV CH
        go_wp2
        refine bodyPost_ret (v := .tuple #[.agg #[.int .i64 0, .slice none 0 0], .int .i64 4]) ?_ rfl ⟨_, rfl, subTold_none HNR.out (HZ.out _ HBw3.out)⟩
        rw [results_cell_tmp rfl]
        go_simp
      | true =>
        have hx : 0 ≤ x ∧ x < n := of_decide_eq_true HRV.out.symm
        have hy : 0 ≤ y ∧ y < n := of_decide_eq_true HSV.out.symm
        obtain ⟨g0, g1⟩ := hg3.cells
        have C3 := hid (CH.out w3 HRG.out hg3)
        obtain ⟨t, ht⟩ := ex_eq (decide (y ∈ nbL x es))
        rw [← ht] at C3
        have HT := hid ht
        clear ho3 ht CH hg3
        go_wp2_with fail
        refine C3.out.mono ?_
        rintro e w4 ⟨rfl, hb4⟩
        have hbW4 : Below W.heap.size W w4 := HB3.out.trans (hb4.mono HB3.out.size)
        obtain ⟨hg4, hbw4, ho4⟩ := HGC.out w4 hbW4
        have HB4 := hid hbW4
        have HBw4 := hid hbw4
        clear C3 hb4 hbW4 hbw4 HB3 HBw3 g0 g1
        cases t with
        | false =>
          have z0 := cell_of_heap ho4 0
          have z1 := cell_of_heap ho4 1
          have zf0 := frozen_of_heap ho4 0
          have zf1 := frozen_of_heap ho4 1
          have HNR : Hid (ConS n es x y 6 0 []) := Or.inr (Or.inr (Or.inl ⟨HRG.out, ⟨hx, hy⟩, (fun h => of_decide_eq_false HT.out.symm ((nbL_right HRG.out).2 h)), rfl, rfl, rfl⟩))
          clear ho4 hg4 HRV HSV HT hx hy
          go_wp2
          refine bodyPost_ret (v := .tuple #[.agg #[.int .i64 0, .slice none 0 0], .int .i64 6]) ?_ rfl ⟨_, rfl, subTold_none HNR.out (HZ.out _ HBw4.out)⟩
          rw [results_cell_tmp rfl]
          go_simp
        | true =>
          have HADJ : Hid (Adj es x y) := (nbL_right HRG.out).1 (of_decide_eq_true HT.out.symm)
          obtain ⟨m, rfl⟩ : ∃ m : Nat, n = m := ⟨n.toNat, by have := HRG.out.1; omega⟩
          obtain ⟨X, rfl⟩ : ∃ X : Nat, x = X := ⟨x.toNat, by omega⟩
          obtain ⟨Y, rfl⟩ : ∃ Y : Nat, y = Y := ⟨y.toNat, by omega⟩
          have hm : m ≤ 1000 := by have := HRG.out.2.1; omega
          obtain ⟨lo, hlo⟩ := ex_eq (min X Y)
          obtain ⟨hi, hhi⟩ := ex_eq (max X Y)
          have kmin : min (X : Int) (Y : Int) = (lo : Int) := by omega
          have kmax : max (X : Int) (Y : Int) = (hi : Int) := by omega
          have HDEF : Hid (∀ er N E, RenS ((m : Int) - 1) (fC hi lo) es er N E → ConS m es X Y er N E) := fun er N E h => con_of_ren HRG.out (by omega) (by omega) HADJ.out hlo hhi h
          have hBd : Below W.heap.size W w4.drew := HB4.out.drew
          have HS5 : Hid (∀ w5, Below w4.drew.heap.size w4.drew w5 → w5.cell? ⟨w.heap.size, 0, none⟩ = some (.int .i64 m) ∧ w5.cell? ⟨w.heap.size, 1, none⟩ = some (.slice a N cap)) := fun w5 h5 => ((HGC.out w5 (hBd.trans (h5.mono hBd.size))).1).cells
          have HZC : Hid (∀ w5, Below w4.drew.heap.size w4.drew w5 → w5.cell? ⟨w.heap.size + 1, 0, none⟩ = some (.int .i64 0) ∧ w5.cell? ⟨w.heap.size + 1, 1, none⟩ = some (.slice none 0 0) ∧ w5.frozen? ⟨w.heap.size + 1, 0, none⟩ = false ∧ w5.frozen? ⟨w.heap.size + 1, 1, none⟩ = false) := fun w5 h5 => by
            have o := (HGC.out w5 (hBd.trans (h5.mono hBd.size))).2.2
            exact ⟨cell_of_heap o 0, cell_of_heap o 1, frozen_of_heap o 0, frozen_of_heap o 1⟩
          have HZO : Hid (∀ w5, Below w4.drew.heap.size w4.drew w5 → w5.heap[w.heap.size + 1]? = some (.cells #[.int .i64 0, .slice none 0 0] 26 (0, 0))) := fun w5 h5 => (HGC.out w5 (hBd.trans (h5.mono hBd.size))).2.2
          have HBx : Hid (∀ w5, Below w4.drew.heap.size w4.drew w5 → Below w.heap.size w w5) := fun w5 h5 => (HGC.out w5 (hBd.trans (h5.mono hBd.size))).2.1
          have CO : Hid (∀ X, Calls Try.prog 67 #[.agg #[.int .i64 m, .slice a N cap], .int .i64 hi, .int .i64 lo] X fun e w' => ∃ bo bh, e = .returned (.agg #[.int .i64 ((m : Int) - 1), .func (.func 101) #[] #[.pointer (some ⟨bo, 0, none⟩), .pointer (some ⟨bh, 0, none⟩)]]) ∧ w'.cell? ⟨bo, 0, none⟩ = some (.int .i64 hi) ∧ w'.cell? ⟨bh, 0, none⟩ = some (.int .i64 lo) ∧ Below X.heap.size X w') := fun X => closingUp_any m hi lo a N cap X (by omega) (by omega)
          have CI : Hid (∀ bo bh X, Below w4.drew.heap.size w4.drew X → X.cell? ⟨bo, 0, none⟩ = some (.int .i64 hi) → X.cell? ⟨bh, 0, none⟩ = some (.int .i64 lo) → Calls Try.prog 66 #[.agg #[.int .i64 m, .slice a N cap], .agg #[.int .i64 ((m : Int) - 1), .func (.func 101) #[] #[.pointer (some ⟨bo, 0, none⟩), .pointer (some ⟨bh, 0, none⟩)]]] X fun e w' => ∃ u, e = .returned u ∧ SubTold (RenS ((m : Int) - 1) (fC hi lo) es) X w' u) := fun bo bh X hX ho hh =>
            CRN.out m hi lo bo bh X rfl HRG.out (HGC.out X (hBd.trans (hX.mono hBd.size))).1 ho hh
          have HS7 : Hid (∀ w5, Below w4.drew.heap.size w4.drew w5 → ∀ x y, ((w5.setCell ⟨w.heap.size + 1, 0, none⟩ x).setCell ⟨w.heap.size + 1, 1, none⟩ y).cell? ⟨w.heap.size, 0, none⟩ = some (.int .i64 m) ∧ ((w5.setCell ⟨w.heap.size + 1, 0, none⟩ x).setCell ⟨w.heap.size + 1, 1, none⟩ y).cell? ⟨w.heap.size, 1, none⟩ = some (.slice a N cap)) := fun w5 h5 x y => by
            rw [World.cell?_setCell_other _ _ _ _ (by simp), World.cell?_setCell_other _ _ _ _ (by simp), World.cell?_setCell_other _ _ _ _ (by simp), World.cell?_setCell_other _ _ _ _ (by simp)]
            exact HS5.out w5 h5
          clear CRN hBd hg4 ho4 HRV HSV HT hx hy HADJ hlo hhi
          go_upto_region 7 with fail
          refine wp_region_held_drew (S := (fun X => X.cell? ⟨w.heap.size, 0, none⟩ = some (.int .i64 m) ∧ X.cell? ⟨w.heap.size, 1, none⟩ = some (.slice a N cap))) (by kernel_rfl) (HS5.out w4.drew (Below.refl _ _)) (fun hHeld => ?_)
          (refine takeW (i := 0) (dst := some 32) (v := ?_) rfl rfl (by kernel_rfl) (by kernel_rfl) (by kernel_rfl) (fun _ _ _ h => h) (Or.inl ⟨by rfl, ?_⟩) hHeld ?_; rotate_left; focus (intro w hSw; (try dsimp only at hSw); go_simp; (try with_reducible rfl); done))
          try simp only [Act.put, List.setIfInBounds_toArray, List.set_cons_zero, List.set_cons_succ]
          (refine takeW (i := 1) (dst := some 33) (v := ?_) rfl rfl (by kernel_rfl) (by kernel_rfl) (by kernel_rfl) (fun _ _ _ h => h) (Or.inl ⟨by rfl, ?_⟩) hHeld ?_; rotate_left; focus (intro w hSw; (try dsimp only at hSw); go_simp; (try with_reducible rfl); done))
          try simp only [Act.put, List.setIfInBounds_toArray, List.set_cons_zero, List.set_cons_succ]
          (refine takeW (i := 2) (dst := some 34) (v := ?_) rfl rfl (by kernel_rfl) (by kernel_rfl) (by kernel_rfl) (fun _ _ _ h => h) (Or.inl ⟨by rfl, ?_⟩) hHeld ?_; rotate_left; focus (intro w hSw; (try dsimp only at hSw); go_simp; (try with_reducible rfl); done))
          try simp only [Act.put, List.setIfInBounds_toArray, List.set_cons_zero, List.set_cons_succ]
          (refine takeW (i := 3) (dst := some 35) (v := ?_) rfl rfl (by kernel_rfl) (by kernel_rfl) (by kernel_rfl) (fun _ _ _ h => h) (Or.inl ⟨by rfl, ?_⟩) hHeld ?_; rotate_left; focus (intro w hSw; (try dsimp only at hSw); go_simp; (try with_reducible rfl); done))
          try simp only [Act.put, List.setIfInBounds_toArray, List.set_cons_zero, List.set_cons_succ]
          (refine takeW (i := 4) (dst := some 36) (v := ?_) rfl rfl (by kernel_rfl) (by kernel_rfl) (by kernel_rfl) (fun _ _ _ h => h) (Or.inl ⟨by rfl, ?_⟩) hHeld ?_; rotate_left; focus (intro w hSw; (try dsimp only at hSw); go_simp; (try with_reducible rfl); done))
          try simp only [Act.put, List.setIfInBounds_toArray, List.set_cons_zero, List.set_cons_succ]
          (refine takeW (i := 5) (dst := some 37) (v := ?_) rfl rfl (by kernel_rfl) (by kernel_rfl) (by kernel_rfl) (fun _ _ _ h => h) (Or.inl ⟨by rfl, ?_⟩) hHeld ?_; rotate_left; focus (intro w hSw; (try dsimp only at hSw); go_simp; (try with_reducible rfl); done))
          try simp only [Act.put, List.setIfInBounds_toArray, List.set_cons_zero, List.set_cons_succ]
          (refine takeW (i := 6) (dst := some 38) (v := ?_) rfl rfl (by kernel_rfl) (by kernel_rfl) (by kernel_rfl) (fun _ _ _ h => h) (Or.inl ⟨by rfl, ?_⟩) hHeld ?_; rotate_left; focus (intro w hSw; (try dsimp only at hSw); go_simp; (try with_reducible rfl); done))
          try simp only [Act.put, List.setIfInBounds_toArray, List.set_cons_zero, List.set_cons_succ]
          (refine takeW (i := 7) (dst := some 39) (v := ?_) rfl rfl (by kernel_rfl) (by kernel_rfl) (by kernel_rfl) (fun _ _ _ h => h) (Or.inl ⟨by rfl, ?_⟩) hHeld ?_; rotate_left; focus (intro w hSw; (try dsimp only at hSw); go_simp; (try with_reducible rfl); done))
          try simp only [Act.put, List.setIfInBounds_toArray, List.set_cons_zero, List.set_cons_succ]
          refine wpAnyH_ready (rs := [8]) (by kernel_rfl) (by simp) ?_
          refine AllReadyH.cons (o := _) rfl (fun KK hK => ?_) AllReadyH.nil
          go_simp
          refine (CO.out _).mono ?_
          rintro e w5 ⟨bo, bh, rfl, ho5, hh5, hb5⟩
          have hS5 := HS5.out w5 hb5
          have HO5 := hid ho5
          have HH5 := hid hh5
          have HB5 := hid hb5
          refine hK.out _ _ hS5 (fun hHeld => ?_)
          clear hK KK
          try simp only [Act.put]
          try simp only [List.setIfInBounds_toArray]
          try simp only [List.set_cons_succ]
          try simp only [List.set_cons_zero]
          refine wpAnyH_ready (rs := [9]) (by kernel_rfl) (by simp) ?_
          refine AllReadyH.cons (o := _) rfl (fun KK hK => ?_) AllReadyH.nil
          go_simp
          refine (CI.out bo bh w5 HB5.out HO5.out HH5.out).mono ?_
          rintro e w6 ⟨v6, rfl, ht6⟩
          obtain ⟨er, N6, E6, a6, c6, rfl, hs6, hsl6, hea6, hb6⟩ := ht6
          have hb56 := HB5.out.trans (hb6.mono HB5.out.size)
          have hS6 := HS5.out w6 hb56
          have HS6 := hid hs6
          have HSL6 := hid hsl6
          have HEA6 := hid hea6
          have HB6 := hid hb56
          obtain ⟨z0, z1, zf0, zf1⟩ := HZC.out w6 hb56
          refine hK.out _ _ hS6 (fun hHeld => ?_)
          clear hK KK
          try simp only [Act.put]
          try simp only [List.setIfInBounds_toArray]
          try simp only [List.set_cons_succ]
          try simp only [List.set_cons_zero]
          (refine takeW (i := 10) (dst := some 42) (v := ?_) rfl rfl (by kernel_rfl) (by kernel_rfl) (by kernel_rfl) (fun _ _ _ h => h) (Or.inl ⟨by rfl, ?_⟩) hHeld ?_; rotate_left; focus (intro w hSw; (try dsimp only at hSw); go_simp; (try with_reducible rfl); done))
          try simp only [Act.put, List.setIfInBounds_toArray, List.set_cons_zero, List.set_cons_succ]
          (refine takeW (i := 11) (dst := some 43) (v := ?_) rfl rfl (by kernel_rfl) (by kernel_rfl) (by kernel_rfl) (fun _ _ _ h => h) (Or.inl ⟨by rfl, ?_⟩) hHeld ?_; rotate_left; focus (intro w hSw; (try dsimp only at hSw); go_simp; (try with_reducible rfl); done))
          try simp only [Act.put, List.setIfInBounds_toArray, List.set_cons_zero, List.set_cons_succ]
          refine wpAnyH_ready (rs := [12]) (by kernel_rfl) (by simp) ?_
          refine AllReadyH.cons (o := _) rfl (fun KK hK => ?_) AllReadyH.nil
          go_simp
          refine hK.out _ _ (HS7.out w6 HB6.out _ _) (fun hHeld => ?_)
          clear hK KK
          try simp only [Act.put]
          try simp only [List.setIfInBounds_toArray]
          try simp only [List.set_cons_succ]
          try simp only [List.set_cons_zero]
          (refine takeW (i := 13) (dst := some 7) (v := ?_) rfl rfl (by kernel_rfl) (by kernel_rfl) (by kernel_rfl) (fun _ _ _ h => h) (Or.inl ⟨by rfl, ?_⟩) hHeld ?_; rotate_left; focus (intro w hSw; (try dsimp only at hSw); go_simp; (try with_reducible rfl); done))
          try simp only [Act.put]
          try simp only [List.setIfInBounds_toArray]
          try simp only [List.set_cons_succ]
          try simp only [List.set_cons_zero]
          refine wpAnyH_done (by kernel_rfl) ?_ _
          have HDS : Hid (ConS m es X Y er N6 E6) := HDEF.out _ _ _ HS6.out
          have HBw6 := hid (HBx.out w6 HB6.out)
          have HNE6 := hid (eat_off_box (HZO.out w6 HB6.out) HEA6.out)
          clear hHeld hS5 hS6 hb6 hb56 ho5 hh5 hb5 hs6 hsl6 hea6 HS5 HZC HZO HBx CI HS7 CO HO5 HH5 HB5 HB6 HS6
          go_wp2
          refine bodyPost_ret (v := .tuple #[.agg #[.int .i64 N6, .slice a6 E6.length c6], .int .i64 er]) ?_ rfl ⟨_, rfl, er, N6, E6, a6, c6, rfl, HDS.out, HSL6.out, ?_, ?_⟩
          · rw [results_cell_tmp rfl]
            go_simp
          · have hne : ∀ g off, 0 < E6.length → a6 = some ⟨g, off, none⟩ → g ≠ w.heap.size + 1 := HNE6.out
            exact (HEA6.out.set (p := ⟨w.heap.size + 1, 0, none⟩) hne _).set (p := ⟨w.heap.size + 1, 1, none⟩) hne _
          · exact (HBw6.out.setCell (p := ⟨w.heap.size + 1, 0, none⟩) (by simp) _).setCell (p := ⟨w.heap.size + 1, 1, none⟩) (by simp) _
end Go.Proofs.Ytlebimolgienkaa
