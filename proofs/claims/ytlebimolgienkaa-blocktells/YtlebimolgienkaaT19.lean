/-
  The program's Two keeps its contract (layer 7).
  The program's blocks keep what the laws of layer 7 ask of them.
  The small case that the laws of layer 7 begin with.
  The document's Of of layer 3: a graph of a Net.
  carcanetlaw04.PartTells answers true, for any part that keeps the contracts.
  carcanetlaw04.PartOrder answers true, for any part that keeps the contracts.
  The document's components (Of of layer 4).
  The program's Classes of layer 4.
  The program's Classes of layer 4: the walk.
-/
import Derived.Test.YtlebimolgienkaaT17
import Derived.Test.YtlebimolgienkaaT18
import Derived.Test.YtlebimolgienkaaT15
import Derived.Test.YtlebimolgienkaaT10
import Derived.Test.YtlebimolgienkaaT16
import Derived.Test.YtlebimolgienkaaT02
import Derived.Test.YtlebimolgienkaaT11
import Derived.Test.YtlebimolgienkaaT12
import Derived.Test.YtlebimolgienkaaT06
namespace Go.Proofs.Ytlebimolgienkaa
open Go.RowKit Go.Lib

set_option maxHeartbeats 4000000 in
set_option maxRecDepth 100000 in
theorem blkTwo_any (n : Int) (a : Option Addr) (cap : Nat) (es : List (Int × Int)) (la : Option Addr) (lc : Nat) (l : List Int) (b r : Bool) (w : World) (hN : es.length ≤ 1000000) (hL : l.length ≤ 1000000) (hE : EAt w a es) (hI : IAt w la l) (hb : b = true ↔ RightG n es) (hr : r = true ↔ (RightG n es ∧ TwoL n es l)) :
    Calls Try.prog 34 #[.agg #[.int .i64 n, .slice a es.length cap], .slice la l.length lc] w fun e w' => e = .returned (.bool r) ∧ Below w.heap.size w w' := by
  obtain ⟨N, hNe⟩ := ex_eq es.length
  obtain ⟨M, hMe⟩ := ex_eq l.length
  obtain ⟨W, hW⟩ := ex_eq (w.alloc (.cells #[.int .i64 n, .slice a N cap] 26))
  have hbW : Below w.heap.size w W := by rw [hW]; exact (Below.refl _ _).alloc (Nat.le_refl _) _
  have hO : W.heap[w.heap.size]? = some (.cells #[.int .i64 n, .slice a N cap] 26 (0, 0)) := by rw [hW]; exact heap_alloc_new _ _
  have hsW : w.heap.size < W.heap.size := (Array.getElem?_eq_some_iff.1 hO).1
  have HGC : Hid (∀ X, Below W.heap.size W X → GC X w.heap.size n a N cap es ∧ IAt X la l ∧ Below w.heap.size w X) := fun X hX => by
    have o := (hX.block _ hsW).trans hO
    have hbx : Below w.heap.size w X := hbW.trans (hX.mono (by omega))
    exact ⟨⟨cell_of_heap o 0, cell_of_heap o 1, hE.below hbx⟩, hI.below hbx, hbx⟩
  obtain ⟨r1, hr1⟩ := boolR_of (RightG n es ∧ WholeL n es l)
  have CW : Hid (∀ X, Below W.heap.size W X → Calls Try.prog 47 #[.agg #[.int .i64 n, .slice a N cap], .slice la M lc] X fun e w' => e = .returned (.bool r1) ∧ Below X.heap.size X w') := fun X hX => by
    rw [hNe, hMe]; exact whole_any n a cap es la lc l b r1 X hN hL (HGC.out X hX).1.at_ (HGC.out X hX).2.1 hb hr1
  have HSS : Hid (∀ X, Below W.heap.size W X → X.cell? ⟨w.heap.size, 0, none⟩ = some (.int .i64 n) ∧ X.cell? ⟨w.heap.size, 1, none⟩ = some (.slice a N cap)) := fun X hX => (HGC.out X hX).1.cells
  have hS := HSS.out W (Below.refl _ _)
  have HBd : Hid (Below W.heap.size W W.drew) := (Below.refl _ _).drew
  have HR := hid hr
  have HR1 := hid hr1
  have HW := hid hW
  have HBW : Hid (∀ X, Below W.heap.size W X → Below w.heap.size w X) := fun X hX => (HGC.out X hX).2.2
  have CI : Hid (∀ (m : Nat), n = m → RightG n es → WholeL n es l → ∀ X, Below W.heap.size W X → Calls Try.prog 73 #[.agg #[.int .i64 m, .slice a N cap], .slice la M lc] X fun e w' => ∃ a' cap', e = .returned (.slice a' (withinL es l).length cap') ∧ EAt w' a' (withinL es l) ∧ Below X.heap.size X w') := fun m hm hR hWh X hX => by
    subst hm
    rw [hNe, hMe]; exact within_any m a cap es la lc l X (HGC.out X hX).1.at_ hR hL (HGC.out X hX).2.1 hWh.inn
  rw [← hMe, ← hNe]
  clear hNe hMe hW hbW hO hsW hE hI hb hr hr1 hN hL HGC
  go_enter Try.func34, Try.ntmps34
  go_upto_region 1 with fail
  rw [← HW.out]
  clear HW
  cases r1 with
  | false =>
    obtain rfl : r = false := b_false HR.out (fun h => by have := HR1.out.2 ⟨h.1, h.2.2.1⟩; cases this)
    clear HR HR1 CI
    refine wp_region_held_drew (S := (fun X => X.cell? ⟨w.heap.size, 0, none⟩ = some (.int .i64 n) ∧ X.cell? ⟨w.heap.size, 1, none⟩ = some (.slice a N cap))) (by kernel_rfl) hS (fun hHeld => ?_)
    (refine takeW (i := 0) (dst := some 5) (v := ?_) rfl rfl (by kernel_rfl) (by kernel_rfl) (by kernel_rfl) (fun _ _ _ h => h) (Or.inl ⟨by rfl, ?_⟩) hHeld ?_; rotate_left; focus (intro w hSw; (try dsimp only at hSw); go_simp; (try with_reducible rfl); done))
    try simp only [Act.put, List.setIfInBounds_toArray, List.set_cons_zero, List.set_cons_succ]
    (refine takeW (i := 1) (dst := some 6) (v := ?_) rfl rfl (by kernel_rfl) (by kernel_rfl) (by kernel_rfl) (fun _ _ _ h => h) (Or.inl ⟨by rfl, ?_⟩) hHeld ?_; rotate_left; focus (intro w hSw; (try dsimp only at hSw); go_simp; (try with_reducible rfl); done))
    try simp only [Act.put, List.setIfInBounds_toArray, List.set_cons_zero, List.set_cons_succ]
    refine wpAnyH_ready (rs := [2]) (by kernel_rfl) (by simp) ?_
    refine AllReadyH.cons (o := _) rfl (fun KK hK => ?_) AllReadyH.nil
    go_simp
    refine (CW.out _ HBd.out).mono ?_
    rintro e y1 ⟨rfl, hb⟩
    have HB1 : Hid (Below W.heap.size W y1) := HBd.out.trans (hb.mono HBd.out.size)
    have hS1 := HSS.out y1 HB1.out
    refine hK.out _ _ hS1 (fun hHeld => ?_)
    clear hK KK
    try simp only [Act.put]
    try simp only [List.setIfInBounds_toArray]
    try simp only [List.set_cons_succ]
    try simp only [List.set_cons_zero]
    (refine takeW (i := 3) (dst := some 8) (v := ?_) rfl rfl (by kernel_rfl) (by kernel_rfl) (by kernel_rfl) (fun _ _ _ h => h) (Or.inl ⟨by rfl, ?_⟩) hHeld ?_; rotate_left; focus (intro w hSw; (try dsimp only at hSw); go_simp; (try with_reducible rfl); done))
    try simp only [Act.put, List.setIfInBounds_toArray, List.set_cons_zero, List.set_cons_succ]
    first | refine takeW (i := 4) (dst := some 9) (v := undef) rfl rfl (by kernel_rfl) (by kernel_rfl) (by kernel_rfl) (fun _ _ _ h => h) (Or.inr ⟨by rfl, rfl⟩) hHeld ?_ | (refine takeW (i := 4) (dst := some 9) (v := ?_) rfl rfl (by kernel_rfl) (by kernel_rfl) (by kernel_rfl) (fun _ _ _ h => h) (Or.inl ⟨by rfl, ?_⟩) hHeld ?_; rotate_left; focus (intro w hSw; (try dsimp only at hSw); go_simp; (try with_reducible rfl); done))
    try simp only [Act.put, List.setIfInBounds_toArray, List.set_cons_zero, List.set_cons_succ]
    first | refine takeW (i := 5) (dst := some 10) (v := undef) rfl rfl (by kernel_rfl) (by kernel_rfl) (by kernel_rfl) (fun _ _ _ h => h) (Or.inr ⟨by rfl, rfl⟩) hHeld ?_ | (refine takeW (i := 5) (dst := some 10) (v := ?_) rfl rfl (by kernel_rfl) (by kernel_rfl) (by kernel_rfl) (fun _ _ _ h => h) (Or.inl ⟨by rfl, ?_⟩) hHeld ?_; rotate_left; focus (intro w hSw; (try dsimp only at hSw); go_simp; (try with_reducible rfl); done))
    try simp only [Act.put, List.setIfInBounds_toArray, List.set_cons_zero, List.set_cons_succ]
    first | refine takeW (i := 6) (dst := some 11) (v := undef) rfl rfl (by kernel_rfl) (by kernel_rfl) (by kernel_rfl) (fun _ _ _ h => h) (Or.inr ⟨by rfl, rfl⟩) hHeld ?_ | (refine takeW (i := 6) (dst := some 11) (v := ?_) rfl rfl (by kernel_rfl) (by kernel_rfl) (by kernel_rfl) (fun _ _ _ h => h) (Or.inl ⟨by rfl, ?_⟩) hHeld ?_; rotate_left; focus (intro w hSw; (try dsimp only at hSw); go_simp; (try with_reducible rfl); done))
    try simp only [Act.put, List.setIfInBounds_toArray, List.set_cons_zero, List.set_cons_succ]
    first | refine takeW (i := 7) (dst := some 12) (v := undef) rfl rfl (by kernel_rfl) (by kernel_rfl) (by kernel_rfl) (fun _ _ _ h => h) (Or.inr ⟨by rfl, rfl⟩) hHeld ?_ | (refine takeW (i := 7) (dst := some 12) (v := ?_) rfl rfl (by kernel_rfl) (by kernel_rfl) (by kernel_rfl) (fun _ _ _ h => h) (Or.inl ⟨by rfl, ?_⟩) hHeld ?_; rotate_left; focus (intro w hSw; (try dsimp only at hSw); go_simp; (try with_reducible rfl); done))
    try simp only [Act.put, List.setIfInBounds_toArray, List.set_cons_zero, List.set_cons_succ]
    first | refine takeW (i := 8) (dst := some 13) (v := undef) rfl rfl (by kernel_rfl) (by kernel_rfl) (by kernel_rfl) (fun _ _ _ h => h) (Or.inr ⟨by rfl, rfl⟩) hHeld ?_ | (refine takeW (i := 8) (dst := some 13) (v := ?_) rfl rfl (by kernel_rfl) (by kernel_rfl) (by kernel_rfl) (fun _ _ _ h => h) (Or.inl ⟨by rfl, ?_⟩) hHeld ?_; rotate_left; focus (intro w hSw; (try dsimp only at hSw); go_simp; (try with_reducible rfl); done))
    try simp only [Act.put, List.setIfInBounds_toArray, List.set_cons_zero, List.set_cons_succ]
    first | refine takeW (i := 9) (dst := some 14) (v := undef) rfl rfl (by kernel_rfl) (by kernel_rfl) (by kernel_rfl) (fun _ _ _ h => h) (Or.inr ⟨by rfl, rfl⟩) hHeld ?_ | (refine takeW (i := 9) (dst := some 14) (v := ?_) rfl rfl (by kernel_rfl) (by kernel_rfl) (by kernel_rfl) (fun _ _ _ h => h) (Or.inl ⟨by rfl, ?_⟩) hHeld ?_; rotate_left; focus (intro w hSw; (try dsimp only at hSw); go_simp; (try with_reducible rfl); done))
    try simp only [Act.put, List.setIfInBounds_toArray, List.set_cons_zero, List.set_cons_succ]
    first | refine takeW (i := 10) (dst := some 15) (v := undef) rfl rfl (by kernel_rfl) (by kernel_rfl) (by kernel_rfl) (fun _ _ _ h => h) (Or.inr ⟨by rfl, rfl⟩) hHeld ?_ | (refine takeW (i := 10) (dst := some 15) (v := ?_) rfl rfl (by kernel_rfl) (by kernel_rfl) (by kernel_rfl) (fun _ _ _ h => h) (Or.inl ⟨by rfl, ?_⟩) hHeld ?_; rotate_left; focus (intro w hSw; (try dsimp only at hSw); go_simp; (try with_reducible rfl); done))
    try simp only [Act.put, List.setIfInBounds_toArray, List.set_cons_zero, List.set_cons_succ]
    first | refine takeW (i := 11) (dst := some 16) (v := undef) rfl rfl (by kernel_rfl) (by kernel_rfl) (by kernel_rfl) (fun _ _ _ h => h) (Or.inr ⟨by rfl, rfl⟩) hHeld ?_ | (refine takeW (i := 11) (dst := some 16) (v := ?_) rfl rfl (by kernel_rfl) (by kernel_rfl) (by kernel_rfl) (fun _ _ _ h => h) (Or.inl ⟨by rfl, ?_⟩) hHeld ?_; rotate_left; focus (intro w hSw; (try dsimp only at hSw); go_simp; (try with_reducible rfl); done))
    try simp only [Act.put, List.setIfInBounds_toArray, List.set_cons_zero, List.set_cons_succ]
    (refine takeW (i := 12) (dst := some 17) (v := ?_) rfl rfl (by kernel_rfl) (by kernel_rfl) (by kernel_rfl) (fun _ _ _ h => h) (Or.inl ⟨by rfl, ?_⟩) hHeld ?_; rotate_left; focus (intro w hSw; (try dsimp only at hSw); go_simp; (try with_reducible rfl); done))
    try simp only [Act.put, List.setIfInBounds_toArray, List.set_cons_zero, List.set_cons_succ]
    (refine takeW (i := 13) (dst := some 4) (v := ?_) rfl rfl (by kernel_rfl) (by kernel_rfl) (by kernel_rfl) (fun _ _ _ h => h) (Or.inl ⟨by rfl, ?_⟩) hHeld ?_; rotate_left; focus (intro w hSw; (try dsimp only at hSw); go_simp; (try with_reducible rfl); done))
    try simp only [Act.put]
    try simp only [List.setIfInBounds_toArray]
    try simp only [List.set_cons_succ]
    try simp only [List.set_cons_zero]
    refine wpAnyH_done (by kernel_rfl) ?_ _
    clear hHeld hS HSS hS1
    have HBF := hid (HBW.out _ HB1.out)
    go_wp2
    go_ret
    exact ⟨rfl, HBF.out⟩
  | true =>
    have HRG := hid (HR1.out.1 rfl).1
    have HWL := hid (HR1.out.1 rfl).2
    obtain ⟨m, rfl⟩ : ∃ m : Nat, n = m := ⟨n.toNat, by have := HRG.out.1; omega⟩
    have CI := hid (CI.out m rfl HRG.out HWL.out)
    obtain ⟨Q, hQ⟩ := ex_eq (withinL es l).length
    have CB : Hid (∀ xa xc X, EAt X xa (withinL es l) → Calls Try.prog 37 #[.int .i64 m, .slice xa Q xc] X fun e w' => ∃ u us LL, e = .returned u ∧ LLOwn w' X.heap.size (fun k => X.heap.size ≤ k) u us LL ∧ (∀ B, B ∈ LL ↔ IsBlk (withinL es l) B) ∧ LL.Nodup ∧ LL.length ≤ 1000 ∧ Below X.heap.size X w') := fun xa xc X hX => by
      rw [hQ]; exact blocksOf_any m xa xc (withinL es l) X hX (within_right HRG.out l)
    rw [← hQ] at CI
    clear hQ HR1
    refine wp_region_held_drew (S := (fun X => X.cell? ⟨w.heap.size, 0, none⟩ = some (.int .i64 m) ∧ X.cell? ⟨w.heap.size, 1, none⟩ = some (.slice a N cap))) (by kernel_rfl) hS (fun hHeld => ?_)
    (refine takeW (i := 0) (dst := some 5) (v := ?_) rfl rfl (by kernel_rfl) (by kernel_rfl) (by kernel_rfl) (fun _ _ _ h => h) (Or.inl ⟨by rfl, ?_⟩) hHeld ?_; rotate_left; focus (intro w hSw; (try dsimp only at hSw); go_simp; (try with_reducible rfl); done))
    try simp only [Act.put, List.setIfInBounds_toArray, List.set_cons_zero, List.set_cons_succ]
    (refine takeW (i := 1) (dst := some 6) (v := ?_) rfl rfl (by kernel_rfl) (by kernel_rfl) (by kernel_rfl) (fun _ _ _ h => h) (Or.inl ⟨by rfl, ?_⟩) hHeld ?_; rotate_left; focus (intro w hSw; (try dsimp only at hSw); go_simp; (try with_reducible rfl); done))
    try simp only [Act.put, List.setIfInBounds_toArray, List.set_cons_zero, List.set_cons_succ]
    refine wpAnyH_ready (rs := [2]) (by kernel_rfl) (by simp) ?_
    refine AllReadyH.cons (o := _) rfl (fun KK hK => ?_) AllReadyH.nil
    go_simp
    refine (CW.out _ HBd.out).mono ?_
    rintro e y1 ⟨rfl, hb⟩
    have HB1 : Hid (Below W.heap.size W y1) := HBd.out.trans (hb.mono HBd.out.size)
    have hS1 := HSS.out y1 HB1.out
    refine hK.out _ _ hS1 (fun hHeld => ?_)
    clear hK KK
    try simp only [Act.put]
    try simp only [List.setIfInBounds_toArray]
    try simp only [List.set_cons_succ]
    try simp only [List.set_cons_zero]
    (refine takeW (i := 3) (dst := some 8) (v := ?_) rfl rfl (by kernel_rfl) (by kernel_rfl) (by kernel_rfl) (fun _ _ _ h => h) (Or.inl ⟨by rfl, ?_⟩) hHeld ?_; rotate_left; focus (intro w hSw; (try dsimp only at hSw); go_simp; (try with_reducible rfl); done))
    try simp only [Act.put, List.setIfInBounds_toArray, List.set_cons_zero, List.set_cons_succ]
    first | refine takeW (i := 4) (dst := some 9) (v := undef) rfl rfl (by kernel_rfl) (by kernel_rfl) (by kernel_rfl) (fun _ _ _ h => h) (Or.inr ⟨by rfl, rfl⟩) hHeld ?_ | (refine takeW (i := 4) (dst := some 9) (v := ?_) rfl rfl (by kernel_rfl) (by kernel_rfl) (by kernel_rfl) (fun _ _ _ h => h) (Or.inl ⟨by rfl, ?_⟩) hHeld ?_; rotate_left; focus (intro w hSw; (try dsimp only at hSw); go_simp; (try with_reducible rfl); done))
    try simp only [Act.put, List.setIfInBounds_toArray, List.set_cons_zero, List.set_cons_succ]
    first | refine takeW (i := 5) (dst := some 10) (v := undef) rfl rfl (by kernel_rfl) (by kernel_rfl) (by kernel_rfl) (fun _ _ _ h => h) (Or.inr ⟨by rfl, rfl⟩) hHeld ?_ | (refine takeW (i := 5) (dst := some 10) (v := ?_) rfl rfl (by kernel_rfl) (by kernel_rfl) (by kernel_rfl) (fun _ _ _ h => h) (Or.inl ⟨by rfl, ?_⟩) hHeld ?_; rotate_left; focus (intro w hSw; (try dsimp only at hSw); go_simp; (try with_reducible rfl); done))
    try simp only [Act.put, List.setIfInBounds_toArray, List.set_cons_zero, List.set_cons_succ]
    first | refine takeW (i := 6) (dst := some 11) (v := undef) rfl rfl (by kernel_rfl) (by kernel_rfl) (by kernel_rfl) (fun _ _ _ h => h) (Or.inr ⟨by rfl, rfl⟩) hHeld ?_ | (refine takeW (i := 6) (dst := some 11) (v := ?_) rfl rfl (by kernel_rfl) (by kernel_rfl) (by kernel_rfl) (fun _ _ _ h => h) (Or.inl ⟨by rfl, ?_⟩) hHeld ?_; rotate_left; focus (intro w hSw; (try dsimp only at hSw); go_simp; (try with_reducible rfl); done))
    try simp only [Act.put, List.setIfInBounds_toArray, List.set_cons_zero, List.set_cons_succ]
    first | refine takeW (i := 7) (dst := some 12) (v := undef) rfl rfl (by kernel_rfl) (by kernel_rfl) (by kernel_rfl) (fun _ _ _ h => h) (Or.inr ⟨by rfl, rfl⟩) hHeld ?_ | (refine takeW (i := 7) (dst := some 12) (v := ?_) rfl rfl (by kernel_rfl) (by kernel_rfl) (by kernel_rfl) (fun _ _ _ h => h) (Or.inl ⟨by rfl, ?_⟩) hHeld ?_; rotate_left; focus (intro w hSw; (try dsimp only at hSw); go_simp; (try with_reducible rfl); done))
    try simp only [Act.put, List.setIfInBounds_toArray, List.set_cons_zero, List.set_cons_succ]
    refine wpAnyH_ready (rs := [8]) (by kernel_rfl) (by simp) ?_
    refine AllReadyH.cons (o := _) rfl (fun KK hK => ?_) AllReadyH.nil
    go_simp
    refine (CI.out _ HB1.out).mono ?_
    rintro e y2 ⟨xa, xc, rfl, hea, hb2⟩
    have HB2 : Hid (Below W.heap.size W y2) := HB1.out.trans (hb2.mono HB1.out.size)
    have hS2 := HSS.out y2 HB2.out
    have C3 := hid (CB.out xa xc y2 hea)
    clear hea hb2
    refine hK.out _ _ hS2 (fun hHeld => ?_)
    clear hK KK
    try simp only [Act.put]
    try simp only [List.setIfInBounds_toArray]
    try simp only [List.set_cons_succ]
    try simp only [List.set_cons_zero]
    refine wpAnyH_ready (rs := [9]) (by kernel_rfl) (by simp) ?_
    refine AllReadyH.cons (o := _) rfl (fun KK hK => ?_) AllReadyH.nil
    go_simp
    refine C3.out.mono ?_
    rintro e y3 ⟨v, us, LL, rfl, hown, hLL, hnd, hlen, hb3⟩
    have HB3 : Hid (Below W.heap.size W y3) := HB2.out.trans (hb3.mono HB2.out.size)
    have hS3 := HSS.out y3 HB3.out
    obtain ⟨x3, c3, rfl, _⟩ := sl_own hown.1
    have hti := two_iff HRG.out HWL.out hLL hnd
    have hr1 : ((LL.length : Int) == 1) = r := by
      cases r with
      | true => rw [hti.2 (HR.out.1 rfl).2]; rfl
      | false => exact beq_eq_false_iff_ne.2 (fun e => by have := HR.out.2 ⟨HRG.out, hti.1 (by omega)⟩; cases this)
    obtain ⟨K, hK3⟩ := ex_eq LL.length
    rw [← hK3] at hr1 ⊢
    clear hown hLL hnd hb3 hti hK3 hlen C3
    refine hK.out _ _ hS3 (fun hHeld => ?_)
    clear hK KK
    try simp only [Act.put]
    try simp only [List.setIfInBounds_toArray]
    try simp only [List.set_cons_succ]
    try simp only [List.set_cons_zero]
    first | refine takeW (i := 10) (dst := some 15) (v := undef) rfl rfl (by kernel_rfl) (by kernel_rfl) (by kernel_rfl) (fun _ _ _ h => h) (Or.inr ⟨by rfl, rfl⟩) hHeld ?_ | (refine takeW (i := 10) (dst := some 15) (v := ?_) rfl rfl (by kernel_rfl) (by kernel_rfl) (by kernel_rfl) (fun _ _ _ h => h) (Or.inl ⟨by rfl, ?_⟩) hHeld ?_; rotate_left; focus (intro w hSw; (try dsimp only at hSw); go_simp; (try with_reducible rfl); done))
    try simp only [Act.put, List.setIfInBounds_toArray, List.set_cons_zero, List.set_cons_succ]
    first | refine takeW (i := 11) (dst := some 16) (v := undef) rfl rfl (by kernel_rfl) (by kernel_rfl) (by kernel_rfl) (fun _ _ _ h => h) (Or.inr ⟨by rfl, rfl⟩) hHeld ?_ | (refine takeW (i := 11) (dst := some 16) (v := ?_) rfl rfl (by kernel_rfl) (by kernel_rfl) (by kernel_rfl) (fun _ _ _ h => h) (Or.inl ⟨by rfl, ?_⟩) hHeld ?_; rotate_left; focus (intro w hSw; (try dsimp only at hSw); go_simp; (try with_reducible rfl); done))
    try simp only [Act.put, List.setIfInBounds_toArray, List.set_cons_zero, List.set_cons_succ]
    (refine takeW (i := 12) (dst := some 17) (v := ?_) rfl rfl (by kernel_rfl) (by kernel_rfl) (by kernel_rfl) (fun _ _ _ h => h) (Or.inl ⟨by rfl, ?_⟩) hHeld ?_; rotate_left; focus (intro w hSw; (try dsimp only at hSw); go_simp; (try with_reducible rfl); done))
    try simp only [Act.put, List.setIfInBounds_toArray, List.set_cons_zero, List.set_cons_succ]
    (refine takeW (i := 13) (dst := some 4) (v := ?_) rfl rfl (by kernel_rfl) (by kernel_rfl) (by kernel_rfl) (fun _ _ _ h => h) (Or.inl ⟨by rfl, ?_⟩) hHeld ?_; rotate_left; focus (intro w hSw; (try dsimp only at hSw); go_simp; (try with_reducible rfl); done))
    try simp only [Act.put]
    try simp only [List.setIfInBounds_toArray]
    try simp only [List.set_cons_succ]
    try simp only [List.set_cons_zero]
    refine wpAnyH_done (by kernel_rfl) ?_ _
    clear hHeld hS HSS hS1 hS2 hS3
    have HBF := hid (HBW.out _ HB3.out)
    go_wp2
    go_ret
    exact ⟨rfl, HBF.out⟩
end Go.Proofs.Ytlebimolgienkaa
namespace Go.Proofs.Ytlebimolgienkaa
open Go.RowKit Go.Lib

theorem blockOps : BlockOps := ⟨fun n a cap es b w hN hE hb => blkOf_any n a cap es b w hN hE hb, fun n a cap es la lc l b r w hN hL hE hI hb hr => blkTwo_any n a cap es la lc l b r w hN hL hE hI hb hr⟩
end Go.Proofs.Ytlebimolgienkaa
namespace Go.Proofs.Ytlebimolgienkaa
open Go.RowKit Go.Lib

def esB : List (Int × Int) := [(0, 1), (0, 2), (1, 2), (2, 3)]
theorem esB_right : RightG ((5 : Nat) : Int) esB := by
  refine ⟨by decide, by decide, by decide, by decide, ?_⟩
  unfold Rises esB
  decide
theorem esB_adj {x y : Int} : Adj esB x y ↔ (x, y) ∈ esB ∨ (y, x) ∈ esB := Iff.rfl
theorem esB_top : (topF (fun v => nbL (v : Int) esB) 5 Dst.zero (List.range 5)).blk = [[2, 3], [0, 1, 2]] := by decide
theorem esB_rel : OfRel ((5 : Nat) : Int) esB [2] [[0, 1, 2], [2, 3]] := by
  obtain ⟨h1, _⟩ := top_blocks (es := esB) (m := 5) (nb := fun v => nbL (v : Int) esB) esB_right (fun v x => nb_adj esB_right)
  rw [esB_top] at h1
  have hB : BlocksL esB [[0, 1, 2], [2, 3]] := ⟨fun B => by rw [← h1]; simp only [List.mem_cons, List.not_mem_nil, or_false]; exact Or.comm, by decide⟩
  refine Or.inl ⟨esB_right, hB, cuts_of esB_right hB (by decide) (fun v => ?_)⟩
  constructor
  · intro h
    have e : v = 2 := by simpa using h
    subst e
    decide
  · rintro ⟨⟨h1, h2⟩, h3⟩
    have h5 : v = 0 ∨ v = 1 ∨ v = 2 ∨ v = 3 ∨ v = 4 := by omega
    rcases h5 with rfl | rfl | rfl | rfl | rfl
    · exact absurd h3 (by decide)
    · exact absurd h3 (by decide)
    · decide
    · exact absurd h3 (by decide)
    · exact absurd h3 (by decide)
theorem two_top {l : List Int} (hW : WholeL ((5 : Nat) : Int) esB l) : (topF (fun v => nbL (v : Int) (withinL esB l)) 5 Dst.zero (List.range 5)).blk.length = 1 ↔ TwoL ((5 : Nat) : Int) esB l := by
  obtain ⟨h1, h2⟩ := top_blocks (es := withinL esB l) (m := 5) (nb := fun v => nbL (v : Int) (withinL esB l)) (within_right esB_right l) (fun v x => nb_adj (within_right esB_right l))
  exact two_iff esB_right hW h1 h2
theorem esB_two1 : TwoL ((5 : Nat) : Int) esB [2, 0, 1] := (two_top (WholeL.of_head (by decide) (by decide) (by decide) (fun y hy => by
  simp at hy
  rcases hy with rfl | rfl | rfl
  · exact Rch.refl _ _ _
  · exact (Rch.refl _ _ _).step (esB_adj.2 (by decide)) (by decide)
  · exact (Rch.refl _ _ _).step (esB_adj.2 (by decide)) (by decide)))).1 (by decide)
theorem esB_two2 : TwoL ((5 : Nat) : Int) esB [3, 2] := (two_top (WholeL.of_head (by decide) (by decide) (by decide) (fun y hy => by
  simp at hy
  rcases hy with rfl | rfl
  · exact Rch.refl _ _ _
  · exact (Rch.refl _ _ _).step (esB_adj.2 (by decide)) (by decide)))).1 (by decide)
theorem esB_two3 : ¬ TwoL ((5 : Nat) : Int) esB [1, 2, 3] := fun h => by
  have h2 := (two_top h.2.1).2 h
  revert h2
  decide
set_option maxHeartbeats 4000000 in
set_option maxRecDepth 100000 in
theorem bshown_any (O : BlockOps) (w : World) :
    Calls Try.prog 12 #[] w fun e w' => e = .returned (.bool true) ∧ Below w.heap.size w w' := by
  have HO := hid O
  clear O
  obtain ⟨W1, hW1⟩ := ex_eq ((w.alloc (.cells #[.int .i64 0, .int .i64 1, .int .i64 0, .int .i64 2, .int .i64 1, .int .i64 2, .int .i64 2, .int .i64 3] 56)).alloc (.cells #[.int .i64 5, .slice (some ⟨w.heap.size, 0, none⟩) 4 4] 26))
  have hs1 : W1.heap.size = w.heap.size + 1 + 1 := by rw [hW1]; simp
  have hb1 : Below w.heap.size w W1 := by rw [hW1]; exact (below_one w _).trans ((below_one _ _).mono (by simp))
  have hE1 : EAt (w.alloc (.cells #[.int .i64 0, .int .i64 1, .int .i64 0, .int .i64 2, .int .i64 1, .int .i64 2, .int .i64 2, .int .i64 3] 56)) (some ⟨w.heap.size, 0, none⟩) esB := eat_of_cells (by simp) (fun j u hu => by
    rw [Nat.zero_add, cell_of_heap (heap_alloc_new w _), ← Array.getElem?_toList]
    exact hu)
  have HGC : Hid (GC W1 (w.heap.size + 1) ((5 : Nat) : Int) (some ⟨w.heap.size, 0, none⟩) 4 4 esB) := by
    have o := heap_alloc_new (w.alloc (.cells #[.int .i64 0, .int .i64 1, .int .i64 0, .int .i64 2, .int .i64 1, .int .i64 2, .int .i64 2, .int .i64 3] 56)) (.cells #[.int .i64 5, .slice (some ⟨w.heap.size, 0, none⟩) 4 4] 26)
    rw [← hW1, show (w.alloc (.cells #[.int .i64 0, .int .i64 1, .int .i64 0, .int .i64 2, .int .i64 1, .int .i64 2, .int .i64 2, .int .i64 3] 56)).heap.size = w.heap.size + 1 by simp] at o
    exact ⟨cell_of_heap o 0, cell_of_heap o 1, by rw [hW1]; exact hE1.below (below_one _ _)⟩
  have C1 := hid (HO.out.of 5 (some ⟨w.heap.size, 0, none⟩) 4 esB true W1 (by decide) HGC.out.at_ ⟨fun _ => esB_right, fun _ => rfl⟩)
  have CT : Hid (∀ (la : Option Addr) (lc M : Nat) (l : List Int) (r : Bool) X, l.length = M → M ≤ 10 → Below W1.heap.size W1 X → IAt X la l → (r = true ↔ TwoL ((5 : Nat) : Int) esB l) → Calls Try.prog 34 #[.agg #[.int .i64 5, .slice (some ⟨w.heap.size, 0, none⟩) 4 4], .slice la M lc] X fun e w' => e = .returned (.bool r) ∧ Below X.heap.size X w') := fun la lc M l r X hM hM2 hX hI hr => by
    subst hM
    exact HO.out.two 5 (some ⟨w.heap.size, 0, none⟩) 4 esB la lc l true r X (by decide) (by omega) (HGC.out.on hX).at_ hI ⟨fun _ => esB_right, fun _ => rfl⟩ (by rw [hr]; exact ⟨fun h => ⟨esB_right, h⟩, fun h => h.2⟩)
  have HGX : Hid (∀ X, Below W1.heap.size W1 X → X.cell? ⟨w.heap.size + 1, 0, none⟩ = some (.int .i64 5) ∧ X.cell? ⟨w.heap.size + 1, 1, none⟩ = some (.slice (some ⟨w.heap.size, 0, none⟩) 4 4)) := fun X hX => (HGC.out.on hX).cells
  have HW1 := hid hW1
  have HB1 := hid hb1
  obtain ⟨g0, g1⟩ := HGX.out W1 (Below.refl _ _)
  clear hW1 hb1 hE1 HGC
  have HS1 := hid hs1
  clear hs1
  go_enter Try.func12, Try.ntmps12
  go_wp2_with fail
  rw [← HW1.out]
  clear HW1
  refine C1.out.mono ?_
  rintro e w2 ⟨v, rfl, Cs, Bs, ca, cc, ba, bc, rfl, hrel, hca, hba, hb2⟩
  obtain ⟨rfl, rfl⟩ := hrel.one esB_rel
  obtain ⟨W3, hW3⟩ := ex_eq (w2.alloc (.cells #[.slice ca 1 cc, .slice ba 2 bc] 31))
  have hb23 : Below w2.heap.size w2 W3 := by rw [hW3]; exact below_one _ _
  have hb3 : Below W1.heap.size W1 W3 := hb2.trans (hb23.mono hb2.size)
  have o3 : W3.heap[w2.heap.size]? = some (.cells #[.slice ca 1 cc, .slice ba 2 bc] 31 (0, 0)) := by rw [hW3]; exact heap_alloc_new _ _
  obtain ⟨gc, oc, rfl, _, hcc⟩ := (hca.below hb23) (by decide)
  have x0 : W3.cell? ⟨gc, oc, none⟩ = some (.int .i64 2) := by have h := hcc 0 (by decide); simpa using h
  have hba3 := hba.below hb23
  obtain ⟨gb, ob, a1, c1, rfl, x1, i1⟩ := hba3.at (k := 0) (by decide)
  obtain ⟨gb', ob', a2, c2, e2, x2, i2⟩ := hba3.at (k := 1) (by decide)
  cases e2
  obtain ⟨g2, o2, rfl, _, hc2⟩ := i2 (by decide)
  have x3 : W3.cell? ⟨g2, o2 + 1, none⟩ = some (.int .i64 3) := by have h := hc2 1 (by decide); simpa using h
  have x1' : W3.cell? ⟨gb, ob, none⟩ = some (.slice a1 3 c1) := by simpa using x1
  have x2' : W3.cell? ⟨gb, ob + 1, none⟩ = some (.slice (some ⟨g2, o2, none⟩) 2 c2) := by simpa using x2
  have t0 := cell_of_heap o3 0
  have t1 := cell_of_heap o3 1
  obtain ⟨k0, k1⟩ := HGX.out W3 hb3
  have HW3 := hid hW3
  have HB3 := hid hb3
  have CA := hid (CT.out (some ⟨W3.heap.size, 0, none⟩) 3 3 [2, 0, 1] true (W3.alloc (.cells #[.int .i64 2, .int .i64 0, .int .i64 1] 3)) rfl (by decide) (hb3.alloc hb3.size _) (iat_new W3 [2, 0, 1] _ _ rfl) ⟨fun _ => esB_two1, fun _ => rfl⟩)
  clear hrel hca hba hb2 hb23 hb3 o3 hcc hba3 x1 x2 i1 hc2 hW3 C1 g0 g1
  go_upto_region 3 with fail
  rw [← HW3.out]
  clear HW3
  go_wp2_with fail
  refine CA.out.mono ?_
  rintro e w4 ⟨rfl, hb4⟩
  have hb34 : Below W1.heap.size W1 w4 := HB3.out.trans ((((below_one W3 (.cells #[.int .i64 2, .int .i64 0, .int .i64 1] 3)).trans (hb4.mono (by simp)))).mono HB3.out.size)
  obtain ⟨m0, m1⟩ := HGX.out w4 hb34
  have HB4 := hid hb34
  have CB := hid (CT.out (some ⟨w4.heap.size, 0, none⟩) 2 2 [3, 2] true (w4.alloc (.cells #[.int .i64 3, .int .i64 2] 3)) rfl (by decide) (hb34.alloc hb34.size _) (iat_new w4 [3, 2] _ _ rfl) ⟨fun _ => esB_two2, fun _ => rfl⟩)
  clear hb4 hb34 x0 x1' x2' x3 t0 t1 k0 k1 CA HB3
  go_wp2_with fail
  refine CB.out.mono ?_
  rintro e w5 ⟨rfl, hb5⟩
  have hb45 : Below W1.heap.size W1 w5 := HB4.out.trans ((((below_one w4 (.cells #[.int .i64 3, .int .i64 2] 3)).trans (hb5.mono (by simp)))).mono HB4.out.size)
  obtain ⟨k0, k1⟩ := HGX.out w5 hb45
  have HB5 := hid hb45
  have CC := hid (CT.out (some ⟨w5.heap.size, 0, none⟩) 3 3 [1, 2, 3] false (w5.alloc (.cells #[.int .i64 1, .int .i64 2, .int .i64 3] 3)) rfl (by decide) (hb45.alloc hb45.size _) (iat_new w5 [1, 2, 3] _ _ rfl) ⟨fun h => (by cases h), fun h => absurd h esB_two3⟩)
  clear hb5 hb45 m0 m1 CB HB4
  go_wp2_with fail
  refine CC.out.mono ?_
  rintro e w6 ⟨rfl, hb6⟩
  have HB6 : Hid (Below w.heap.size w w6) := HB1.out.trans ((HB5.out.trans ((((below_one w5 (.cells #[.int .i64 1, .int .i64 2, .int .i64 3] 3)).trans (hb6.mono (by simp)))).mono HB5.out.size)).mono HB1.out.size)
  clear hb6 k0 k1 CC HB5
  go_wp2
  go_ret
  exact ⟨rfl, HB6.out⟩
end Go.Proofs.Ytlebimolgienkaa
namespace Go.Proofs.Ytlebimolgienkaa
open Go.RowKit Go.Lib

set_option maxHeartbeats 1000000 in
set_option maxRecDepth 100000 in
theorem net_any (n0 : Int) (a : Option Addr) (N cap : Nat) (l : List (Int × Int)) (most : Nat) (w : World) (hmost : most ≤ 1000) (hl : N = l.length) (hE : EAt w a l) :
    Calls Try.prog 13 #[.agg #[.int .i64 n0, .slice a N cap], .int .i64 most] w fun e w' => ∃ (m : Nat) (ys : List (Int × Int)) (a' : Option Addr) (cap' : Nat), e = .returned (.agg #[.int .i64 m, .slice a' ys.length cap']) ∧ m ≤ most ∧ RightG m ys ∧ ys.length ≤ 300 ∧ Sl a' cap' ys.length ∧ EAt w' a' ys ∧ Below w.heap.size w w' := by
  obtain ⟨W0, hW0, hsz, o1, o2, hB0⟩ := new_two' w (.cells #[.int .i64 n0, .slice a N cap] 24) (.cells #[.int .i64 0, .slice none 0 0] 26)
  have CA := hid (any_any n0 a N cap l most W0 hmost hl (hE.below hB0))
  have HW0 := hid hW0
  have HO2 := hid o2
  have HB0 := hid hB0
  clear hl hE hmost hW0 o1 o2 hB0
  go_enter Try.func13, Try.ntmps13
  go_wp2_with fail
  rw [← HW0.out]
  refine CA.out.mono ?_
  rintro e w3 ⟨m, ys, a3, c3, rfl, hm, hR, hys, hsl, hE3, hb3⟩
  obtain ⟨M, hM⟩ := ex_eq ys.length
  have HM := hid hM
  rw [← hM]
  have o3 : w3.heap[w.heap.size + 1]? = some (.cells #[.int .i64 0, .slice none 0 0] 26) := (hb3.block _ (by omega)).trans HO2.out
  have HNE := hid (eat_off_box o3 hE3)
  obtain ⟨x0, x1⟩ := two_cells o3
  have xf := frozen_of_heap o3
  have HB3 : Hid (Below w.heap.size w w3) := HB0.out.trans (hb3.mono HB0.out.size)
  have HE3 := hid hE3
  have HR := hid hR
  have HSL := hid hsl
  clear hM hE3 hb3 hR hsl o3 CA HW0 HO2 HB0
  go_wp2
  refine bodyPost_ret (v := .agg #[.int .i64 m, .slice a3 M c3]) ?_ rfl ⟨m, ys, a3, c3, by rw [← HM.out], hm, HR.out, hys, HSL.out, (HE3.out.set (p := ⟨w.heap.size + 1, 0, none⟩) HNE.out _).set (p := ⟨w.heap.size + 1, 1, none⟩) HNE.out _, (HB3.out.setCell (p := ⟨w.heap.size + 1, 0, none⟩) (by simp) _).setCell (p := ⟨w.heap.size + 1, 1, none⟩) (by simp) _⟩
  rw [results_cell1 rfl]
  go_simp
end Go.Proofs.Ytlebimolgienkaa
namespace Go.Proofs.Ytlebimolgienkaa
open Go.RowKit Go.Lib

/-- Both parts, side by side. -/
structure TwoP (PA : World → Addr → Nat → (Nat → Nat) → (Nat → Prop) → Prop) (u w : World) (b0 : Nat) (p : Addr) (b g : Nat) (a : Option Addr) (n cap : Nat) (f : Nat → Nat) (S : Nat → Prop) : Prop where
  pa : PA w p n f S
  ge : ∀ k, S k → b0 ≤ k
  nb : ¬ S b
  ng : 0 < n → ¬ S g
  qa : QAt w b g a n cap f
  qb : b0 ≤ b
  qg : b0 ≤ g
  bel : Below b0 u w
theorem TwoP.next {PA : World → Addr → Nat → (Nat → Nat) → (Nat → Prop) → Prop} {u w w' : World} {b0 : Nat} {p : Addr} {b g : Nat} {a : Option Addr} {n cap : Nat} {f f' : Nat → Nat} {S : Nat → Prop} (h : TwoP PA u w b0 p b g a n cap f S) (hN : PNext PA S w w' p n f') (h0 : b0 ≤ u.heap.size) :
    ∃ S', PA w' p n f' S' ∧ (∀ k, S' k → b0 ≤ k) ∧ ¬ S' b ∧ (0 < n → ¬ S' g) ∧ QAt w' b g a n cap f ∧ Below b0 u w' := by
  obtain ⟨S', h1, h2, h3, h4, h5⟩ := hN.step h.ge h.bel (Nat.le_trans h0 h.bel.size)
  have hbl := block_lt_of_cell h.qa.box
  refine ⟨S', h1, h2, fun e => (h5 b e).elim h.nb (fun e => by simp at hbl; omega), fun hn e => (h5 g e).elim (h.ng hn) (fun e => by have := (h.qa.row hn).2.1; omega), h.qa.kept h4 h.nb h.ng, h3⟩
theorem TwoP.same {PA : World → Addr → Nat → (Nat → Nat) → (Nat → Prop) → Prop} {u w w' : World} {b0 : Nat} {p : Addr} {b g : Nat} {a : Option Addr} {n cap : Nat} {f : Nat → Nat} {S : Nat → Prop} (h : TwoP PA u w b0 p b g a n cap f S) (hN : PNext PA S w w' p n f) (h0 : b0 ≤ u.heap.size) : ∃ S', TwoP PA u w' b0 p b g a n cap f S' := by
  obtain ⟨S', h1, h2, h3, h4, h5, h6⟩ := h.next hN h0
  exact ⟨S', h1, h2, h3, h4, h5, h.qb, h.qg, h6⟩
end Go.Proofs.Ytlebimolgienkaa
namespace Go.Proofs.Ytlebimolgienkaa
open Go.RowKit Go.Lib

/-- Two parts, side by side. -/
structure PPr (PA : World → Addr → Nat → (Nat → Nat) → (Nat → Prop) → Prop) (u w : World) (b0 : Nat) (p q : Addr) (m : Nat) (f h : Nat → Nat) (S T : Nat → Prop) : Prop where
  pa : PA w p m f S
  qa : PA w q m h T
  sep : ∀ k, S k → ¬ T k
  geS : ∀ k, S k → b0 ≤ k
  geT : ∀ k, T k → b0 ≤ k
  bel : Below b0 u w
theorem PPr.turn {PA : World → Addr → Nat → (Nat → Nat) → (Nat → Prop) → Prop} {u w : World} {b0 : Nat} {p q : Addr} {m : Nat} {f h : Nat → Nat} {S T : Nat → Prop} (H : PPr PA u w b0 p q m f h S T) : PPr PA u w b0 q p m h f T S := ⟨H.qa, H.pa, fun k hk e => H.sep k e hk, H.geT, H.geS, H.bel⟩
end Go.Proofs.Ytlebimolgienkaa
namespace Go.Proofs.Ytlebimolgienkaa
open Go.RowKit Go.Lib

theorem RowB.kept {S : Nat → Prop} {w w' : World} {g n : Nat} {c : Nat → Bool} (h : RowB w g n c) (hk : KeptBut S w w') (hs : ¬ S g) : RowB w' g n c :=
  ⟨Nat.lt_of_lt_of_le h.1 hk.size, fun j hj => ⟨(hk.cell (p := ⟨g, j, none⟩) h.1 hs).trans (h.2 j hj).1, (hk.frozen (p := ⟨g, j, none⟩) h.1 hs).trans (h.2 j hj).2⟩⟩
end Go.Proofs.Ytlebimolgienkaa
namespace Go.Proofs.Ytlebimolgienkaa
open Go.RowKit Go.Lib Go.Shelf Go.Maps

/-- Rows of numbers of their own, each in a block of its own, that may be written. -/
def RowsOwn (w : World) (base : Nat) (v : Value) (LL : List (List Int)) : Prop :=
  ∃ a cap, v = .slice a LL.length cap ∧ (0 < LL.length → ∃ blk, a = some ⟨blk, 0, none⟩ ∧ base ≤ blk ∧ blk < w.heap.size ∧ ∃ gs : Nat → Nat,
    (∀ k (hk : k < LL.length), ∃ ck, w.cell? ⟨blk, k, none⟩ = some (.slice (some ⟨gs k, 0, none⟩) LL[k].length ck) ∧ base ≤ gs k ∧ gs k ≠ blk ∧ 0 < LL[k].length ∧ Row1 w (gs k) LL[k].length (fun j => LL[k][j]?.getD 0) ∧ LL[k].length ≤ ck) ∧
    ∀ i j, i < LL.length → j < LL.length → i ≠ j → gs i ≠ gs j)
theorem RowsOwn.in {w : World} {base : Nat} {v : Value} {LL : List (List Int)} (h : RowsOwn w base v LL) : ∃ a cap, v = .slice a LL.length cap ∧ LLIn w (fun k => base ≤ k) a LL := by
  obtain ⟨a, cap, hv, h⟩ := h
  refine ⟨a, cap, hv, fun h0 => ?_⟩
  obtain ⟨blk, ha, hb, hlt, gs, hr, _⟩ := h h0
  refine ⟨blk, 0, ha, hlt, hb, fun k hk => ?_⟩
  obtain ⟨ck, h1, h2, _, _, h4, _⟩ := hr k hk
  refine ⟨_, ck, by rw [Nat.zero_add]; exact h1, fun _ => ⟨gs k, 0, rfl, h4.1, fun j hj => ?_⟩, fun g off e _ => by cases e; exact h2⟩
  rw [Nat.zero_add, (h4.2 j hj).1]
  simp [hj]

/-- What has come is the classes: of each the row of its numbers, each once. -/
structure Rws (w : World) (base n : Nat) (f : Nat → Nat) (xs : List (Int × (Option Addr × Nat × Nat))) : Prop where
  row : ∀ x ∈ xs, f x.1.toNat ∈ repsF n f ∧ w.ownsInts base 3 .i64 (slv x.2) (classF n f (f x.1.toNat))
  inj : ∀ i j (hi : i < xs.length) (hj : j < xs.length), f xs[i].1.toNat = f xs[j].1.toNat → i = j
  all : ∀ r ∈ repsF n f, ∃ k, ∃ h : k < xs.length, f xs[k].1.toNat = r
  apart : ∀ i j (hi : i < xs.length) (hj : j < xs.length), i ≠ j → (slv xs[i].2).ownBlock = none ∨ (slv xs[i].2).ownBlock ≠ (slv xs[j].2).ownBlock
theorem Row1.grown {w w' : World} {row : Option Nat} {g n : Nat} {c : Nat → Int} (h : Row1 w g n c) (hg : w.grownBy w' row) (hne : some g ≠ row) : Row1 w' g n c :=
  ⟨Nat.lt_of_lt_of_le h.1 hg.size, fun j hj => ⟨(World.cell?_of_block (w := w) (a := ⟨g, j, none⟩) (hg.block g h.1 hne)).trans (h.2 j hj).1, (World.frozen?_of_block (w := w) (a := ⟨g, j, none⟩) (hg.block g h.1 hne)).trans (h.2 j hj).2⟩⟩
theorem Row1.below {w w' : World} {g n : Nat} {c : Nat → Int} (h : Row1 w g n c) (hb : Below w.heap.size w w') : Row1 w' g n c := h.grown (grown_of_below hb) (by simp)
end Go.Proofs.Ytlebimolgienkaa
namespace Go.Proofs.Ytlebimolgienkaa
open Go.RowKit Go.Lib Go.Shelf Go.Maps

/-- Ahead of the sort: all that was collected. -/
structure Pre (b g n : Nat) (f rt : Nat → Nat) (c : Nat) (w w1 w2 w3 : World) (v : Value) (xs : List (Int × (Option Addr × Nat × Nat))) : Prop where
  px : PX w1 b g n f rt c
  rws : Rws w1 (w.heap.size + 1) n f xs
  kept : KeptBut (fun k => k = g) w w1
  b12 : Below w1.heap.size w1 w2
  b23 : Below w2.heap.size w2 w3
  row : w3.ownsRow w2.heap.size 28 1 v xs.length (xs.map (fun x => slv x.2))
theorem Pre.lt {b g n : Nat} {f rt : Nat → Nat} {c : Nat} {w w1 w2 w3 : World} {v : Value} {xs : List (Int × (Option Addr × Nat × Nat))} (h : Pre b g n f rt c w w1 w2 w3 v xs) : w.heap.size ≤ w1.heap.size ∧ w1.heap.size ≤ w2.heap.size ∧ w2.heap.size ≤ w3.heap.size := ⟨h.kept.size, h.b12.size, h.b23.size⟩
theorem Pre.len {b g n : Nat} {f rt : Nat → Nat} {c : Nat} {w w1 w2 w3 : World} {v : Value} {xs : List (Int × (Option Addr × Nat × Nat))} (h : Pre b g n f rt c w w1 w2 w3 v xs) : xs.length = 0 → (classesF n f) = [] := fun h0 => by
  have : repsF n f = [] := by
    cases hr : repsF n f with
    | nil => rfl
    | cons r l => obtain ⟨k, hk, _⟩ := h.rws.all r (by rw [hr]; simp); omega
  unfold classesF
  rw [this]
  rfl
/-- Behind the sort. -/
theorem Pre.end {b g n : Nat} {f rt : Nat → Nat} {c : Nat} {w w1 w2 w3 w4 : World} {v : Value} {xs : List (Int × (Option Addr × Nat × Nat))} (h : Pre b g n f rt c w w1 w2 w3 v xs) {row : Option Nat} (hg : w3.grownBy w4 row) (hr : ∀ k, row = some k → w2.heap.size ≤ k) (hb : b < w.heap.size) (hgl : g < w.heap.size) : PX w4 b g n f rt c ∧ KeptBut (fun k => k = g) w w4 := by
  obtain ⟨l1, l2, l3⟩ := h.lt
  have k13 : KeptBut (fun k => w1.heap.size ≤ k) w1 w3 := KeptBut.of_below (h.b12.trans (h.b23.mono l2))
  have k34 : KeptBut (fun k => w1.heap.size ≤ k) w3 w4 := KeptBut.one hg (fun k hk => Nat.le_trans l2 (hr k hk))
  have k14 := k13.trans k34
  refine ⟨h.px.kept k14 (by omega) (by omega), ⟨k14.os.trans h.kept.os, k14.tape.trans h.kept.tape, k14.output.trans h.kept.output, Nat.le_trans l1 k14.size, fun i hi hne => (k14.block i (by omega) (by omega)).trans (h.kept.block i hi hne)⟩⟩

end Go.Proofs.Ytlebimolgienkaa
