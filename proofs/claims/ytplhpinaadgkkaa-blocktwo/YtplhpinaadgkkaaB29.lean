/-
  The document's Two (layer 7).
-/
import Derived.Test.YtplhpinaadgkkaaB12
import Derived.Test.YtplhpinaadgkkaaB28
import Derived.Test.YtplhpinaadgkkaaB19
import Derived.Test.YtplhpinaadgkkaaB08
import Derived.Deep.DeepCutAuto
namespace Go.Proofs.Ytplhpinaadgkkaa
open Go.RowKit Go.Lib

theorem erase_split (l : List Int) (i : Nat) : l.eraseIdx i = l.take i ++ l.drop (i + 1) := List.eraseIdx_eq_take_drop_succ l i
/-- Without each of the first k the others are whole. -/
def ErTo (n : Int) (es : List (Int × Int)) (l : List Int) (M k : Nat) : Prop := 2 < M → ∀ j, j < k → WholeL n es (l.eraseIdx j)
set_option maxHeartbeats 4000000 in
set_option maxRecDepth 100000 in
theorem rtwo_any (n : Int) (a : Option Addr) (cap : Nat) (es : List (Int × Int)) (la : Option Addr) (lc : Nat) (l : List Int) (b r : Bool) (w : World) (hN : es.length ≤ 1000000) (hL : l.length ≤ 1000000) (hlc : l.length ≤ lc) (hE : EAt w a es) (hI : IAt w la l) (hb : b = true ↔ RightG n es) (hr : r = true ↔ (RightG n es ∧ TwoL n es l)) :
    Calls Try.prog 16 #[.agg #[.int .i64 n, .slice a es.length cap], .slice la l.length lc] w fun e w' => e = .returned (.bool r) ∧ Below w.heap.size w w' := by
  obtain ⟨N, hNe⟩ := ex_eq es.length
  obtain ⟨M, hMe⟩ := ex_eq l.length
  obtain ⟨i0, hi0, hz0, hz1, hz2⟩ := info_parts Try.info3
  obtain ⟨W, hW⟩ := ex_eq (w.alloc (.cells #[.int .i64 n, .slice a N cap] 26))
  have hbW : Below w.heap.size w W := by rw [hW]; exact (Below.refl _ _).alloc (Nat.le_refl _) _
  have hO : W.heap[w.heap.size]? = some (.cells #[.int .i64 n, .slice a N cap] 26 (0, 0)) := by rw [hW]; exact heap_alloc_new _ _
  have hsW : w.heap.size < W.heap.size := (Array.getElem?_eq_some_iff.1 hO).1
  have HGC : Hid (∀ X, Below W.heap.size W X → GC X w.heap.size n a N cap es ∧ IAt X la l ∧ Below w.heap.size w X) := fun X hX => by
    have o := (hX.block _ hsW).trans hO
    have hbx : Below w.heap.size w X := hbW.trans (hX.mono (by omega))
    exact ⟨⟨cell_of_heap o 0, cell_of_heap o 1, hE.below hbx⟩, hI.below hbx, hbx⟩
  have CW : Hid (∀ (pa : Option Addr) (pc : Nat) (p : List Int) (R : Nat) (s : Bool) X, p.length = R → R ≤ 1000000 → Below W.heap.size W X → IAt X pa p → (s = true ↔ (RightG n es ∧ WholeL n es p)) → Calls Try.prog 36 #[.agg #[.int .i64 n, .slice a N cap], .slice pa R pc] X fun e w' => e = .returned (.bool s) ∧ Below X.heap.size X w') := fun pa pc p R s X hR hR1 hX hp hs => by
    subst hR
    rw [hNe]; exact rwhole_any n a cap es pa pc p b s X hN hR1 (HGC.out X hX).1.at_ hp hb hs
  have HR := hid hr
  have HM := hid hMe
  have HW := hid hW
  have HBB := hid hb
  rw [← hMe] at hL hlc
  rw [← hMe, ← hNe]
  clear hNe hMe hW hbW hO hsW hE hI hb hr hN
  obtain ⟨g0, g1⟩ := (HGC.out W (Below.refl _ _)).1.cells
  go_enter Try.func16, Try.ntmps16
  by_cases hM2 : M < 2
  · obtain rfl : r = false := b_false HR.out (fun h => by have := h.2.1; rw [← HM.out] at this; omega)
    have q1 : decide ((M : Int) < 2) = true := decide_eq_true (by omega)
    have q2 : (M : Int) < 2 := by omega
    have HBF := hid (HGC.out W (Below.refl _ _)).2.2
    clear HR HGC CW
    go_upto_region 1 with fail
    rw [← HW.out]
    go_wp2
    go_ret
    exact ⟨rfl, HBF.out⟩
  have q1 : decide ((M : Int) < 2) = false := decide_eq_false (by omega)
  have q2 : ¬ (M : Int) < 2 := by omega
  obtain ⟨s, hs⟩ := boolR_of (RightG n es ∧ WholeL n es l)
  have C1 := hid (CW.out la lc l M s W HM.out.symm hL (Below.refl _ _) (HGC.out W (Below.refl _ _)).2.1 hs)
  go_upto_region 1 with fail
  rw [← HW.out]
  clear HW
  go_wp2_with fail
  refine C1.out.mono ?_
  rintro e w1 ⟨rfl, hb1⟩
  have HB1 := hid hb1
  clear C1 g0 g1 hb1
  cases s with
  | false =>
    obtain rfl : r = false := b_false HR.out (fun h => by have := hs.2 ⟨h.1, h.2.2.1⟩; cases this)
    have HBF := hid (HGC.out w1 HB1.out).2.2
    clear HR HGC CW hs
    go_wp2
    go_ret
    exact ⟨rfl, HBF.out⟩
  | true =>
    have HRW := hid (hs.1 rfl)
    obtain ⟨m, rfl⟩ : ∃ m : Nat, n = m := ⟨n.toNat, by have := HRW.out.1.1; omega⟩
    clear hs
    go_wp2
    go_loopw [5] (fun i wz => ∃ k : Nat, k ≤ M ∧ i = .int .i64 k ∧ Hid (ErTo m es l M k) ∧ Hid (Below W.heap.size W wz)) (fun i _ => M - (RowKit.intOf i).toNat)
    case atStart => exact ⟨0, Nat.zero_le _, rfl, (fun _ j h => absurd h (by omega)), HB1⟩
    case round =>
      obtain ⟨k, hk, rfl, hall, hbr⟩ := hrel
      by_cases hgo : k < M ∧ 2 < M
      · obtain ⟨hlt, h2⟩ := hgo
        have hkr : k < l.length := by rw [← HM.out]; exact hlt
        obtain ⟨hG, hI, hBw⟩ := HGC.out wr hbr.out
        obtain ⟨gl, ol, rfl, hgl, hcs⟩ := hI (by omega)
        obtain ⟨g0, g1⟩ := hG.cells
        have q3 : (k : Int) < (M : Int) := by omega
        have q4 : (2 : Int) < (M : Int) := by omega
        have q5 : decide ((M : Int) > 2) = true := decide_eq_true (by omega)
        have q6 : decide ((k : Int) < (M : Int)) = true := decide_eq_true (by omega)
        have q7 : (k : Int) ≤ (lc : Int) := by omega
        have q8 : IntKind.i64.wrap ((k : Int) + 1) = (k : Int) + 1 := by rw [IntKind.wrap_i64]; omega
        have q9 : k + 1 ≤ M := by omega
        have q10 : (k : Int) + 1 ≤ (M : Int) := by omega
        have q11 : k ≤ lc := by omega
        have q12 : (0 : Int) ≤ (k : Int) + 1 := by omega
        have q13 : (k : Int) + 1 ≤ (lc : Int) := by omega
        have q14 : (M : Int) ≤ (lc : Int) := by omega
        have q15 : (0 : Int) ≤ (k : Int) := by omega
        obtain ⟨s, hs⟩ := boolR_of (RightG m es ∧ WholeL m es (l.eraseIdx k))
        -- the rows
        obtain ⟨x1, hx1⟩ := ex_eq ((l.take k).map (Value.int .i64))
        obtain ⟨x2, hx2⟩ := ex_eq ((l.drop (k + 1)).map (Value.int .i64))
        have HX1 : Hid (x1.length = k * 1) := by show _ = _; rw [hx1]; simp; omega
        have HX2 : Hid (x2.length = (M - (k + 1)) * 1) := by show _ = _; rw [hx2, HM.out]; simp
        have HO1 : Hid (∀ u ∈ x1, u.oneCell' = true) := fun u hu => by rw [hx1] at hu; obtain ⟨z, _, rfl⟩ := List.mem_map.1 hu; rfl
        have HO2 : Hid (∀ u ∈ x2, u.oneCell' = true) := fun u hu => by rw [hx2] at hu; obtain ⟨z, _, rfl⟩ := List.mem_map.1 hu; rfl
        have HOW : Hid ((wr.drew.alloc (.cells #[] 3)).ownsRow wr.heap.size 3 1 (.slice (some ⟨wr.heap.size, 0, none⟩) 0 0) 0 []) := own_emptyI (w := wr.drew) _ rfl
        have HC1 : Hid (∀ X, Below wr.heap.size wr X → ∀ p, some (⟨gl, ol, none⟩ : Addr) = some p → ∀ j u, x1[j]? = some u → X.cell? (p.add j) = some u) := fun X hX p hp j u hu => by
          cases hp
          rw [hx1, List.getElem?_map] at hu
          by_cases hj : j < k
          · rw [List.getElem?_take_of_lt hj, List.getElem?_eq_getElem (by omega)] at hu
            simp only [Option.map_some, Option.some.injEq] at hu
            rw [add_at, (hX.cell (p := ⟨gl, ol + j, none⟩) hgl), hcs j (by omega), hu]
          · rw [List.getElem?_eq_none (by rw [List.length_take]; omega)] at hu; cases hu
        have HC2 : Hid (∀ X, Below wr.heap.size wr X → ∀ p, some (⟨gl, ol + (k + 1), none⟩ : Addr) = some p → ∀ j u, x2[j]? = some u → X.cell? (p.add j) = some u) := fun X hX p hp j u hu => by
          cases hp
          rw [hx2, List.getElem?_map, List.getElem?_drop] at hu
          by_cases hj : k + 1 + j < l.length
          · rw [List.getElem?_eq_getElem hj] at hu
            simp only [Option.map_some, Option.some.injEq] at hu
            rw [add_at, show ol + (k + 1) + j = ol + (k + 1 + j) by omega, (hX.cell (p := ⟨gl, ol + (k + 1 + j), none⟩) hgl), hcs _ hj, hu]
          · rw [List.getElem?_eq_none (by omega)] at hu; cases hu
        have HSS : Hid (∀ X, Below wr.drew.heap.size wr.drew X → X.cell? ⟨w.heap.size, 0, none⟩ = some (.int .i64 m) ∧ X.cell? ⟨w.heap.size, 1, none⟩ = some (.slice a N cap)) := fun X h =>
          ⟨(h.cell (p := ⟨w.heap.size, 0, none⟩) (block_lt_of_cell g0)).trans g0, (h.cell (p := ⟨w.heap.size, 1, none⟩) (block_lt_of_cell g1)).trans g1⟩
        have hS := HSS.out wr.drew (Below.refl _ _)
        have HBA : Hid (Below wr.heap.size wr (wr.drew.alloc (.cells #[] 3))) := (Below.refl _ _).drew.alloc (Nat.le_refl _) _
        have HBd : Hid (Below wr.drew.heap.size wr.drew (wr.drew.alloc (.cells #[] 3))) := (Below.refl _ _).alloc (Nat.le_refl _) _
        have HXE : Hid (x1 ++ x2 = (l.eraseIdx k).map (Value.int .i64) ∧ (l.eraseIdx k).length = k + (M - (k + 1))) := by
          refine ⟨by rw [erase_split, List.map_append, hx1, hx2], ?_⟩
          rw [List.length_eraseIdx_of_lt hkr, ← HM.out]; omega
        have HSV := hid hs
        have HBR : Hid (∀ X, Below wr.heap.size wr X → Below W.heap.size W X) := fun X h => hbr.out.trans (h.mono hbr.out.size)
        have HHB : Hid (∀ X, Below wr.drew.heap.size wr.drew X → Below wr.heap.size wr X) := fun X h => (Below.refl _ wr).drew.trans h
        clear hG hI hcs hs hx1 hx2 hkr hBw
        by_cases hcc : lc = k + 1
        · subst hcc
          have hMk : M = k + 1 := by omega
          have HN0 : Hid (x2 = []) := List.eq_nil_of_length_eq_zero (by have := HX2.out; omega)
          have HX0 : Hid (x2.length = 0 * 1) := by show _ = _; rw [HN0.out]; rfl
          have hMk2 : M - (k + 1) = 0 := by omega
          rw [hMk2] at HXE
          clear hMk2
          subst hMk
          have q16 : (k : Int) ≤ (k : Int) + 1 := by omega
          have q17 : k ≤ k + 1 := by omega
          go_wp2_with fail
          refine wp_region_held_drew (S := (fun X => X.cell? ⟨w.heap.size, 0, none⟩ = some (.int .i64 m) ∧ X.cell? ⟨w.heap.size, 1, none⟩ = some (.slice a N cap))) (by kernel_rfl) hS (fun hHeld => ?_)
          (refine takeW (i := 0) (dst := some 26) (v := ?_) rfl rfl (by kernel_rfl) (by kernel_rfl) (by kernel_rfl) (fun _ _ _ h => h) (Or.inl ⟨by rfl, ?_⟩) hHeld ?_; rotate_left; focus (intro w hSw; (try dsimp only at hSw); go_simp; (try with_reducible rfl); done))
          try simp only [Act.put, List.setIfInBounds_toArray, List.set_cons_zero, List.set_cons_succ]
          (refine takeW (i := 2) (dst := some 28) (v := ?_) rfl rfl (by kernel_rfl) (by kernel_rfl) (by kernel_rfl) (fun _ _ _ h => h) (Or.inl ⟨by rfl, ?_⟩) hHeld ?_; rotate_left; focus (intro w hSw; (try dsimp only at hSw); go_simp; (try with_reducible rfl); done))
          try simp only [Act.put, List.setIfInBounds_toArray, List.set_cons_zero, List.set_cons_succ]
          (refine takeW (i := 3) (dst := some 29) (v := ?_) rfl rfl (by kernel_rfl) (by kernel_rfl) (by kernel_rfl) (fun _ _ _ h => h) (Or.inl ⟨by rfl, ?_⟩) hHeld ?_; rotate_left; focus (intro w hSw; (try dsimp only at hSw); go_simp; (try with_reducible rfl); done))
          try simp only [Act.put, List.setIfInBounds_toArray, List.set_cons_zero, List.set_cons_succ]
          (refine takeW (i := 4) (dst := some 30) (v := ?_) rfl rfl (by kernel_rfl) (by kernel_rfl) (by kernel_rfl) (fun _ _ _ h => h) (Or.inl ⟨by rfl, ?_⟩) hHeld ?_; rotate_left; focus (intro w hSw; (try dsimp only at hSw); go_simp; (try with_reducible rfl); done))
          try simp only [Act.put, List.setIfInBounds_toArray, List.set_cons_zero, List.set_cons_succ]
          (refine takeW (i := 6) (dst := some 32) (v := ?_) rfl rfl (by kernel_rfl) (by kernel_rfl) (by kernel_rfl) (fun _ _ _ h => h) (Or.inl ⟨by rfl, ?_⟩) hHeld ?_; rotate_left; focus (intro w hSw; (try dsimp only at hSw); go_simp; (try with_reducible rfl); done))
          try simp only [Act.put, List.setIfInBounds_toArray, List.set_cons_zero, List.set_cons_succ]
          (refine takeW (i := 7) (dst := some 33) (v := ?_) rfl rfl (by kernel_rfl) (by kernel_rfl) (by kernel_rfl) (fun _ _ _ h => h) (Or.inl ⟨by rfl, ?_⟩) hHeld ?_; rotate_left; focus (intro w hSw; (try dsimp only at hSw); go_simp; (try with_reducible rfl); done))
          try simp only [Act.put, List.setIfInBounds_toArray, List.set_cons_zero, List.set_cons_succ]
          (refine takeW (i := 8) (dst := some 34) (v := ?_) rfl rfl (by kernel_rfl) (by kernel_rfl) (by kernel_rfl) (fun _ _ _ h => h) (Or.inl ⟨by rfl, ?_⟩) hHeld ?_; rotate_left; focus (intro w hSw; (try dsimp only at hSw); go_simp; (try with_reducible rfl); done))
          try simp only [Act.put, List.setIfInBounds_toArray, List.set_cons_zero, List.set_cons_succ]
          (refine takeW (i := 9) (dst := some 35) (v := ?_) rfl rfl (by kernel_rfl) (by kernel_rfl) (by kernel_rfl) (fun _ _ _ h => h) (Or.inl ⟨by rfl, ?_⟩) hHeld ?_; rotate_left; focus (intro w hSw; (try dsimp only at hSw); go_simp; (try with_reducible rfl); done))
          try simp only [Act.put, List.setIfInBounds_toArray, List.set_cons_zero, List.set_cons_succ]
          refine wpAnyH_ready (rs := [1]) (by kernel_rfl) (by simp) ?_
          refine AllReadyH.cons (o := _) rfl (fun KK hK => ?_) AllReadyH.nil
          go_simp
          refine hK.out _ _ (HSS.out _ HBd.out) (fun hHeld => ?_)
          clear hK KK
          try simp only [Act.put]
          try simp only [List.setIfInBounds_toArray]
          try simp only [List.set_cons_succ]
          try simp only [List.set_cons_zero]
          refine wpAnyH_ready (rs := [5]) (by kernel_rfl) (by simp) ?_
          refine AllReadyH.cons (o := _) rfl (fun KK hK => ?_) AllReadyH.nil
          rw [if_pos (by rfl)]
          refine wp_append_any _ (.tmp 27) (.tmp 30) 28 rfl wr.heap.size 3 i0 _ 1 8 Try.underlying28 hi0 hz0 hz1 hz2 rfl (by decide) (.slice (some ⟨wr.heap.size, 0, none⟩) 0 0) 0 [] (by simp [Act.eval]) HOW.out (some ⟨gl, ol, none⟩) k (k + 1) x1 (by simp [Act.eval]) (fun h => by cases h) HX1.out (HC1.out _ HBA.out) HO1.out (by unfold maxLen; omega) (by omega) HBA.out.size ?_
          intro v4 w4 hown4 hgrow4 _
          have HB4 : Hid (Below wr.drew.heap.size wr.drew w4) := Below.grown HBd.out hgrow4 HBd.out.size (fun j hj => by cases hj; exact Nat.le_refl _)
          have HOW4 : Hid (w4.ownsRow wr.heap.size 3 1 v4 k x1) := by
            show World.ownsRow _ _ _ _ _ _ _
            simpa using hown4
          have hS4 := HSS.out w4 HB4.out
          have hB4s : wr.heap.size ≤ w4.heap.size := HB4.out.size
          clear hown4 hgrow4
          refine hK.out _ _ hS4 (fun hHeld => ?_)
          clear hK KK
          try simp only [Act.put]
          try simp only [List.setIfInBounds_toArray]
          try simp only [List.set_cons_succ]
          try simp only [List.set_cons_zero]
          refine wpAnyH_ready (rs := [10]) (by kernel_rfl) (by simp) ?_
          refine AllReadyH.cons (o := _) rfl (fun KK hK => ?_) AllReadyH.nil
          rw [if_pos (by rfl)]
          refine wp_append_any _ (.tmp 31) (.tmp 35) 28 rfl wr.heap.size 3 i0 _ 1 8 Try.underlying28 hi0 hz0 hz1 hz2 rfl (by decide) v4 k x1 (by simp [Act.eval]) HOW4.out (some ⟨gl, ol, none⟩) 0 0 x2 (by simp [Act.eval]) (fun h => by cases h) HX0.out (fun p _ j u hu => by rw [HN0.out] at hu; simp at hu) HO2.out (by unfold maxLen; omega) (by omega) hB4s ?_
          intro v6 w6 hown6 hgrow6 _
          have HB6 : Hid (Below wr.drew.heap.size wr.drew w6) := Below.grown HB4.out hgrow6 HB4.out.size (fun j hj => (HOW4.out.lt j hj).1)
          obtain ⟨ar, cr, hv6, hI6⟩ := own_form (xs := l.eraseIdx k) (by rw [← HXE.out.1, HXE.out.2]; exact hown6)
          subst hv6
          have HI6 := hid hI6
          have C3 := hid (CW.out ar cr (l.eraseIdx k) _ s w6 rfl (by rw [HXE.out.2]; omega) (HBR.out _ (HHB.out _ HB6.out)) hI6 HSV.out)
          have hS6 := HSS.out w6 HB6.out
          clear hown6 hgrow6 hI6
          refine hK.out _ _ hS6 (fun hHeld => ?_)
          clear hK KK
          try simp only [Act.put]
          try simp only [List.setIfInBounds_toArray]
          try simp only [List.set_cons_succ]
          try simp only [List.set_cons_zero]
          refine wpAnyH_ready (rs := [11]) (by kernel_rfl) (by simp) ?_
          refine AllReadyH.cons (o := _) rfl (fun KK hK => ?_) AllReadyH.nil
          go_simp
          refine C3.out.mono ?_
          rintro e y1 ⟨rfl, hb⟩
          have HB7 : Hid (Below W.heap.size W y1) := HBR.out _ (HHB.out _ (HB6.out.trans (hb.mono HB6.out.size)))
          have hS7 := HSS.out y1 (HB6.out.trans (hb.mono HB6.out.size))
          clear hb
          refine hK.out _ _ hS7 (fun hHeld => ?_)
          clear hK KK
          try simp only [Act.put]
          try simp only [List.setIfInBounds_toArray]
          try simp only [List.set_cons_succ]
          try simp only [List.set_cons_zero]
          (refine takeW (i := 12) (dst := some 38) (v := ?_) rfl rfl (by kernel_rfl) (by kernel_rfl) (by kernel_rfl) (fun _ _ _ h => h) (Or.inl ⟨by rfl, ?_⟩) hHeld ?_; rotate_left; focus (intro w hSw; (try dsimp only at hSw); go_simp; (try with_reducible rfl); done))
          try simp only [Act.put, List.setIfInBounds_toArray, List.set_cons_zero, List.set_cons_succ]
          refine wpAnyH_done (by kernel_rfl) ?_ _
          cases s with
          | false =>
            obtain rfl : r = false := b_false HR.out (fun h => by
              have h5 := h.2.2.2 (by rw [← HM.out]; exact h2) k (by rw [← HM.out]; exact hlt)
              have := HSV.out.2 ⟨h.1, h5⟩
              cases this)
            have HBF := hid (HGC.out y1 HB7.out).2.2
            clear hHeld hS hS4 hS6 hS7 HSS CW HGC C3
            go_wp2
            go_ret
            exact ⟨rfl, HBF.out⟩
          | true =>
            have HNX : Hid (ErTo m es l (k + 1) (k + 1)) := fun h j hj => by
              by_cases e : j < k
              · exact hall.out h j e
              · obtain rfl : j = k := by omega
                exact (HSV.out.1 rfl).2
            clear hHeld hS hS4 hS6 hS7 HSS C3
            go_wp2
            go_roundw
            case rel => first | exact ⟨k + 1, by omega, by go_num, HNX, HB7⟩ | exact ⟨k + 1, by omega, by go_num, HNX⟩
            case measure => first | (simp [RowKit.intOf]; done) | (simp [RowKit.intOf]; omega)
        · go_wp2_with fail
          refine wp_region_held_drew (S := (fun X => X.cell? ⟨w.heap.size, 0, none⟩ = some (.int .i64 m) ∧ X.cell? ⟨w.heap.size, 1, none⟩ = some (.slice a N cap))) (by kernel_rfl) hS (fun hHeld => ?_)
          (refine takeW (i := 0) (dst := some 26) (v := ?_) rfl rfl (by kernel_rfl) (by kernel_rfl) (by kernel_rfl) (fun _ _ _ h => h) (Or.inl ⟨by rfl, ?_⟩) hHeld ?_; rotate_left; focus (intro w hSw; (try dsimp only at hSw); go_simp; (try with_reducible rfl); done))
          try simp only [Act.put, List.setIfInBounds_toArray, List.set_cons_zero, List.set_cons_succ]
          (refine takeW (i := 2) (dst := some 28) (v := ?_) rfl rfl (by kernel_rfl) (by kernel_rfl) (by kernel_rfl) (fun _ _ _ h => h) (Or.inl ⟨by rfl, ?_⟩) hHeld ?_; rotate_left; focus (intro w hSw; (try dsimp only at hSw); go_simp; (try with_reducible rfl); done))
          try simp only [Act.put, List.setIfInBounds_toArray, List.set_cons_zero, List.set_cons_succ]
          (refine takeW (i := 3) (dst := some 29) (v := ?_) rfl rfl (by kernel_rfl) (by kernel_rfl) (by kernel_rfl) (fun _ _ _ h => h) (Or.inl ⟨by rfl, ?_⟩) hHeld ?_; rotate_left; focus (intro w hSw; (try dsimp only at hSw); go_simp; (try with_reducible rfl); done))
          try simp only [Act.put, List.setIfInBounds_toArray, List.set_cons_zero, List.set_cons_succ]
          (refine takeW (i := 4) (dst := some 30) (v := ?_) rfl rfl (by kernel_rfl) (by kernel_rfl) (by kernel_rfl) (fun _ _ _ h => h) (Or.inl ⟨by rfl, ?_⟩) hHeld ?_; rotate_left; focus (intro w hSw; (try dsimp only at hSw); go_simp; (try with_reducible rfl); done))
          try simp only [Act.put, List.setIfInBounds_toArray, List.set_cons_zero, List.set_cons_succ]
          (refine takeW (i := 6) (dst := some 32) (v := ?_) rfl rfl (by kernel_rfl) (by kernel_rfl) (by kernel_rfl) (fun _ _ _ h => h) (Or.inl ⟨by rfl, ?_⟩) hHeld ?_; rotate_left; focus (intro w hSw; (try dsimp only at hSw); go_simp; (try with_reducible rfl); done))
          try simp only [Act.put, List.setIfInBounds_toArray, List.set_cons_zero, List.set_cons_succ]
          (refine takeW (i := 7) (dst := some 33) (v := ?_) rfl rfl (by kernel_rfl) (by kernel_rfl) (by kernel_rfl) (fun _ _ _ h => h) (Or.inl ⟨by rfl, ?_⟩) hHeld ?_; rotate_left; focus (intro w hSw; (try dsimp only at hSw); go_simp; (try with_reducible rfl); done))
          try simp only [Act.put, List.setIfInBounds_toArray, List.set_cons_zero, List.set_cons_succ]
          (refine takeW (i := 8) (dst := some 34) (v := ?_) rfl rfl (by kernel_rfl) (by kernel_rfl) (by kernel_rfl) (fun _ _ _ h => h) (Or.inl ⟨by rfl, ?_⟩) hHeld ?_; rotate_left; focus (intro w hSw; (try dsimp only at hSw); go_simp; (try with_reducible rfl); done))
          try simp only [Act.put, List.setIfInBounds_toArray, List.set_cons_zero, List.set_cons_succ]
          (refine takeW (i := 9) (dst := some 35) (v := ?_) rfl rfl (by kernel_rfl) (by kernel_rfl) (by kernel_rfl) (fun _ _ _ h => h) (Or.inl ⟨by rfl, ?_⟩) hHeld ?_; rotate_left; focus (intro w hSw; (try dsimp only at hSw); go_simp; (try with_reducible rfl); done))
          try simp only [Act.put, List.setIfInBounds_toArray, List.set_cons_zero, List.set_cons_succ]
          refine wpAnyH_ready (rs := [1]) (by kernel_rfl) (by simp) ?_
          refine AllReadyH.cons (o := _) rfl (fun KK hK => ?_) AllReadyH.nil
          go_simp
          refine hK.out _ _ (HSS.out _ HBd.out) (fun hHeld => ?_)
          clear hK KK
          try simp only [Act.put]
          try simp only [List.setIfInBounds_toArray]
          try simp only [List.set_cons_succ]
          try simp only [List.set_cons_zero]
          refine wpAnyH_ready (rs := [5]) (by kernel_rfl) (by simp) ?_
          refine AllReadyH.cons (o := _) rfl (fun KK hK => ?_) AllReadyH.nil
          rw [if_pos (by rfl)]
          refine wp_append_any _ (.tmp 27) (.tmp 30) 28 rfl wr.heap.size 3 i0 _ 1 8 Try.underlying28 hi0 hz0 hz1 hz2 rfl (by decide) (.slice (some ⟨wr.heap.size, 0, none⟩) 0 0) 0 [] (by simp [Act.eval]) HOW.out (some ⟨gl, ol, none⟩) k lc x1 (by simp [Act.eval]) (fun h => by cases h) HX1.out (HC1.out _ HBA.out) HO1.out (by unfold maxLen; omega) (by omega) HBA.out.size ?_
          intro v4 w4 hown4 hgrow4 _
          have HB4 : Hid (Below wr.drew.heap.size wr.drew w4) := Below.grown HBd.out hgrow4 HBd.out.size (fun j hj => by cases hj; exact Nat.le_refl _)
          have HOW4 : Hid (w4.ownsRow wr.heap.size 3 1 v4 k x1) := by
            show World.ownsRow _ _ _ _ _ _ _
            simpa using hown4
          have hS4 := HSS.out w4 HB4.out
          have hB4s : wr.heap.size ≤ w4.heap.size := HB4.out.size
          clear hown4 hgrow4
          refine hK.out _ _ hS4 (fun hHeld => ?_)
          clear hK KK
          try simp only [Act.put]
          try simp only [List.setIfInBounds_toArray]
          try simp only [List.set_cons_succ]
          try simp only [List.set_cons_zero]
          refine wpAnyH_ready (rs := [10]) (by kernel_rfl) (by simp) ?_
          refine AllReadyH.cons (o := _) rfl (fun KK hK => ?_) AllReadyH.nil
          rw [if_pos (by rfl)]
          refine wp_append_any _ (.tmp 31) (.tmp 35) 28 rfl wr.heap.size 3 i0 _ 1 8 Try.underlying28 hi0 hz0 hz1 hz2 rfl (by decide) v4 k x1 (by simp [Act.eval]) HOW4.out (some ⟨gl, ol + (k + 1), none⟩) (M - (k + 1)) (lc - (k + 1)) x2 (by simp [Act.eval]) (fun h => by cases h) HX2.out (HC2.out w4 (HHB.out _ HB4.out)) HO2.out (by unfold maxLen; omega) (by omega) hB4s ?_
          intro v6 w6 hown6 hgrow6 _
          have HB6 : Hid (Below wr.drew.heap.size wr.drew w6) := Below.grown HB4.out hgrow6 HB4.out.size (fun j hj => (HOW4.out.lt j hj).1)
          obtain ⟨ar, cr, hv6, hI6⟩ := own_form (xs := l.eraseIdx k) (by rw [← HXE.out.1, HXE.out.2]; exact hown6)
          subst hv6
          have HI6 := hid hI6
          have C3 := hid (CW.out ar cr (l.eraseIdx k) _ s w6 rfl (by rw [HXE.out.2]; omega) (HBR.out _ (HHB.out _ HB6.out)) hI6 HSV.out)
          have hS6 := HSS.out w6 HB6.out
          clear hown6 hgrow6 hI6
          refine hK.out _ _ hS6 (fun hHeld => ?_)
          clear hK KK
          try simp only [Act.put]
          try simp only [List.setIfInBounds_toArray]
          try simp only [List.set_cons_succ]
          try simp only [List.set_cons_zero]
          refine wpAnyH_ready (rs := [11]) (by kernel_rfl) (by simp) ?_
          refine AllReadyH.cons (o := _) rfl (fun KK hK => ?_) AllReadyH.nil
          go_simp
          refine C3.out.mono ?_
          rintro e y1 ⟨rfl, hb⟩
          have HB7 : Hid (Below W.heap.size W y1) := HBR.out _ (HHB.out _ (HB6.out.trans (hb.mono HB6.out.size)))
          have hS7 := HSS.out y1 (HB6.out.trans (hb.mono HB6.out.size))
          clear hb
          refine hK.out _ _ hS7 (fun hHeld => ?_)
          clear hK KK
          try simp only [Act.put]
          try simp only [List.setIfInBounds_toArray]
          try simp only [List.set_cons_succ]
          try simp only [List.set_cons_zero]
          (refine takeW (i := 12) (dst := some 38) (v := ?_) rfl rfl (by kernel_rfl) (by kernel_rfl) (by kernel_rfl) (fun _ _ _ h => h) (Or.inl ⟨by rfl, ?_⟩) hHeld ?_; rotate_left; focus (intro w hSw; (try dsimp only at hSw); go_simp; (try with_reducible rfl); done))
          try simp only [Act.put, List.setIfInBounds_toArray, List.set_cons_zero, List.set_cons_succ]
          refine wpAnyH_done (by kernel_rfl) ?_ _
          cases s with
          | false =>
            obtain rfl : r = false := b_false HR.out (fun h => by
              have h5 := h.2.2.2 (by rw [← HM.out]; exact h2) k (by rw [← HM.out]; exact hlt)
              have := HSV.out.2 ⟨h.1, h5⟩
              cases this)
            have HBF := hid (HGC.out y1 HB7.out).2.2
            clear hHeld hS hS4 hS6 hS7 HSS CW HGC C3
            go_wp2
            go_ret
            exact ⟨rfl, HBF.out⟩
          | true =>
            have HNX : Hid (ErTo m es l (M) (k + 1)) := fun h j hj => by
              by_cases e : j < k
              · exact hall.out h j e
              · obtain rfl : j = k := by omega
                exact (HSV.out.1 rfl).2
            clear hHeld hS hS4 hS6 hS7 HSS C3
            go_wp2
            go_roundw
            case rel => first | exact ⟨k + 1, by omega, by go_num, HNX, HB7⟩ | exact ⟨k + 1, by omega, by go_num, HNX⟩
            case measure => first | (simp [RowKit.intOf]; done) | (simp [RowKit.intOf]; omega)
      · obtain rfl : r = true := HR.out.2 ⟨HRW.out.1, by rw [← HM.out]; omega, HRW.out.2, fun h i hi => by
          rw [← HM.out] at h hi
          exact hall.out h i (by
            apply Classical.byContradiction
            intro hn
            exact hgo ⟨by omega, h⟩)⟩
        have HBF := hid (HGC.out wr hbr.out).2.2
        by_cases hlt : k < M
        · have q3 : decide ((k : Int) < (M : Int)) = true := decide_eq_true (by omega)
          have q4 : decide ((M : Int) > 2) = false := decide_eq_false (by omega)
          have q5 : ¬ (2 : Int) < (M : Int) := by omega
          have q6 : (k : Int) < (M : Int) := by omega
          clear hall hbr HR
          go_wp2
          go_ret
          exact ⟨rfl, HBF.out⟩
        · have q3 : decide ((k : Int) < (M : Int)) = false := decide_eq_false (by omega)
          have q6 : ¬ (k : Int) < (M : Int) := by omega
          clear hall hbr HR
          go_wp2
          go_ret
          exact ⟨rfl, HBF.out⟩
end Go.Proofs.Ytplhpinaadgkkaa
