/-
  The document's Of of blocks (layer 7).
-/
import Derived.Test.YtlebimolgienkaaT21
import Derived.Test.YtlebimolgienkaaT04
import Derived.Test.YtlebimolgienkaaT15
import Derived.Test.YtlebimolgienkaaT03
namespace Go.Proofs.Ytlebimolgienkaa
open Go.RowKit Go.Lib

theorem new_three (w : World) (o1 o2 o3 : Obj) : ∃ W0, W0 = ((w.alloc o1).alloc o2).alloc o3 ∧ W0.heap.size = w.heap.size + 3 ∧ W0.heap[w.heap.size]? = some o1 ∧ W0.heap[w.heap.size + 1]? = some o2 ∧ W0.heap[w.heap.size + 2]? = some o3 ∧ Below w.heap.size w W0 := by
  obtain ⟨W, hW, hs, h1, h2, hb⟩ := new_two w o1 o2
  have hb3 : Below W.heap.size W (W.alloc o3) := (Below.refl _ _).alloc (Nat.le_refl _) _
  have h3 : (W.alloc o3).heap[W.heap.size]? = some o3 := heap_alloc_new _ _
  refine ⟨W.alloc o3, by rw [hW], by rw [World.size_alloc, hs], ?_, ?_, ?_, hb.trans (hb3.mono (by omega))⟩
  · rw [hb3.block _ (by omega)]; exact h1
  · rw [hb3.block _ (by omega)]; exact h2
  · rw [hs] at h3; exact h3
theorem below_oneA (W : World) (o : Obj) : Below W.heap.size W (W.alloc o) := (Below.refl _ _).alloc (Nat.le_refl _) o
theorem below_refl_drew (w : World) : Below w.heap.size w w.drew := (Below.refl _ w).drew
set_option maxHeartbeats 40000000 in
set_option maxRecDepth 100000 in
theorem rblkOf_any (n : Int) (a : Option Addr) (cap : Nat) (es : List (Int × Int)) (b : Bool) (w : World) (hN : es.length ≤ 1000000) (hE : EAt w a es) (hb : b = true ↔ RightG n es) :
    Calls Try.prog 15 #[.agg #[.int .i64 n, .slice a es.length cap]] w fun e w' => ∃ v, e = .returned v ∧ TreeTold n es w w' v := by
  obtain ⟨i0, hi, hz0, hz1, hz2⟩ := info_parts Try.info3
  obtain ⟨i1, hj, hy0, hy1, hy2⟩ := info_parts Try.info28
  obtain ⟨i2, hk, hx0, hx1, hx2⟩ := info_parts Try.info4
  obtain ⟨N, hNe⟩ := ex_eq es.length
  obtain ⟨b0, hb0⟩ := ex_eq w.heap.size
  obtain ⟨W, hW, hsW, hO0, hO1, hO2, hbW⟩ := new_three w (.cells #[.int .i64 n, .slice a N cap] 26) (.cells #[.slice none 0 0, .slice none 0 0] 33) (.cells #[.slice none 0 0, .slice none 0 0] 33)
  have HGC : Hid (∀ X, Below W.heap.size W X → GC X b0 n a N cap es ∧ Below b0 w X ∧ X.heap[b0 + 1]? = some (.cells #[.slice none 0 0, .slice none 0 0] 33 (0, 0)) ∧ X.heap[b0 + 2]? = some (.cells #[.slice none 0 0, .slice none 0 0] 33 (0, 0))) := fun X hX => by
    subst hb0
    have o := (hX.block _ (by omega)).trans hO0
    have o1 := (hX.block (w.heap.size + 1) (by omega)).trans hO1
    have o2 := (hX.block (w.heap.size + 2) (by omega)).trans hO2
    have hbx : Below w.heap.size w X := hbW.trans (hX.mono (by omega))
    exact ⟨⟨cell_of_heap o 0, cell_of_heap o 1, hE.below hbx⟩, hbx, o1, o2⟩
  have HE : Hid (∀ X, Below b0 w X → EAt X a es) := fun X h => hE.below (by rw [← hb0]; exact h)
  have CR : Hid (Calls Try.prog 41 #[.agg #[.int .i64 n, .slice a N cap]] W fun e w' => e = .returned (.bool b) ∧ Below W.heap.size W w') := by
    rw [hNe]; exact rright_any n a cap es b W hN (HGC.out W (Below.refl _ _)).1.at_ hb
  have HBB := hid hb
  have HW := hid hW
  have HN := hid hNe
  have HB0 := hid hb0
  rw [← hNe]
  rw [← hb0] at hsW
  have HZ : Hid (∀ X u v, Below b0 w X → Below b0 w ((X.setCell ⟨b0 + 1, 0, none⟩ u).setCell ⟨b0 + 1, 1, none⟩ v)) := fun X u v hX => (hX.setCell (p := ⟨b0 + 1, 0, none⟩) (by simp) _).setCell (p := ⟨b0 + 1, 1, none⟩) (by simp) _
  clear hNe hW hO0 hO1 hO2 hbW hE hb hN hb0
  go_enter Try.func15, Try.ntmps15
  go_wp2_with fail
  rw [← HW.out, ← HB0.out]
  refine CR.out.mono ?_
  rintro e w1 ⟨rfl, hb1⟩
  obtain ⟨hg1, hbw1, ho1, ho2⟩ := HGC.out w1 hb1
  have HB1 := hid hb1
  have HBw1 := hid hbw1
  have hs1 : b0 + 3 ≤ w1.heap.size := by have := hb1.size; omega
  clear CR hb1 hbw1 HW
  cases b with
  | false =>
    have z0 := cell_of_heap ho1 0
    have z1 := cell_of_heap ho1 1
    have y0 := cell_of_heap ho2 0
    have y1 := cell_of_heap ho2 1
    have zf0 := frozen_of_heap ho1 0
    have zf1 := frozen_of_heap ho1 1
    have HNR : Hid (OfRel n es [] []) := Or.inr ⟨(fun h => by have := HBB.out.2 h; cases this), rfl, rfl⟩
    clear HBB hg1 ho1 ho2
    go_wp2
    refine bodyPost_ret (v := .agg #[.slice none 0 0, .slice none 0 0]) ?_ rfl ⟨_, rfl, [], [], none, 0, none, 0, rfl, HNR.out, iat_nil _ _, llat_nil _ _, by rw [← HB0.out]; exact HZ.out w1 _ _ HBw1.out⟩
    rw [results_cell1 rfl]
    go_simp
  | true =>
    have HRG := hid (HBB.out.1 rfl)
    obtain ⟨m, rfl⟩ : ∃ m : Nat, n = m := ⟨n.toNat, by have := HRG.out.1; omega⟩
    have hm : m ≤ 1000 := by have := HRG.out.2.1; omega
    have hN4 : N ≤ 4000 := by have := HRG.out.2.2.1; rw [HN.out]; exact this
    obtain ⟨F, hF⟩ := parts_ex HRG.out
    have HF := hid hF
    obtain ⟨Nb, hNb⟩ := ex_eq w1.heap.size
    obtain ⟨w2, hrun2, hown2, hgrow2⟩ := run_make_full (P := Try.prog) w1 w1.heap.size 29 28 i1 (.slice none 0 0) 1 Try.underlying29 hj hy0 hy1 .i64 .i64 N (by rw [hy2]; omega) (by unfold maxLen; omega) (Nat.le_refl _)
    have hb2 : Below w1.heap.size w1 w2 := Below.grown (Below.refl _ _) hgrow2 (Nat.le_refl _) (fun k hk => by cases hk)
    have hlt2 : w1.heap.size < w2.heap.size := (hown2.lt _ rfl).2
    have HNO : Hid (NO w2 (w1.heap.size + 1) w1.heap.size N (fun _ => .slice none 0 0) (clsK F es 0 0)) := by
      have h := no_made hown2
      exact ⟨h.lt, h.hd, fun j hj => ⟨by unfold clsK clsI; simp; exact World.ownsRow_nil _ _ _ _, (h.own j hj).2⟩, h.apart⟩
    obtain ⟨c0, c1⟩ := hg1.cells
    have HGV : Hid (∀ X, Below Nb w1 X → X.cell? ⟨b0, 0, none⟩ = some (.int .i64 m) ∧ X.cell? ⟨b0, 1, none⟩ = some (.slice a N cap) ∧ EAt X a es ∧ Below b0 w X) := fun X hX => by
      rw [hNb] at hX
      exact ⟨(hX.cell (p := ⟨b0, 0, none⟩) (by simp; omega)).trans c0, (hX.cell (p := ⟨b0, 1, none⟩) (by simp; omega)).trans c1, HE.out X (HBw1.out.trans (hX.mono (by omega))), HBw1.out.trans (hX.mono (by omega))⟩
    rw [← hNb] at HNO hb2 hrun2 hlt2 hs1
    have HB2 := hid hb2
    have HJ := hid hj
    have HJ0 := hid hy0
    have HJ1 := hid hy1
    have HJ2 := hid hy2
    clear HBB hg1 ho1 ho2 hown2 hgrow2 hj hy0 hy1 hy2 hF
    go_wp2
    clear hrun2 hb2 c0 c1
    rw [← hNb]
    have HNB := hid hNb
    clear hNb
    go_loopw [5] (fun i wz => ∃ t : Nat, t ≤ m ∧ i = .int .i64 t ∧ Hid (∃ V, NO wz (Nb + 1) Nb N V (clsK F es t 0)) ∧ Hid (Below Nb w1 wz) ∧ w2.heap.size ≤ wz.heap.size) (fun i _ => m - (RowKit.intOf i).toNat)
    case atStart => exact ⟨0, Nat.zero_le _, rfl, ⟨_, HNO.out⟩, HB2.out, Nat.le_refl _⟩
    case round =>
      obtain ⟨t, ht, rfl, hno, hbz, hsz⟩ := hrel
      obtain ⟨wo, hwo⟩ := ex_eq wr
      subst hwo
      obtain ⟨c0, c1, _, _⟩ := HGV.out wo hbz.out
      by_cases hlt : t < m
      · have q1 : (t : Int) < (m : Int) := by omega
        have CN := hid (rnew_any (m : Int) wo)
        obtain ⟨Bp, hBp⟩ := ex_eq wo.heap.size
        have HBP := hid hBp
        have HBZ := hid hbz.out
        clear hbz
        go_wp2_with fail
        refine CN.out.mono ?_
        rintro e w3 ⟨rfl, hnew⟩
        obtain ⟨gp, ap, cp, hgp, hpt, hs3, hb3⟩ := part_new (v := t) (es := es) hm hnew
        rw [← HBP.out] at hgp hpt hs3 hb3 ⊢
        have HPT := hid hpt
        have HB3 := hid hb3
        have hNbB : Nb < Bp := by rw [HBP.out]; omega
        clear CN hnew hpt hb3 c0 c1 hBp
        go_wp2
        go_loopw [7] (fun i wz => ∃ k : Nat, k ≤ N ∧ i = .int .i64 k ∧ Hid (PartTo wz Bp gp ap cp m t k es) ∧ Hid (Below Bp wo wz) ∧ w3.heap.size ≤ wz.heap.size) (fun i _ => N - (RowKit.intOf i).toNat)
        case atStart => exact ⟨0, Nat.zero_le _, rfl, HPT, HB3.out, Nat.le_refl _⟩
        case round =>
          obtain ⟨k, hk, rfl, hpt, hbr, hsr⟩ := hrel
          have hbN : Below Nb w1 wr := HBZ.out.trans (hbr.out.mono (by omega))
          obtain ⟨c0, c1, hEr, _⟩ := HGV.out wr hbN
          by_cases hltk : k < N
          · have hkr : k < es.length := by rw [← HN.out]; exact hltk
            obtain ⟨g, o, rfl, hg, hcs⟩ := hEr (by omega)
            have hin := HRG.out.2.2.2.1 _ (List.getElem_mem hkr)
            obtain ⟨p, hp⟩ : ∃ p : Nat, (p : Int) = es[k].1 := ⟨es[k].1.toNat, by omega⟩
            obtain ⟨q, hq⟩ : ∃ q : Nat, (q : Int) = es[k].2 := ⟨es[k].2.toNat, by omega⟩
            obtain ⟨d0, d1⟩ := hcs k hkr
            rw [← hp] at d0
            rw [← hq] at d1
            have q2 : (k : Int) < (N : Int) := by omega
            by_cases hpt0 : p = t
            · have HNX : Hid (PartTo wr Bp gp ap cp m t (k + 1) es) := hpt.out.skip hkr (fun h => h.1 (by omega))
              have HBR := hid hbr.out
              clear hcs hin hp hq hpt hbr hbN hEr
              subst hpt0
              go_wp2
              go_roundw
              case rel => exact ⟨k + 1, by omega, by go_num, HNX, HBR.out, hsr⟩
              case measure => simp [RowKit.intOf]; omega
            have p1 : ¬ (p : Int) = (t : Int) := by omega
            have p2 : ((p : Int) != (t : Int)) = true := by simp [bne, p1]
            by_cases hqt0 : q = t
            · have HNX : Hid (PartTo wr Bp gp ap cp m t (k + 1) es) := hpt.out.skip hkr (fun h => h.2 (by omega))
              have HBR := hid hbr.out
              clear hcs hin hp hq hpt hbr hbN hEr
              subst hqt0
              go_wp2
              go_roundw
              case rel => exact ⟨k + 1, by omega, by go_num, HNX, HBR.out, hsr⟩
              case measure => simp [RowKit.intOf]; omega
            have p3 : ¬ (q : Int) = (t : Int) := by omega
            have p4 : ((q : Int) != (t : Int)) = true := by simp [bne, p3]
            have CJ : Hid (∃ r, Calls Try.prog 43 #[.pointer (some ⟨Bp, 0, none⟩), .int .i64 p, .int .i64 q] wr.drew fun e w' => e = .returned (.bool r) ∧ PartTo w' Bp gp ap cp m t (k + 1) es ∧ KeptBut (fun k => k = gp) wr.drew w') := (hpt.out.below (below_refl_drew wr)).join HRG.out hkr ⟨by omega, by omega⟩ hp hq
            obtain ⟨r, CJ⟩ := CJ.out
            have CJ := hid CJ
            have hlg : g < Bp := by
              have := HE.out w (Below.refl _ _) (by omega)
              obtain ⟨g', o', e', hg', _⟩ := this
              cases e'
              have := HBw1.out.size
              rw [HB0.out] at *
              omega
            have HSJ : Hid (∀ X, KeptBut (fun k => k = gp) wr.drew X → X.cell? ⟨b0, 1, none⟩ = some (.slice (some ⟨g, o, none⟩) N cap) ∧ X.cell? ⟨g, o + k * 2, none⟩ = some (.int .i64 p) ∧ X.cell? ⟨g, o + k * 2 + 1, none⟩ = some (.int .i64 q)) := fun X h =>
              ⟨(h.cell (p := ⟨b0, 1, none⟩) (block_lt_of_cell c1) (by simp; omega)).trans c1, (h.cell (p := ⟨g, o + k * 2, none⟩) (block_lt_of_cell d0) (by simp; omega)).trans d0, (h.cell (p := ⟨g, o + k * 2 + 1, none⟩) (block_lt_of_cell d1) (by simp; omega)).trans d1⟩
            have hS := HSJ.out wr.drew (KeptBut.refl _ _)
            have HBX : Hid (∀ X, KeptBut (fun k => k = gp) wr.drew X → Below Bp wo X ∧ w3.heap.size ≤ X.heap.size) := fun X h => ⟨(hbr.out.drew).trans (h.below (by simp; omega) (fun k _ e => by omega)), by have := h.size; simp at this; omega⟩
            clear hcs hin hp hq hpt hbr hbN hEr
            go_wp2_with fail
            refine wp_region_held_drew (S := (fun X => X.cell? ⟨b0, 1, none⟩ = some (.slice (some ⟨g, o, none⟩) N cap) ∧ X.cell? ⟨g, o + k * 2, none⟩ = some (.int .i64 p) ∧ X.cell? ⟨g, o + k * 2 + 1, none⟩ = some (.int .i64 q))) (by kernel_rfl) hS (fun hHeld => ?_)
            (refine takeW (i := 0) (dst := some 60) (v := ?_) rfl rfl (by kernel_rfl) (by kernel_rfl) (by kernel_rfl) (fun _ _ _ h => h) (Or.inl ⟨by rfl, ?_⟩) hHeld ?_; rotate_left; focus (intro w hSw; (try dsimp only at hSw); go_simp; (try with_reducible rfl); done))
            try simp only [Act.put, List.setIfInBounds_toArray, List.set_cons_zero, List.set_cons_succ]
            (refine takeW (i := 1) (dst := some 61) (v := ?_) rfl rfl (by kernel_rfl) (by kernel_rfl) (by kernel_rfl) (fun _ _ _ h => h) (Or.inl ⟨by rfl, ?_⟩) hHeld ?_; rotate_left; focus (intro w hSw; (try dsimp only at hSw); go_simp; (try with_reducible rfl); done))
            try simp only [Act.put, List.setIfInBounds_toArray, List.set_cons_zero, List.set_cons_succ]
            (refine takeW (i := 2) (dst := some 62) (v := ?_) rfl rfl (by kernel_rfl) (by kernel_rfl) (by kernel_rfl) (fun _ _ _ h => h) (Or.inl ⟨by rfl, ?_⟩) hHeld ?_; rotate_left; focus (intro w hSw; (try dsimp only at hSw); go_simp; (try with_reducible rfl); done))
            try simp only [Act.put, List.setIfInBounds_toArray, List.set_cons_zero, List.set_cons_succ]
            (refine takeW (i := 3) (dst := some 63) (v := ?_) rfl rfl (by kernel_rfl) (by kernel_rfl) (by kernel_rfl) (fun _ _ _ h => h) (Or.inl ⟨by rfl, ?_⟩) hHeld ?_; rotate_left; focus (intro w hSw; (try dsimp only at hSw); go_simp; (try with_reducible rfl); done))
            try simp only [Act.put, List.setIfInBounds_toArray, List.set_cons_zero, List.set_cons_succ]
            (refine takeW (i := 4) (dst := some 64) (v := ?_) rfl rfl (by kernel_rfl) (by kernel_rfl) (by kernel_rfl) (fun _ _ _ h => h) (Or.inl ⟨by rfl, ?_⟩) hHeld ?_; rotate_left; focus (intro w hSw; (try dsimp only at hSw); go_simp; (try with_reducible rfl); done))
            try simp only [Act.put, List.setIfInBounds_toArray, List.set_cons_zero, List.set_cons_succ]
            (refine takeW (i := 5) (dst := some 65) (v := ?_) rfl rfl (by kernel_rfl) (by kernel_rfl) (by kernel_rfl) (fun _ _ _ h => h) (Or.inl ⟨by rfl, ?_⟩) hHeld ?_; rotate_left; focus (intro w hSw; (try dsimp only at hSw); go_simp; (try with_reducible rfl); done))
            try simp only [Act.put, List.setIfInBounds_toArray, List.set_cons_zero, List.set_cons_succ]
            (refine takeW (i := 6) (dst := some 66) (v := ?_) rfl rfl (by kernel_rfl) (by kernel_rfl) (by kernel_rfl) (fun _ _ _ h => h) (Or.inl ⟨by rfl, ?_⟩) hHeld ?_; rotate_left; focus (intro w hSw; (try dsimp only at hSw); go_simp; (try with_reducible rfl); done))
            try simp only [Act.put, List.setIfInBounds_toArray, List.set_cons_zero, List.set_cons_succ]
            (refine takeW (i := 7) (dst := some 67) (v := ?_) rfl rfl (by kernel_rfl) (by kernel_rfl) (by kernel_rfl) (fun _ _ _ h => h) (Or.inl ⟨by rfl, ?_⟩) hHeld ?_; rotate_left; focus (intro w hSw; (try dsimp only at hSw); go_simp; (try with_reducible rfl); done))
            try simp only [Act.put, List.setIfInBounds_toArray, List.set_cons_zero, List.set_cons_succ]
            (refine takeW (i := 8) (dst := some 68) (v := ?_) rfl rfl (by kernel_rfl) (by kernel_rfl) (by kernel_rfl) (fun _ _ _ h => h) (Or.inl ⟨by rfl, ?_⟩) hHeld ?_; rotate_left; focus (intro w hSw; (try dsimp only at hSw); go_simp; (try with_reducible rfl); done))
            try simp only [Act.put, List.setIfInBounds_toArray, List.set_cons_zero, List.set_cons_succ]
            (refine takeW (i := 9) (dst := some 69) (v := ?_) rfl rfl (by kernel_rfl) (by kernel_rfl) (by kernel_rfl) (fun _ _ _ h => h) (Or.inl ⟨by rfl, ?_⟩) hHeld ?_; rotate_left; focus (intro w hSw; (try dsimp only at hSw); go_simp; (try with_reducible rfl); done))
            try simp only [Act.put, List.setIfInBounds_toArray, List.set_cons_zero, List.set_cons_succ]
            (refine takeW (i := 10) (dst := some 70) (v := ?_) rfl rfl (by kernel_rfl) (by kernel_rfl) (by kernel_rfl) (fun _ _ _ h => h) (Or.inl ⟨by rfl, ?_⟩) hHeld ?_; rotate_left; focus (intro w hSw; (try dsimp only at hSw); go_simp; (try with_reducible rfl); done))
            try simp only [Act.put, List.setIfInBounds_toArray, List.set_cons_zero, List.set_cons_succ]
            (refine takeW (i := 11) (dst := some 71) (v := ?_) rfl rfl (by kernel_rfl) (by kernel_rfl) (by kernel_rfl) (fun _ _ _ h => h) (Or.inl ⟨by rfl, ?_⟩) hHeld ?_; rotate_left; focus (intro w hSw; (try dsimp only at hSw); go_simp; (try with_reducible rfl); done))
            try simp only [Act.put, List.setIfInBounds_toArray, List.set_cons_zero, List.set_cons_succ]
            (refine takeW (i := 12) (dst := some 72) (v := ?_) rfl rfl (by kernel_rfl) (by kernel_rfl) (by kernel_rfl) (fun _ _ _ h => h) (Or.inl ⟨by rfl, ?_⟩) hHeld ?_; rotate_left; focus (intro w hSw; (try dsimp only at hSw); go_simp; (try with_reducible rfl); done))
            try simp only [Act.put, List.setIfInBounds_toArray, List.set_cons_zero, List.set_cons_succ]
            refine wpAnyH_ready (rs := [13]) (by kernel_rfl) (by simp) ?_
            refine AllReadyH.cons (o := _) rfl (fun KK hK => ?_) AllReadyH.nil
            go_simp
            refine CJ.out.mono ?_
            rintro e y1 ⟨rfl, hpt, hky⟩
            have HPY := hid hpt
            have HKY := hid hky
            have hS1 := HSJ.out y1 hky
            clear hpt hky
            refine hK.out _ _ hS1 (fun hHeld => ?_)
            clear hK KK
            try simp only [Act.put]
            try simp only [List.setIfInBounds_toArray]
            try simp only [List.set_cons_succ]
            try simp only [List.set_cons_zero]
            refine wpAnyH_done (by kernel_rfl) ?_ _
            obtain ⟨hbx, hsx⟩ := HBX.out y1 HKY.out
            have HBXX := hid hbx
            clear hHeld hS HSJ CJ c0 c1 d0 d1 hbx HKY HBX
            go_wp2
            go_roundw
            case rel => exact ⟨k + 1, by omega, by go_num, HPY, HBXX.out, hsx⟩
            case measure => simp [RowKit.intOf]; omega
          · obtain rfl : k = N := by omega
            have hall := hpt.out.all (by rw [HN.out]; exact Nat.le_refl _) (HF.out t).1 (HF.out t).2
            obtain ⟨V0, hno0⟩ := hno.out
            have HC0 : Hid (∃ V, Cls wr Nb k Bp gp ap cp m F es t 0 V) := ⟨V0, hno0.below (by rw [← HBP.out]; exact hbr.out), fun j hj => ⟨fun e => by have := ((hno0.own j hj).1.lt _ e).2; have h2 := HBP.out; omega, fun e => by have := ((hno0.own j hj).1.lt _ e).2; have h2 := HBP.out; omega⟩, hall⟩
            have HBN := hid hbN
            have hsr2 : w2.heap.size ≤ wr.heap.size := by have := hbr.out.size; omega
            have hNbg : Nb < gp := by omega
            clear hall hpt hbr hbN hEr hno hno0
            go_wp2
            clear c0 c1
            go_loopw [8] (fun i wz => ∃ j : Nat, j ≤ k ∧ i = .int .i64 j ∧ Hid (∃ V, Cls wz Nb k Bp gp ap cp m F es t j V) ∧ Hid (Below Nb w1 wz) ∧ w2.heap.size ≤ wz.heap.size) (fun i _ => k - (RowKit.intOf i).toNat)
            case atStart => exact ⟨0, Nat.zero_le _, rfl, HC0, HBN, hsr2⟩
            case round =>
              clear HC0 HBN hsr2
              obtain ⟨N, hNN⟩ : ∃ N, N = k := ⟨k, rfl⟩
              subst hNN
              obtain ⟨k, hk, rfl, hcl, hbr, hsr⟩ := hrel
              obtain ⟨c0, c1, hEr, _⟩ := HGV.out wr hbr.out
              by_cases hltk : k < N
              · have hkr : k < es.length := by rw [← HN.out]; exact hltk
                obtain ⟨g, o, rfl, hg, hcs⟩ := hEr (by omega)
                have hin := HRG.out.2.2.2.1 _ (List.getElem_mem hkr)
                obtain ⟨p, hp⟩ : ∃ p : Nat, (p : Int) = es[k].1 := ⟨es[k].1.toNat, by omega⟩
                obtain ⟨q, hq⟩ : ∃ q : Nat, (q : Int) = es[k].2 := ⟨es[k].2.toNat, by omega⟩
                obtain ⟨d0, d1⟩ := hcs k hkr
                rw [← hp] at d0
                rw [← hq] at d1
                have hgd : es.getD k (0, 0) = es[k] := by rw [List.getD_eq_getElem?_getD, List.getElem?_eq_getElem hkr]; rfl
                obtain ⟨V, hCl⟩ := hcl.out
                obtain ⟨a1, f1⟩ := hCl.no.hd k hltk
                have hxo : offEnd t (es.getD k (0, 0)) = if p = t then q else p := by
                  rw [hgd]
                  unfold offEnd
                  by_cases e : p = t
                  · rw [if_pos (by omega), if_pos e]; omega
                  · rw [if_neg (by omega), if_neg e]; omega
                obtain ⟨x0, hx0⟩ := ex_eq (offEnd t (es.getD k (0, 0)))
                have hxm : x0 < m := by rw [hx0, hxo]; split <;> omega
                have bx := hCl.part.box
                obtain ⟨rfl, rc, _⟩ := hCl.part.iat hxm
                have HH := hid (hCl.half hltk (by omega) hbr.out (by omega) hNbB hNbg)
                obtain ⟨v1, hv1⟩ := ex_eq (V k)
                obtain ⟨xs1, hxs1⟩ := ex_eq ((clsI F t (es.getD k (0, 0))).map (Value.int .i64))
                have hltN : Nb < wr.heap.size := hCl.no.lt
                obtain ⟨W1, hW1⟩ := ex_eq wr
                rw [← hW1] at hltN a1 f1 HH bx rc hsr d0 d1 c0 c1 hCl
                have HO1 : Hid (W1.ownsRow (Nb + 1) 3 1 v1 t xs1) := by
                  show World.ownsRow _ _ _ _ _ _ _
                  have := (hCl.no.own k hltk).1
                  rw [clsK_own, clsI_len] at this
                  rw [hv1, hxs1]; exact this
                rw [← hv1] at a1 HH
                rw [← hxs1, ← hx0] at HH
                have HSB : Hid (∀ X : World, W1.heap.size ≤ X.heap.size → Nb + 1 ≤ X.heap.size) := fun X h => by omega
                have HI0 := hid hi
                have HY0 := hid hz0
                have HY1 := hid hz1
                have HY2 := hid hz2
                have q1' : (t : Int) < (m : Int) := by omega
                have q2 : (k : Int) < (N : Int) := by omega
                have q3 : (x0 : Int) < (m : Int) := by omega
                clear hxs1 hv1 hCl hcl hbr hEr hcs hgd hi hz0 hz1 hz2
                have hx2 : (p = t ∧ x0 = q) ∨ (p ≠ t ∧ x0 = p) := by
                  by_cases e : p = t
                  · exact Or.inl ⟨e, by rw [hx0, hxo, if_pos e]⟩
                  · exact Or.inr ⟨e, by rw [hx0, hxo, if_neg e]⟩
                clear hx0 hxo hp hq hin
                subst hW1
                rcases hx2 with ⟨e1, e2⟩ | ⟨e1, e2⟩
                · have e1 := e1.symm
                  subst e1
                  subst e2
                  go_wp2_with fail
                  go_region_law (refine step_append_any _ rfl (.tmp 101) (.tmp 109) 28 rfl (Nb + 1) 3 i0 _ 1 8 Try.underlying28 HI0.out HY0.out HY1.out HY2.out rfl (by decide) v1 t xs1 (by simp [Act.eval]) (own_below HO1.out ((Below.refl _ _).drew.alloc (Nat.le_refl _) _)) (some ⟨W1.heap.size, 0, none⟩) 1 1 [.int .i64 (F t x0)] (by simp [Act.eval]) (fun h => by cases h) rfl (fun pp hpp => by cases hpp; exact cells_one (heap_alloc_new _ _)) (fun u hu => by simp at hu; rw [hu]; rfl) (by unfold maxLen; omega) (by omega) (HSB.out _ (by simp)) ?_; intro v' w4 hown4 hgrow4 hat4; obtain ⟨va, vc, rfl, _⟩ := sl_own hown4; obtain ⟨⟨b4, f4⟩, r5⟩ := HH.out _ w4 _ ((Below.refl _ _).drew.alloc (Nat.le_refl _) _) hown4 hgrow4 hat4; have R5 := hid r5; clear r5 hown4 hgrow4 hat4)
                  all_goals
                    have HCZ := hid R5.out.2.2
                    have HBZ2 : Hid (Below Nb w1 (w4.setCell ⟨Nb, k, none⟩ (.slice va (t + 1) vc))) := R5.out.1
                    have hsZ : w2.heap.size ≤ (w4.setCell ⟨Nb, k, none⟩ (.slice va (t + 1) vc)).heap.size := by have := R5.out.2.1; omega
                    obtain ⟨W5, hW5⟩ := ex_eq (w4.setCell ⟨Nb, k, none⟩ (.slice va (t + 1) vc))
                    rw [← hW5] at HCZ HBZ2 hsZ
                    have HW5 := hid hW5
                    clear R5 b4 f4 a1 f1 HH HO1 HI0 HY0 HY1 HY2 hW5 d0 d1 c0 c1 bx rc
                    rw [← HW5.out]
                    go_wp2
                    go_roundw
                    case rel => exact ⟨k + 1, by omega, by go_num, HCZ, HBZ2, hsZ⟩
                    case measure => simp [RowKit.intOf]; omega
                · subst e2
                  have e3 : ¬ (x0 : Int) = (t : Int) := by omega
                  have e4 : ((x0 : Int) == (t : Int)) = false := by simp [e3]
                  go_wp2_with fail
                  go_region_law (refine step_append_any _ rfl (.tmp 101) (.tmp 109) 28 rfl (Nb + 1) 3 i0 _ 1 8 Try.underlying28 HI0.out HY0.out HY1.out HY2.out rfl (by decide) v1 t xs1 (by simp [Act.eval]) (own_below HO1.out ((Below.refl _ _).drew.alloc (Nat.le_refl _) _)) (some ⟨W1.heap.size, 0, none⟩) 1 1 [.int .i64 (F t x0)] (by simp [Act.eval]) (fun h => by cases h) rfl (fun pp hpp => by cases hpp; exact cells_one (heap_alloc_new _ _)) (fun u hu => by simp at hu; rw [hu]; rfl) (by unfold maxLen; omega) (by omega) (HSB.out _ (by simp)) ?_; intro v' w4 hown4 hgrow4 hat4; obtain ⟨va, vc, rfl, _⟩ := sl_own hown4; obtain ⟨⟨b4, f4⟩, r5⟩ := HH.out _ w4 _ ((Below.refl _ _).drew.alloc (Nat.le_refl _) _) hown4 hgrow4 hat4; have R5 := hid r5; clear r5 hown4 hgrow4 hat4)
                  all_goals
                    have HCZ := hid R5.out.2.2
                    have HBZ2 : Hid (Below Nb w1 (w4.setCell ⟨Nb, k, none⟩ (.slice va (t + 1) vc))) := R5.out.1
                    have hsZ : w2.heap.size ≤ (w4.setCell ⟨Nb, k, none⟩ (.slice va (t + 1) vc)).heap.size := by have := R5.out.2.1; omega
                    obtain ⟨W5, hW5⟩ := ex_eq (w4.setCell ⟨Nb, k, none⟩ (.slice va (t + 1) vc))
                    rw [← hW5] at HCZ HBZ2 hsZ
                    have HW5 := hid hW5
                    clear R5 b4 f4 a1 f1 HH HO1 HI0 HY0 HY1 HY2 hW5 d0 d1 c0 c1 bx rc
                    rw [← HW5.out]
                    go_wp2
                    go_roundw
                    case rel => exact ⟨k + 1, by omega, by go_num, HCZ, HBZ2, hsZ⟩
                    case measure => simp [RowKit.intOf]; omega
              · obtain rfl : k = N := by omega
                have HNX : Hid (∃ V, NO wr (Nb + 1) Nb k V (clsK F es (t + 1) 0)) := by
                  obtain ⟨V, h⟩ := hcl.out
                  exact ⟨V, h.no.congr (fun j hj => clsK_all hj)⟩
                have HBX := hid hbr.out
                clear hcl hbr hEr
                go_wp2
                go_roundw
                case rel => exact ⟨t + 1, by omega, by go_num, HNX, HBX.out, hsr⟩
                case measure => simp [RowKit.intOf]; omega
      · obtain rfl : t = m := by omega
        obtain ⟨V, hNOq⟩ := hno.out
        obtain ⟨D1, hD1⟩ := ex_eq wo.heap.size
        have hNbD : Nb < D1 := by rw [hD1]; exact hNOq.lt
        have hO12 : wo.heap[b0 + 1]? = some (.cells #[.slice none 0 0, .slice none 0 0] 33 (0, 0)) ∧ wo.heap[b0 + 2]? = some (.cells #[.slice none 0 0, .slice none 0 0] 33 (0, 0)) := by
          have h1 : Below W.heap.size W wo := HB1.out.trans (hbz.out.mono (by have := HB1.out.size; rw [HNB.out]; exact this))
          exact ⟨(HGC.out wo h1).2.2.1, (HGC.out wo h1).2.2.2⟩
        have HGP : Hid (∀ X, KeptBut (fun k => k = b0 + 2 ∨ D1 ≤ k) wo X → X.cell? ⟨b0, 0, none⟩ = some (.int .i64 t) ∧ X.cell? ⟨b0, 1, none⟩ = some (.slice a N cap) ∧ EAt X a es ∧ X.heap[b0 + 1]? = some (.cells #[.slice none 0 0, .slice none 0 0] 33 (0, 0)) ∧ Below b0 w X) := fun X hX => by
          obtain ⟨z0, z1, z2, z3⟩ := HGV.out wo hbz.out
          refine ⟨(hX.cell (p := ⟨b0, 0, none⟩) (block_lt_of_cell z0) (by simp only; omega)).trans z0, (hX.cell (p := ⟨b0, 1, none⟩) (block_lt_of_cell z1) (by simp only; omega)).trans z1, ?_, (hX.block _ (by omega) (by omega)).trans hO12.1, z3.trans (hX.below (by omega) (fun k _ e => by omega))⟩
          intro h0
          obtain ⟨g, off, ha, hg, hc⟩ := HE.out w (Below.refl _ _) h0
          obtain ⟨g', off', ha', hg', hc'⟩ := z2 h0
          rw [ha] at ha'
          simp only [Option.some.injEq, Addr.mk.injEq, and_true] at ha'
          obtain ⟨rfl, rfl⟩ := ha'
          have hgb : g < b0 := by rw [HB0.out]; exact hg
          exact ⟨g, off, ha, Nat.lt_of_lt_of_le hg' hX.size, fun j hj => ⟨(hX.cell (p := ⟨g, off + j * 2, none⟩) hg' (by simp only; omega)).trans (hc' j hj).1, (hX.cell (p := ⟨g, off + j * 2 + 1, none⟩) hg' (by simp only; omega)).trans (hc' j hj).2⟩⟩
        have HRW : Hid (∀ X, KeptBut (fun k => k = b0 + 2 ∨ D1 ≤ k) wo X → ∀ j (hj : j < es.length), ∃ aj cj, X.cell? ⟨Nb, j, none⟩ = some (.slice aj t cj) ∧ IAt X aj (clsI F t es[j])) := fun X hX j hj => hNOq.rows HN.out (by omega) hD1.symm hX hj
        obtain ⟨w4, hrun4, hown4, hgrow4⟩ := run_make_full (P := Try.prog) wo wo.heap.size 76 4 i2 (.bool false) 1 Try.underlying76 hk hx0 hx1 .i64 .i64 N (by rw [hx2]; omega) (by unfold maxLen; omega) (Nat.le_refl _)
        have hb4 : Below wo.heap.size wo w4 := Below.grown (Below.refl _ _) hgrow4 (Nat.le_refl _) (fun k hk => by cases hk)
        have hlt4 : wo.heap.size < w4.heap.size := (hown4.lt _ rfl).2
        obtain ⟨D2, hD2⟩ := ex_eq w4.heap.size
        obtain ⟨w5, hrun5, hown5, hgrow5⟩ := run_make_full (P := Try.prog) w4 w4.heap.size 28 3 i0 (.int .i64 0) 1 Try.underlying28 hi hz0 hz1 .i64 .i64 t (by rw [hz2]; omega) (by unfold maxLen; omega) (Nat.le_refl _)
        have hb5 : Below w4.heap.size w4 w5 := Below.grown (Below.refl _ _) hgrow5 (Nat.le_refl _) (fun k hk => by cases hk)
        have hlt5 : w4.heap.size < w5.heap.size := (hown5.lt _ rfl).2
        have hk4 : KeptBut (fun k => k = b0 + 2 ∨ D1 ≤ k) wo w4 := KeptBut.of_whole _ hb4
        have hk5 : KeptBut (fun k => k = b0 + 2 ∨ D1 ≤ k) wo w5 := hk4.trans (KeptBut.of_whole _ hb5)
        have HS0 : Hid (∃ dn Bs v us, St4 wo w5 b0 D1 D2 N t es 0 dn Bs v us) := by
          have ho2 : w5.heap[b0 + 2]? = some (.cells #[.slice none 0 0, .slice none 0 0] 33 (0, 0)) := by
            rw [hb5.block _ (by omega), hb4.block _ (by omega)]; exact hO12.2
          refine ⟨fun _ => false, [], .slice none 0 0, [], ?_, done_nil es, ?_, ⟨cell_of_heap ho2 0, cell_of_heap ho2 1, frozen_of_heap ho2 _, frozen_of_heap ho2 _, ⟨⟨rfl, Or.inl ⟨rfl, rfl⟩⟩, rfl, (fun g h => by cases h), fun k hk => absurd hk (by simp)⟩⟩, BlkUpto.nil es, hk5, Nat.zero_le _⟩
          · rw [hD1]; exact (rowB_made hown4).below hb5
          · rw [hD2]; exact (row1_made hown5 hlt5).congr (fun j _ => by unfold atL; rfl)
        obtain ⟨z0, z1, _⟩ := HGP.out w4 hk4
        rw [← hD1] at hrun4 hlt4
        rw [← hD2] at hrun5 hlt4 hlt5
        have HD1 := hid hD1
        have HD2 := hid hD2
        have HBZ := hid hbz.out
        clear hno hNOq hown4 hown5 hgrow4 hgrow5 hb4 hb5 hk4 hk5 hk hx0 hx1 hx2 hO12 hbz hD1 hD2
        go_wp2
        clear hrun4 hrun5 z0 z1 c0 c1
        go_loopw [12] (fun i wz => ∃ k : Nat, k ≤ N ∧ i = .int .i64 k ∧ Hid (∃ dn Bs v us, St4 wo wz b0 D1 D2 N t es k dn Bs v us)) (fun i _ => N - (RowKit.intOf i).toNat)
        case atStart => exact ⟨0, Nat.zero_le _, rfl, HS0⟩
        case round =>
          clear HS0
          obtain ⟨k, hk, rfl, hst⟩ := hrel
          obtain ⟨dn, Bs, v, us, hSt⟩ := hst.out
          obtain ⟨c0, c1, hEr, _⟩ := HGP.out wr hSt.kp
          by_cases hltk : k < N
          · have hkr : k < es.length := by rw [← HN.out]; exact hltk
            have q1 : (k : Int) < (N : Int) := by omega
            have q1b : decide ((k : Int) < (N : Int)) = true := decide_eq_true q1
            obtain ⟨dk, dkf⟩ := hSt.dr.2 k hltk
            cases hdk : dn k with
            | true =>
              rw [hdk] at dk
              have HNX : Hid (∃ dn Bs v us, St4 wo wr b0 D1 D2 N t es (k + 1) dn Bs v us) := ⟨_, _, _, _, hSt.pass HRG.out hkr hdk⟩
              clear hSt hst hEr hdk
              go_wp2
              go_roundw
              case rel => exact ⟨k + 1, by omega, by go_num, HNX⟩
              case measure => simp [RowKit.intOf]; omega
            | false =>
              rw [hdk] at dk
              obtain ⟨L0, hL0⟩ := ex_eq wr.heap.size
              obtain ⟨wi, hwi⟩ := ex_eq wr
              have HS5 : Hid (St5 wi (wr.alloc (.cells #[] 3)) D1 L0 N es k k dn [] (.slice (some ⟨L0, 0, none⟩) 0 0) dn) := by
                refine ⟨by rw [hL0]; exact own_emptyI (w := wr) _ rfl, ends_nil es k, hSt.dr.below (below_oneA _ _), fun q hq hk' => ⟨Or.inl, fun h => h.elim id (fun h => absurd h.1 (by omega))⟩, by rw [hwi]; exact KeptBut.of_whole _ (below_oneA _ _)⟩
              have hDL : D1 < L0 := by rw [hL0]; exact hSt.dr.1
              rw [← hwi] at hSt
              have HSt := hid hSt
              have HWI := hid hwi
              have HL0 := hid hL0
              clear hSt hst hEr hwi hL0
              go_wp2
              clear dk dkf c0 c1
              rw [← HL0.out]
              go_loopw [13, 14] (fun v13 i wz => ∃ (j : Nat) (l : List Int) (dn' : Nat → Bool), k ≤ j ∧ j ≤ N ∧ i = .int .i64 j ∧ Hid (St5 wi wz D1 L0 N es k j dn l v13 dn')) (fun _ i _ => N - (RowKit.intOf i).toNat)
              case atStart => exact ⟨k, [], dn, Nat.le_refl _, by omega, rfl, HS5⟩
              case round =>
                clear HS5
                obtain ⟨j, l, dn', hkj, hjN, rfl, h5⟩ := hrel
                have hkp : KeptBut (fun q => q = b0 + 2 ∨ D1 ≤ q) wo wr := HSt.out.kp.trans (h5.out.kp.mono (fun q _ e => by omega))
                obtain ⟨c0, c1, hEr, _, _⟩ := HGP.out wr hkp
                by_cases hltj : j < N
                · have hjr : j < es.length := by rw [← HN.out]; exact hltj
                  have q2 : (j : Int) < (N : Int) := by omega
                  obtain ⟨ak, ck, x1, hIk⟩ := HRW.out wr hkp k hkr
                  obtain ⟨aj, cj, x2, hIj⟩ := HRW.out wr hkp j hjr
                  obtain ⟨r, hr⟩ := boolR_of (Tog es es[k] es[j])
                  have CS : Hid (Calls Try.prog 16 #[.slice ak t ck, .slice aj t cj] wr.drew fun e w' => e = .returned (.bool r) ∧ Below wr.drew.heap.size wr.drew w') := by
                    have := same_any ak aj ck cj (clsI F t es[k]) (clsI F t es[j]) r wr.drew (by rw [clsI_len]; omega) (hIk.below (below_refl_drew wr)) (hIj.below (below_refl_drew wr)) (by rw [hr]; exact (clsI_tog HRG.out (fun v _ => (HF.out v).2) (List.getElem_mem hkr) (List.getElem_mem hjr)).symm)
                    rw [clsI_len, clsI_len] at this
                    exact this
                  have HSX : Hid (∀ X, Below wr.drew.heap.size wr.drew X → X.cell? ⟨Nb, k, none⟩ = some (.slice ak t ck) ∧ X.cell? ⟨Nb, j, none⟩ = some (.slice aj t cj)) := fun X h => ⟨(h.cell (p := ⟨Nb, k, none⟩) (block_lt_of_cell x1)).trans x1, (h.cell (p := ⟨Nb, j, none⟩) (block_lt_of_cell x2)).trans x2⟩
                  have hS := HSX.out wr.drew (Below.refl _ _)
                  have HKP := hid hkp
                  have HRr := hid hr
                  clear hIk hIj hr hEr hkp
                  go_wp2_with fail
                  refine wp_region_held_drew (S := (fun X => X.cell? ⟨Nb, k, none⟩ = some (.slice ak t ck) ∧ X.cell? ⟨Nb, j, none⟩ = some (.slice aj t cj))) (by kernel_rfl) hS (fun hHeld => ?_)
                  (refine takeW (i := 0) (dst := some 139) (v := ?_) rfl rfl (by kernel_rfl) (by kernel_rfl) (by kernel_rfl) (fun _ _ _ h => h) (Or.inl ⟨by rfl, ?_⟩) hHeld ?_; rotate_left; focus (intro w hSw; (try dsimp only at hSw); go_simp; (try with_reducible rfl); done))
                  try simp only [Act.put, List.setIfInBounds_toArray, List.set_cons_zero, List.set_cons_succ]
                  (refine takeW (i := 1) (dst := some 140) (v := ?_) rfl rfl (by kernel_rfl) (by kernel_rfl) (by kernel_rfl) (fun _ _ _ h => h) (Or.inl ⟨by rfl, ?_⟩) hHeld ?_; rotate_left; focus (intro w hSw; (try dsimp only at hSw); go_simp; (try with_reducible rfl); done))
                  try simp only [Act.put, List.setIfInBounds_toArray, List.set_cons_zero, List.set_cons_succ]
                  (refine takeW (i := 2) (dst := some 141) (v := ?_) rfl rfl (by kernel_rfl) (by kernel_rfl) (by kernel_rfl) (fun _ _ _ h => h) (Or.inl ⟨by rfl, ?_⟩) hHeld ?_; rotate_left; focus (intro w hSw; (try dsimp only at hSw); go_simp; (try with_reducible rfl); done))
                  try simp only [Act.put, List.setIfInBounds_toArray, List.set_cons_zero, List.set_cons_succ]
                  (refine takeW (i := 3) (dst := some 142) (v := ?_) rfl rfl (by kernel_rfl) (by kernel_rfl) (by kernel_rfl) (fun _ _ _ h => h) (Or.inl ⟨by rfl, ?_⟩) hHeld ?_; rotate_left; focus (intro w hSw; (try dsimp only at hSw); go_simp; (try with_reducible rfl); done))
                  try simp only [Act.put, List.setIfInBounds_toArray, List.set_cons_zero, List.set_cons_succ]
                  (refine takeW (i := 4) (dst := some 143) (v := ?_) rfl rfl (by kernel_rfl) (by kernel_rfl) (by kernel_rfl) (fun _ _ _ h => h) (Or.inl ⟨by rfl, ?_⟩) hHeld ?_; rotate_left; focus (intro w hSw; (try dsimp only at hSw); go_simp; (try with_reducible rfl); done))
                  try simp only [Act.put, List.setIfInBounds_toArray, List.set_cons_zero, List.set_cons_succ]
                  (refine takeW (i := 5) (dst := some 144) (v := ?_) rfl rfl (by kernel_rfl) (by kernel_rfl) (by kernel_rfl) (fun _ _ _ h => h) (Or.inl ⟨by rfl, ?_⟩) hHeld ?_; rotate_left; focus (intro w hSw; (try dsimp only at hSw); go_simp; (try with_reducible rfl); done))
                  try simp only [Act.put, List.setIfInBounds_toArray, List.set_cons_zero, List.set_cons_succ]
                  (refine takeW (i := 6) (dst := some 145) (v := ?_) rfl rfl (by kernel_rfl) (by kernel_rfl) (by kernel_rfl) (fun _ _ _ h => h) (Or.inl ⟨by rfl, ?_⟩) hHeld ?_; rotate_left; focus (intro w hSw; (try dsimp only at hSw); go_simp; (try with_reducible rfl); done))
                  try simp only [Act.put, List.setIfInBounds_toArray, List.set_cons_zero, List.set_cons_succ]
                  (refine takeW (i := 7) (dst := some 146) (v := ?_) rfl rfl (by kernel_rfl) (by kernel_rfl) (by kernel_rfl) (fun _ _ _ h => h) (Or.inl ⟨by rfl, ?_⟩) hHeld ?_; rotate_left; focus (intro w hSw; (try dsimp only at hSw); go_simp; (try with_reducible rfl); done))
                  try simp only [Act.put, List.setIfInBounds_toArray, List.set_cons_zero, List.set_cons_succ]
                  refine wpAnyH_ready (rs := [8]) (by kernel_rfl) (by simp) ?_
                  refine AllReadyH.cons (o := _) rfl (fun KK hK => ?_) AllReadyH.nil
                  go_simp
                  refine CS.out.mono ?_
                  rintro e y1 ⟨rfl, hy1⟩
                  have HY1 := hid hy1
                  have hS1 := HSX.out y1 hy1
                  clear hy1
                  refine hK.out _ _ hS1 (fun hHeld => ?_)
                  clear hK KK
                  try simp only [Act.put]
                  try simp only [List.setIfInBounds_toArray]
                  try simp only [List.set_cons_succ]
                  try simp only [List.set_cons_zero]
                  refine wpAnyH_done (by kernel_rfl) ?_ _
                  have H5 : Hid (St5 wi y1 D1 L0 N es k j dn l u13 dn') := h5.out.below ((below_refl_drew wr).trans (HY1.out.mono (by simp)))
                  clear hHeld hS HSX CS x1 x2 c0 c1 h5
                  cases r with
                  | false =>
                    have HNX : Hid (St5 wi y1 D1 L0 N es k (j + 1) dn l u13 dn') := H5.out.pass hkr hjr (fun h => by have := HRr.out.2 h; cases this)
                    clear H5 HKP HY1
                    go_wp2
                    go_roundw
                    case rel => exact ⟨j + 1, l, dn', by omega, by omega, by go_num, HNX⟩
                    case measure => simp [RowKit.intOf]; omega
                  | true =>
                    have hTog : Tog es es[k] es[j] := HRr.out.1 rfl
                    obtain ⟨la, lc, rfl, _⟩ := own_form H5.out.own
                    obtain ⟨dk, dkf⟩ := H5.out.dr.2 j hltj
                    obtain ⟨W3, hW3⟩ := ex_eq (y1.setCell ⟨D1, j, none⟩ (.bool true))
                    obtain ⟨dnx, hdnx⟩ := ex_eq (fun q => if q = j then true else dn' q)
                    have HM3 : Hid (Mid wi W3 D1 L0 N t l (.slice la l.length lc) dnx) := by rw [hW3, hdnx]; exact H5.out.mid HRG.out hltj hDL
                    have HW3 := hid hW3
                    obtain ⟨p, hp⟩ := ex_eq es[j].1
                    obtain ⟨q, hq⟩ := ex_eq es[j].2
                    have hin := HRG.out.2.2.2.1 _ (List.getElem_mem hjr)
                    rw [← hp, ← hq] at hin
                    have hpt : 0 ≤ p ∧ p < (t : Int) := by omega
                    have hqt : 0 ≤ q ∧ q < (t : Int) := by omega
                    have HNXT : Hid (∀ Y v4, Mid wi Y D1 L0 N t (putN (putN l p) q) v4 dnx → ∃ l' dn'', St5 wi Y D1 L0 N es k (j + 1) dn l' v4 dn'') := by rw [hp, hq, hdnx]; exact fun Y v4 hM => H5.out.next hkr hkj hjr hTog hM
                    obtain ⟨g, o, rfl, _, _⟩ := (HGP.out wi HSt.out.kp).2.2.1 (by omega)
                    have HRD : Hid (∀ X, KeptBut (fun q => q = D1 ∨ L0 ≤ q) wi X → X.cell? ⟨b0, 1, none⟩ = some (.slice (some ⟨g, o, none⟩) N cap) ∧ X.cell? ⟨g, o + j * 2, none⟩ = some (.int .i64 p) ∧ X.cell? ⟨g, o + j * 2 + 1, none⟩ = some (.int .i64 q)) := fun X hX => by
                      obtain ⟨z0, z1, z2, _, _⟩ := HGP.out X (HSt.out.kp.trans (hX.mono (fun q _ e => by omega)))
                      obtain ⟨g', o', ha, _, hc⟩ := z2 (by omega)
                      cases ha
                      obtain ⟨d0, d1⟩ := hc j hjr
                      rw [hp, hq]
                      exact ⟨z1, d0, d1⟩
                    have hpm : p ∈ [p] := by simp
                    have ht4 : t ≤ 1000 := hm
                    clear H5 HKP HY1 hin hp hq hdnx hW3 hTog HRr
                    go_upto_region 33 with fail
                    rw [← HW3.out]
                    clear dk dkf HW3
                    obtain ⟨c1, d0, d1⟩ := HRD.out W3 HM3.out.kp
                    obtain ⟨la', lc', e', hIl⟩ := own_form HM3.out.own
                    cases e'
                    have hlen := HM3.out.len
                    by_cases hina : p ∈ l
                    · have CI : Hid (Calls Try.prog 44 #[.slice la l.length lc, .int .i64 p] W3 fun e w' => e = .returned (.bool true) ∧ w' = W3) := by
                        have := in_any la lc l p W3 (by omega) hIl
                        rw [decide_eq_true hina] at this
                        exact this
                      have hpe : putN l p = l := by unfold putN; rw [if_pos hina]
                      rw [hpe] at HNXT
                      clear hIl hina hpe hlen
                      go_wp2_with fail
                      refine CI.out.mono ?_
                      rintro e w7 ⟨rfl, hw7⟩
                      rw [hw7]
                      clear hw7 CI
                      clear c1 d0 d1
                      obtain ⟨c1, d0, d1⟩ := HRD.out W3 HM3.out.kp
                      obtain ⟨la', lc', e', hIl⟩ := own_form HM3.out.own
                      cases e'
                      have hlen := HM3.out.len
                      by_cases hinb : q ∈ l
                      · have CI : Hid (Calls Try.prog 44 #[.slice la l.length lc, .int .i64 q] W3 fun e w' => e = .returned (.bool true) ∧ w' = W3) := by
                          have := in_any la lc l q W3 (by omega) hIl
                          rw [decide_eq_true hinb] at this
                          exact this
                        have hpe : putN l q = l := by unfold putN; rw [if_pos hinb]
                        rw [hpe] at HNXT
                        clear hIl hinb hpe hlen
                        go_wp2_with fail
                        refine CI.out.mono ?_
                        rintro e w7 ⟨rfl, hw7⟩
                        rw [hw7]
                        clear hw7 CI
                        obtain ⟨l', dn'', h5n⟩ := HNXT.out _ _ HM3.out
                        have HNX := hid h5n
                        clear h5n HNXT HRD
                        go_wp2
                        go_roundw
                        case rel => exact ⟨j + 1, l', dn'', by omega, by omega, by go_num, HNX⟩
                        case measure => simp [RowKit.intOf]; omega
                      · have CI : Hid (Calls Try.prog 44 #[.slice la l.length lc, .int .i64 q] W3 fun e w' => e = .returned (.bool false) ∧ w' = W3) := by
                          have := in_any la lc l q W3 (by omega) hIl
                          rw [decide_eq_false hinb] at this
                          exact this
                        have HOW : Hid ((W3.alloc (.cells #[.int .i64 q] 3)).ownsRow L0 3 1 (.slice la l.length lc) l.length (l.map (Value.int .i64))) := HM3.out.own.alloc _
                        have HNW : Hid (∀ p', some (⟨W3.heap.size, 0, none⟩ : Addr) = some p' → ∀ j x, [Value.int .i64 q][j]? = some x → (W3.alloc (.cells #[.int .i64 q] 3)).cell? (p'.add j) = some x) := news_one _
                        have HON : Hid (∀ v' ∈ [Value.int .i64 q], v'.oneCell' = true) := fun v' hv => by simp at hv; rw [hv]; rfl
                        have H63 : Hid (l.length + 1 ≤ maxLen) := by show _ ≤ _; unfold maxLen; omega
                        have HBY : Hid ((l.length + 1) * 8 ≤ 140737488355328) := by show _ ≤ _; omega
                        have HBS : Hid (L0 ≤ (W3.alloc (.cells #[.int .i64 q] 3)).heap.size) := by
                          have h1 := HM3.out.kp.size
                          rw [HWI.out, ← HL0.out] at h1
                          show L0 ≤ _; simp; omega
                        have HPT : Hid (∀ w4 v4, w4.ownsRow L0 3 1 v4 (l.length + 1) (l.map (Value.int .i64) ++ [.int .i64 q]) → (W3.alloc (.cells #[.int .i64 q] 3)).grownBy w4 (Value.ownBlock (.slice la l.length lc)) → Mid wi w4 D1 L0 N t (putN l q) v4 dnx) := fun w4 v4 a1 a2 => HM3.out.put hDL hinb (by omega) a1 a2
                        clear hIl hinb hlen
                        go_wp2_with fail
                        refine CI.out.mono ?_
                        rintro e w7 ⟨rfl, hw7⟩
                        rw [hw7]
                        clear hw7 CI
                        go_wp2_with (at_builtin; refine wpList_append_any _ rfl _ _ 28 rfl L0 3 i0 _ 1 8 Try.underlying28 hi hz0 hz1 hz2 rfl (by decide) _ _ _ rfl HOW.out (some ⟨W3.heap.size, 0, none⟩) 1 1 [.int .i64 q] rfl (fun h => by cases h) rfl HNW.out HON.out H63.out HBY.out HBS.out ?_)
                        intro v4b w4b hown4 hgrow hat4
                        have HM5 := hid (HPT.out w4b v4b hown4 hgrow)
                        obtain ⟨lx, lxc, rfl, _⟩ := own_form HM5.out.own
                        clear hown4 hgrow hat4 HPT HOW HNW HON H63 HBY HBS c1 d0 d1
                        obtain ⟨l', dn'', h5n⟩ := HNXT.out _ _ HM5.out
                        have HNX := hid h5n
                        clear h5n HNXT HRD
                        go_wp2
                        go_roundw
                        case rel => exact ⟨j + 1, l', dn'', by omega, by omega, by go_num, HNX⟩
                        case measure => simp [RowKit.intOf]; omega
                    · have CI : Hid (Calls Try.prog 44 #[.slice la l.length lc, .int .i64 p] W3 fun e w' => e = .returned (.bool false) ∧ w' = W3) := by
                        have := in_any la lc l p W3 (by omega) hIl
                        rw [decide_eq_false hina] at this
                        exact this
                      have HOW : Hid ((W3.alloc (.cells #[.int .i64 p] 3)).ownsRow L0 3 1 (.slice la l.length lc) l.length (l.map (Value.int .i64))) := HM3.out.own.alloc _
                      have HNW : Hid (∀ p', some (⟨W3.heap.size, 0, none⟩ : Addr) = some p' → ∀ j x, [Value.int .i64 p][j]? = some x → (W3.alloc (.cells #[.int .i64 p] 3)).cell? (p'.add j) = some x) := news_one _
                      have HON : Hid (∀ v' ∈ [Value.int .i64 p], v'.oneCell' = true) := fun v' hv => by simp at hv; rw [hv]; rfl
                      have H63 : Hid (l.length + 1 ≤ maxLen) := by show _ ≤ _; unfold maxLen; omega
                      have HBY : Hid ((l.length + 1) * 8 ≤ 140737488355328) := by show _ ≤ _; omega
                      have HBS : Hid (L0 ≤ (W3.alloc (.cells #[.int .i64 p] 3)).heap.size) := by
                        have h1 := HM3.out.kp.size
                        rw [HWI.out, ← HL0.out] at h1
                        show L0 ≤ _; simp; omega
                      have HPT : Hid (∀ w4 v4, w4.ownsRow L0 3 1 v4 (l.length + 1) (l.map (Value.int .i64) ++ [.int .i64 p]) → (W3.alloc (.cells #[.int .i64 p] 3)).grownBy w4 (Value.ownBlock (.slice la l.length lc)) → Mid wi w4 D1 L0 N t (putN l p) v4 dnx) := fun w4 v4 a1 a2 => HM3.out.put hDL hina (by omega) a1 a2
                      clear hIl hina hlen
                      go_wp2_with fail
                      refine CI.out.mono ?_
                      rintro e w7 ⟨rfl, hw7⟩
                      rw [hw7]
                      clear hw7 CI
                      go_wp2_with (at_builtin; refine wpList_append_any _ rfl _ _ 28 rfl L0 3 i0 _ 1 8 Try.underlying28 hi hz0 hz1 hz2 rfl (by decide) _ _ _ rfl HOW.out (some ⟨W3.heap.size, 0, none⟩) 1 1 [.int .i64 p] rfl (fun h => by cases h) rfl HNW.out HON.out H63.out HBY.out HBS.out ?_)
                      intro v4a w4a hown4 hgrow hat4
                      obtain ⟨l2, hl2⟩ := ex_eq (putN l p)
                      have HM4 : Hid (Mid wi w4a D1 L0 N t l2 v4a dnx) := by rw [hl2]; exact HPT.out w4a v4a hown4 hgrow
                      rw [← hl2] at HNXT
                      obtain ⟨lb, ld, rfl, _⟩ := own_form HM4.out.own
                      clear hown4 hgrow hat4 HPT HOW HNW HON H63 HBY HBS c1 d0 d1 hl2 HM3
                      obtain ⟨c1, d0, d1⟩ := HRD.out w4a HM4.out.kp
                      obtain ⟨la', lc', e', hIl⟩ := own_form HM4.out.own
                      cases e'
                      have hlen := HM4.out.len
                      by_cases hinb : q ∈ l2
                      · have CI : Hid (Calls Try.prog 44 #[.slice lb l2.length ld, .int .i64 q] w4a fun e w' => e = .returned (.bool true) ∧ w' = w4a) := by
                          have := in_any lb ld l2 q w4a (by omega) hIl
                          rw [decide_eq_true hinb] at this
                          exact this
                        have hpe : putN l2 q = l2 := by unfold putN; rw [if_pos hinb]
                        rw [hpe] at HNXT
                        clear hIl hinb hpe hlen
                        go_wp2_with fail
                        refine CI.out.mono ?_
                        rintro e w7 ⟨rfl, hw7⟩
                        rw [hw7]
                        clear hw7 CI
                        obtain ⟨l', dn'', h5n⟩ := HNXT.out _ _ HM4.out
                        have HNX := hid h5n
                        clear h5n HNXT HRD
                        go_wp2
                        go_roundw
                        case rel => exact ⟨j + 1, l', dn'', by omega, by omega, by go_num, HNX⟩
                        case measure => simp [RowKit.intOf]; omega
                      · have CI : Hid (Calls Try.prog 44 #[.slice lb l2.length ld, .int .i64 q] w4a fun e w' => e = .returned (.bool false) ∧ w' = w4a) := by
                          have := in_any lb ld l2 q w4a (by omega) hIl
                          rw [decide_eq_false hinb] at this
                          exact this
                        have HOW : Hid ((w4a.alloc (.cells #[.int .i64 q] 3)).ownsRow L0 3 1 (.slice lb l2.length ld) l2.length (l2.map (Value.int .i64))) := HM4.out.own.alloc _
                        have HNW : Hid (∀ p', some (⟨w4a.heap.size, 0, none⟩ : Addr) = some p' → ∀ j x, [Value.int .i64 q][j]? = some x → (w4a.alloc (.cells #[.int .i64 q] 3)).cell? (p'.add j) = some x) := news_one _
                        have HON : Hid (∀ v' ∈ [Value.int .i64 q], v'.oneCell' = true) := fun v' hv => by simp at hv; rw [hv]; rfl
                        have H63 : Hid (l2.length + 1 ≤ maxLen) := by show _ ≤ _; unfold maxLen; omega
                        have HBY : Hid ((l2.length + 1) * 8 ≤ 140737488355328) := by show _ ≤ _; omega
                        have HBS : Hid (L0 ≤ (w4a.alloc (.cells #[.int .i64 q] 3)).heap.size) := by
                          have h1 := HM4.out.kp.size
                          rw [HWI.out, ← HL0.out] at h1
                          show L0 ≤ _; simp; omega
                        have HPT : Hid (∀ w4 v4, w4.ownsRow L0 3 1 v4 (l2.length + 1) (l2.map (Value.int .i64) ++ [.int .i64 q]) → (w4a.alloc (.cells #[.int .i64 q] 3)).grownBy w4 (Value.ownBlock (.slice lb l2.length ld)) → Mid wi w4 D1 L0 N t (putN l2 q) v4 dnx) := fun w4 v4 a1 a2 => HM4.out.put hDL hinb (by omega) a1 a2
                        clear hIl hinb hlen
                        go_wp2_with fail
                        refine CI.out.mono ?_
                        rintro e w7 ⟨rfl, hw7⟩
                        rw [hw7]
                        clear hw7 CI
                        go_wp2_with (at_builtin; refine wpList_append_any _ rfl _ _ 28 rfl L0 3 i0 _ 1 8 Try.underlying28 hi hz0 hz1 hz2 rfl (by decide) _ _ _ rfl HOW.out (some ⟨w4a.heap.size, 0, none⟩) 1 1 [.int .i64 q] rfl (fun h => by cases h) rfl HNW.out HON.out H63.out HBY.out HBS.out ?_)
                        intro v4b w4b hown4 hgrow hat4
                        have HM5 := hid (HPT.out w4b v4b hown4 hgrow)
                        obtain ⟨lx, lxc, rfl, _⟩ := own_form HM5.out.own
                        clear hown4 hgrow hat4 HPT HOW HNW HON H63 HBY HBS c1 d0 d1
                        obtain ⟨l', dn'', h5n⟩ := HNXT.out _ _ HM5.out
                        have HNX := hid h5n
                        clear h5n HNXT HRD
                        go_wp2
                        go_roundw
                        case rel => exact ⟨j + 1, l', dn'', by omega, by omega, by go_num, HNX⟩
                        case measure => simp [RowKit.intOf]; omega
                · obtain rfl : N = j := by omega
                  obtain ⟨la, lc, rfl, hIl⟩ := own_form h5.out.own
                  obtain ⟨W5, hW5⟩ : ∃ x, x = wr := ⟨_, rfl⟩
                  subst hW5
                  have hLw : L0 = wi.heap.size := by rw [HWI.out]; exact HL0.out
                  have hD2L : D2 < L0 := by rw [hLw]; exact HSt.out.cr.1
                  have ht4 : t ≤ 1000 := hm
                  have hll : l.length ≤ t := nodup_le h5.out.ends.nd (ends_in HRG.out h5.out.ends)
                  obtain ⟨L, hL⟩ := ex_eq (srt [] l)
                  obtain ⟨S0, hS0⟩ := ex_eq W5.heap.size
                  have hLS : L0 ≤ S0 := by rw [hS0, hLw]; exact h5.out.kp.size
                  have CSo : Hid (Calls Try.prog 45 #[.slice la l.length lc] W5 fun e w' => ∃ v, e = .returned v ∧ w'.ownsRow S0 3 1 v L.length (L.map (Value.int .i64)) ∧ Below S0 W5 w') := by
                    rw [hL, hS0]; exact sorted_any la lc l W5 (by omega) hIl
                  have hLnd : L.Nodup := by rw [hL]; exact (srt_rises h5.out.ends.nd).imp (fun h => by omega)
                  have hLin : ∀ x ∈ L, 0 ≤ x ∧ x < (t : Int) := fun x hx => ends_in HRG.out h5.out.ends x (srt_perm_mem.1 (by rw [← hL]; exact hx))
                  have hLlen : L.length ≤ t := nodup_le hLnd hLin
                  have hcr := HSt.out.cr.kept h5.out.kp (by omega)
                  have hout := HSt.out.out.kept h5.out.kp (by omega) (fun k h1 h2 e => by omega)
                  have hbl := HSt.out.bl
                  obtain ⟨ba, bc, rfl, _, _⟩ := hout.ll.at
                  have HVB : Hid (∀ g, Value.ownBlock (.slice ba Bs.length bc) = some g → g < S0) := fun g hg => by rw [hS0]; exact (hout.ll.1.lt g hg).2
                  have HCR := hid hcr
                  have HOUT := hid hout
                  have H5 := hid h5.out
                  have HL := hid hL
                  have HS0 := hid hS0
                  have HLN := hid hLnd
                  have HLI := hid hLin
                  have hbN : Bs.length ≤ 4000 := by omega
                  have hDS : D2 < S0 := by omega
                  clear h5 hIl hEr hcr hout hkp hL hLnd hLin hS0
                  go_wp2_with fail
                  refine CSo.out.mono ?_
                  rintro e w6 ⟨vS, rfl, hownS, hb6⟩
                  obtain ⟨sa, sc, rfl, hIS⟩ := own_form hownS
                  have HSA : Hid (∀ g off, sa = some ⟨g, off, none⟩ → S0 ≤ g) := fun g off ha => (hownS.lt g (by rw [ha]; rfl)).1
                  have HCR6 : Hid (Row1 w6 D2 t (cntQ Bs L 0)) := (HCR.out.kept (KeptBut.of_below hb6) (by omega)).congr (fun u _ => (cntQ_zero Bs L u).symm)
                  have HOUT6 : Hid (OutAt w6 (b0 + 2) (D2 + 1) (fun k => D2 < k) (.slice ba Bs.length bc) us Bs) := HOUT.out.kept (KeptBut.of_below hb6) (by omega) (fun k _ h2 e => by have := HS0.out; omega)
                  have HIS := hid hIS
                  have HB6 := hid hb6
                  clear CSo hownS hb6 hIS HCR HOUT c0 c1
                  go_wp2
                  go_loopw [15] (fun i wz => ∃ q : Nat, q ≤ L.length ∧ i = .int .i64 q ∧ Hid (Row1 wz D2 t (cntQ Bs L q)) ∧ Hid (KeptBut (fun g => g = D2) w6 wz)) (fun i _ => L.length - (RowKit.intOf i).toNat)
                  case atStart => exact ⟨0, Nat.zero_le _, rfl, HCR6, KeptBut.refl _ _⟩
                  case round =>
                    clear HCR6
                    obtain ⟨q, hq, rfl, hrw, hk6⟩ := hrel
                    by_cases hlq : q < L.length
                    · obtain ⟨gs, os, rfl, hgs, hcs⟩ := HIS.out (by omega)
                      have hgS := HSA.out gs os rfl
                      have x0 := (hk6.out.cell (p := ⟨gs, os + q, none⟩) hgs (by simp only; omega)).trans (hcs q hlq)
                      have hLq := HLI.out _ (List.getElem_mem hlq)
                      obtain ⟨x, hx⟩ : ∃ x : Nat, L[q] = (x : Int) := ⟨L[q].toNat, by omega⟩
                      have hxt : x < t := by omega
                      rw [hx] at x0
                      obtain ⟨y0, yf⟩ := hrw.out.2 x hxt
                      obtain ⟨cx, hcx⟩ := ex_eq (cntQ Bs L q x)
                      have hcl := cntQ_le Bs L q x
                      rw [← hcx] at y0 hcl
                      have HNX : Hid (Row1 (wr.setCell ⟨D2, x, none⟩ (.int .i64 (cx + 1))) D2 t (cntQ Bs L (q + 1))) := (hrw.out.put hxt (cx + 1)).congr (fun u _ => by rw [cntQ_step HLN.out hlq hx u, hcx])
                      have HKX : Hid (KeptBut (fun g => g = D2) w6 (wr.setCell ⟨D2, x, none⟩ (.int .i64 (cx + 1)))) := hk6.out.trans ((kept_set wr ⟨D2, x, none⟩ (.int .i64 (cx + 1))).mono (fun _ _ e => e))
                      obtain ⟨K, hK⟩ := ex_eq L.length
                      have q1 : (q : Int) < (L.length : Int) := by omega
                      have q2 : (x : Int) < (t : Int) := by omega
                      clear hcs hLq hx hcx hrw hk6 hK
                      go_wp2
                      go_roundw
                      case rel => exact ⟨q + 1, by omega, by go_num, HNX, HKX⟩
                      case measure => simp [RowKit.intOf]; omega
                    · obtain rfl : q = L.length := by omega
                      have hout8 := HOUT6.out.kept hk6.out (by omega) (fun k h1 _ e => by omega)
                      have s0 := hout8.c1
                      have sf := hout8.f1
                      have hIS8 : IAt wr sa L := HIS.out.kept hk6.out (fun g off ha _ e => by have := HSA.out g off ha; omega)
                      have HDW : D2 < wr.heap.size := hrw.out.1
                      obtain ⟨W8, hW8⟩ : ∃ x, x = wr := ⟨_, rfl⟩
                      subst hW8
                      have HPUT : Hid (∀ (w9 : World) v4, w9.ownsRow (D2 + 1) 28 1 v4 (Bs.length + 1) (us ++ [.slice sa L.length sc]) → (W8.alloc (.cells #[.slice sa L.length sc] 28)).grownBy w9 (Value.ownBlock (.slice ba Bs.length bc)) → (v4.ownBlock = Value.ownBlock (.slice ba Bs.length bc) ∨ v4.ownBlock = some (W8.alloc (.cells #[.slice sa L.length sc] 28)).heap.size) → (w9.cell? ⟨b0 + 2, 1, none⟩ = some (.slice ba Bs.length bc) ∧ w9.frozen? ⟨b0 + 2, 1, none⟩ = false) ∧ OutAt (w9.setCell ⟨b0 + 2, 1, none⟩ v4) (b0 + 2) (D2 + 1) (fun k => D2 < k) v4 (us ++ [.slice sa L.length sc]) (midR L Bs Bs.length) ∧ KeptBut (fun k => k = b0 + 2 ∨ D2 < k) W8 (w9.setCell ⟨b0 + 2, 1, none⟩ v4) ∧ (∀ g off, sa = some ⟨g, off, none⟩ → 0 < L.length → D2 < g ∧ v4.ownBlock ≠ some g) ∧ IAt (w9.setCell ⟨b0 + 2, 1, none⟩ v4) sa L) := fun w9 v4 a1 a2 a3 => by
                        have hsv : ∀ g off, sa = some ⟨g, off, none⟩ → 0 < L.length → D2 < g ∧ Value.ownBlock (.slice ba Bs.length bc) ≠ some g := fun g off ha h0 => ⟨by have := HSA.out g off ha; omega, fun e => by have := HVB.out g e; have := HSA.out g off ha; omega⟩
                        obtain ⟨r1, r2, r3⟩ := hout8.push (by omega) HDW hIS8 hsv a1 a2 a3
                        refine ⟨r1, r2, r3, fun g off ha h0 => ⟨(hsv g off ha h0).1, fun e => ?_⟩, ?_⟩
                        · rcases a3 with h | h
                          · exact (hsv g off ha h0).2 (h.symm.trans e)
                          · rw [h] at e
                            obtain ⟨g', o', ha', hg', _⟩ := hIS8 h0
                            rw [ha] at ha'
                            cases ha'
                            simp at e
                            omega
                        · have hk9 : KeptBut (fun k => some k = Value.ownBlock (.slice ba Bs.length bc)) W8 w9 := (kept_alloc W8 _ _).trans (KeptBut.of_grown a2)
                          refine (hIS8.kept hk9 (fun g off ha h0 e => (hsv g off ha h0).2 e.symm)).kept (kept_set _ _ _) (fun g off ha h0 e => ?_)
                          have := HSA.out g off ha
                          simp only at e
                          omega
                      have HK8 : Hid (KeptBut (fun q => q = b0 + 2 ∨ D2 ≤ q) W5 W8) := ((KeptBut.of_below HB6.out).mono (fun q _ e => by omega)).trans (hk6.out.mono (fun q _ e => by omega))
                      have HRW8 := hid hrw.out
                      have HOW8 : Hid ((W8.alloc (.cells #[.slice sa L.length sc] 28)).ownsRow (D2 + 1) 28 1 (.slice ba Bs.length bc) Bs.length us) := hout8.ll.1.alloc _
                      obtain ⟨nv, hnv⟩ := ex_eq (Value.slice sa L.length sc)
                      have HNW : Hid (∀ p', some (⟨W8.heap.size, 0, none⟩ : Addr) = some p' → ∀ j x, [Value.slice sa L.length sc][j]? = some x → (W8.alloc (.cells #[.slice sa L.length sc] 28)).cell? (p'.add j) = some x) := news_one _
                      have HON : Hid (∀ v' ∈ [Value.slice sa L.length sc], v'.oneCell' = true) := fun v' hv => by simp at hv; rw [hv]; rfl
                      have H63 : Hid (Bs.length + 1 ≤ maxLen) := by show _ ≤ _; unfold maxLen; omega
                      have HBY : Hid ((Bs.length + 1) * 24 ≤ 140737488355328) := by show _ ≤ _; omega
                      have HBS : Hid (D2 + 1 ≤ (W8.alloc (.cells #[.slice sa L.length sc] 28)).heap.size) := by show _ ≤ _; simp; omega
                      clear hrw hk6 hout8 hIS8 hnv HOUT6 HIS
                      go_wp2_with (at_builtin; refine wpList_append_any _ rfl _ _ 29 rfl (D2 + 1) 28 i1 _ 1 24 Try.underlying29 HJ.out HJ0.out HJ1.out HJ2.out rfl (by decide) _ _ _ rfl HOW8.out (some ⟨W8.heap.size, 0, none⟩) 1 1 [.slice sa L.length sc] rfl (fun h => by cases h) rfl HNW.out HON.out H63.out HBY.out HBS.out ?_)
                      intro v4 w9 hown4 hgrow hat4
                      obtain ⟨gB, cB, rfl, _, _, _, _⟩ := own_row hown4 (by omega)
                      obtain ⟨⟨k1, k2⟩, hr⟩ := HPUT.out w9 _ hown4 hgrow (hat4.imp id (fun h => by rw [World.size_alloc]; exact h))
                      obtain ⟨B1, hB1⟩ := ex_eq (Bs.length + 1)
                      rw [← hB1] at hr ⊢
                      have HR9 := hid hr
                      have HB1 := hid hB1
                      clear hown4 hgrow hat4 hr hB1
                      go_wp2
                      obtain ⟨W9, hW9⟩ := ex_eq (w9.setCell ⟨b0 + 1 + 1, 1, none⟩ (.slice (some ⟨gB, 0, none⟩) B1 cB))
                      rw [← hW9]
                      have hW9' : W9 = w9.setCell ⟨b0 + 2, 1, none⟩ (.slice (some ⟨gB, 0, none⟩) B1 cB) := hW9
                      rw [← hW9'] at HR9
                      have HS7 : Hid (St7 W9 W9 (b0 + 2) D2 gB L Bs (.slice (some ⟨gB, 0, none⟩) B1 cB) Bs.length) := ⟨⟨_, HR9.out.1⟩, fun j h h' => by omega, KeptBut.refl _ _⟩
                      have hgD : D2 < gB := HR9.out.1.ll.2.2.1 gB rfl
                      clear HPUT HOW8 HNW HON H63 HBY HBS k1 k2 s0 sf hW9 hW9'
                      go_loopw [16] (fun i wz => ∃ q : Nat, q ≤ Bs.length ∧ i = .int .i64 q ∧ Hid (St7 W9 wz (b0 + 2) D2 gB L Bs (.slice (some ⟨gB, 0, none⟩) B1 cB) q)) (fun i _ => (RowKit.intOf i).toNat)
                      case atStart => exact ⟨Bs.length, Nat.le_refl _, rfl, HS7⟩
                      case round =>
                        clear HS7
                        obtain ⟨q, hq, rfl, h7⟩ := hrel
                        have HNEXT : Hid (∀ X, Below wr.heap.size wr X → (q = 0 ∨ ∃ h : q - 1 < Bs.length, lexL L Bs[q - 1] = false) → ∃ dn Bs v us, St4 wo X b0 D1 D2 N t es (k + 1) dn Bs v us) := fun X hX h1 => by
                          obtain ⟨us7, hout7⟩ := h7.out.out
                          rw [midR_ins HSt.out.up.ord hq h1 h7.out.hi] at hout7
                          have hkw := KeptBut.of_whole (fun _ => False) hX
                          have hk9 : KeptBut (fun q => q = b0 + 2 ∨ D2 ≤ q) W8 X := ((HR9.out.2.1.mono (fun q _ e => by omega)).trans (h7.out.kp.mono (fun q _ e => by omega))).trans (hkw.mono (fun _ _ e => e.elim))
                          have hcr7 : Row1 X D2 t (cntQ Bs L L.length) := ((HRW8.out.kept HR9.out.2.1 (by omega)).kept h7.out.kp (by omega)).kept hkw (fun e => e)
                          have hout7' := hout7.kept hkw (fun e => e) (fun _ _ _ e => e)
                          have hlr := HL.out
                          subst hlr
                          exact HSt.out.add H5.out HN.out HRG.out hkr hdk hD2L hlt4 (by omega) (HK8.out.trans hk9) hcr7 hout7'
                        by_cases hq0 : q = 0
                        · have HNX := hid (HNEXT.out wr (Below.refl _ _) (Or.inl hq0))
                          subst hq0
                          clear HNEXT h7
                          go_wp2
                          go_roundw
                          case rel => exact ⟨k + 1, by omega, by go_num, HNX⟩
                          case measure => simp [RowKit.intOf]; omega
                        · obtain ⟨q', rfl⟩ : ∃ q', q = q' + 1 := ⟨q - 1, by omega⟩
                          obtain ⟨us7, hout7⟩ := h7.out.out
                          have hqB : q' < Bs.length := by omega
                          have s1 := hout7.c1
                          have hIS7 : IAt wr sa L := HR9.out.2.2.2.kept h7.out.kp (fun g off ha h0 e => (HR9.out.2.2.1 g off ha h0).2 (by rw [e]; rfl))
                          obtain ⟨g', cap', ak, ck, e', ⟨r0, hIk⟩, _, _, _, _, _, _⟩ := hout7.down (lc := sc) (by omega) (by omega) hIS7 HR9.out.2.2.1
                          have eg : gB = g' := by have := congrArg Value.ownBlock e'; simpa [Value.ownBlock] using this
                          rw [← eg] at r0
                          obtain ⟨r7, hr7⟩ := ex_eq (lexL L Bs[q'])
                          have CL : Hid (Calls Try.prog 46 #[.slice sa L.length sc, .slice ak (Bs[q']).length ck] wr fun e w' => e = .returned (.bool r7) ∧ Below wr.heap.size wr w') := by
                            rw [hr7]; exact less_any sa ak sc ck L _ wr (by omega) hIS7 hIk
                          obtain ⟨n7, hn7⟩ := ex_eq (Bs[q']).length
                          rw [← hn7] at CL r0
                          have e1 : IntKind.i64.wrap ((q' : Int) + 1 - 1) = (q' : Int) := by simp [IntKind.wrap, IntKind.bits, IntKind.signed]; omega
                          have p0 : (0 : Int) < (q' : Int) + 1 := by omega
                          have hB1' := HB1.out
                          have p1 : (q' : Int) < (B1 : Int) := by omega
                          have p2 : (q' : Int) + 1 < (B1 : Int) := by omega
                          have hbg : b0 + 2 < gB := by omega
                          have HR7 := hid hr7
                          have HAFT : Hid (∀ X, Below wr.heap.size wr X → (X.cell? ⟨b0 + 2, 1, none⟩ = some (.slice (some ⟨gB, 0, none⟩) B1 cB) ∧ X.cell? ⟨gB, q', none⟩ = some (.slice ak n7 ck) ∧ X.frozen? ⟨gB, q' + 1, none⟩ = false ∧ X.frozen? ⟨gB, q', none⟩ = false ∧ ∃ x, X.cell? ⟨gB, q' + 1, none⟩ = some x) ∧ (lexL L Bs[q'] = true → St7 W9 ((X.setCell ⟨gB, q' + 1, none⟩ (.slice ak n7 ck)).setCell ⟨gB, q', none⟩ (.slice sa L.length sc)) (b0 + 2) D2 gB L Bs (.slice (some ⟨gB, 0, none⟩) B1 cB) q')) := fun X hX => by
                            have hkw := KeptBut.of_whole (fun _ => False) hX
                            have hout10 := hout7.kept hkw (fun e => e) (fun _ _ _ e => e)
                            have hX0 := (hX.cell (p := ⟨gB, q', none⟩) (block_lt_of_cell r0)).trans r0
                            obtain ⟨g2, cap2, ak2, ck2, e2, ⟨r2, _⟩, f2, f3, ⟨x2, r3⟩, _, _, us8, hout8⟩ := hout10.down (lc := sc) (by omega) (by omega) (hIS7.below hX) HR9.out.2.2.1
                            have eg2 : gB = g2 := by have := congrArg Value.ownBlock e2; simpa [Value.ownBlock] using this
                            subst eg2
                            rw [← hn7, hX0] at r2
                            cases r2
                            rw [← hn7] at hout8
                            refine ⟨⟨hout10.c1, hX0, f2, f3, x2, r3⟩, fun hlx => ⟨⟨us8, hout8⟩, fun j hj hqj => ?_, ?_⟩⟩
                            · by_cases ej : j = q'
                              · subst ej; exact hlx
                              · exact h7.out.hi j hj (by omega)
                            · exact ((h7.out.kp.trans (hkw.mono (fun _ _ e => e.elim))).trans ((kept_set X ⟨gB, q' + 1, none⟩ (.slice ak n7 ck)).mono (fun _ _ e => e))).trans ((kept_set _ ⟨gB, q', none⟩ (.slice sa L.length sc)).mono (fun _ _ e => e))
                          clear hout7 hIS7 hIk eg e' hr7 hn7 hB1' h7
                          go_wp2_with fail
                          refine CL.out.mono ?_
                          rintro e w10 ⟨rfl, hb10⟩
                          have HB10 := hid hb10
                          clear CL hb10 s1 r0
                          cases r7 with
                          | false =>
                            have HNX := hid (HNEXT.out w10 HB10.out (Or.inr ⟨hqB, HR7.out.symm⟩))
                            clear HAFT HNEXT
                            go_wp2
                            go_roundw
                            case rel => exact ⟨k + 1, by omega, by go_num, HNX⟩
                            case measure => simp [RowKit.intOf]; omega
                          | true =>
                            obtain ⟨⟨t1, t2, t3, t4, t5, t6⟩, hst7⟩ := HAFT.out w10.drew HB10.out.drew
                            have HNX : Hid (St7 W9 (((w10.setCell ⟨gB, q' + 1, none⟩ (.slice ak n7 ck)).setCell ⟨gB, q', none⟩ (.slice sa L.length sc)).drew) (b0 + 2) D2 gB L Bs (.slice (some ⟨gB, 0, none⟩) B1 cB) q') := hst7 HR7.out.symm
                            obtain ⟨⟨y1, y2, y3, y4, y5, y6⟩, _⟩ := HAFT.out w10 HB10.out
                            have hS : (fun X : World => X.cell? ⟨b0 + 2, 1, none⟩ = some (.slice (some ⟨gB, 0, none⟩) B1 cB) ∧ X.cell? ⟨gB, q', none⟩ = some (.slice ak n7 ck)) w10.drew := ⟨t1, t2⟩
                            have hS2 : (fun X : World => X.cell? ⟨b0 + 2, 1, none⟩ = some (.slice (some ⟨gB, 0, none⟩) B1 cB) ∧ X.cell? ⟨gB, q', none⟩ = some (.slice ak n7 ck)) (w10.drew.setCell ⟨gB, q' + 1, none⟩ (.slice ak n7 ck)) := ⟨(World.cell?_setCell_other _ _ _ _ (fun e => by have := congrArg Addr.block e; simp at this; omega)).trans t1, (World.cell?_setCell_other _ _ _ _ (fun e => by have := congrArg Addr.off e; simp at this)).trans t2⟩
                            have e2 : IntKind.i64.wrap (q' : Int) = (q' : Int) := by simp [IntKind.wrap, IntKind.bits, IntKind.signed]; omega
                            have p3 : (0 : Int) ≤ (q' : Int) := by omega
                            have p4 : (0 : Int) ≤ (q' : Int) + 1 := by omega
                            clear hst7 HNEXT HAFT
                            go_wp2_with fail
                            refine wp_region_held_drew (S := (fun X : World => X.cell? ⟨b0 + 2, 1, none⟩ = some (.slice (some ⟨gB, 0, none⟩) B1 cB) ∧ X.cell? ⟨gB, q', none⟩ = some (.slice ak n7 ck))) (by kernel_rfl) hS (fun hHeld => ?_)
                            (refine takeW (i := 0) (dst := some 225) (v := ?_) rfl rfl (by kernel_rfl) (by kernel_rfl) (by kernel_rfl) (fun _ _ _ h => h) (Or.inl ⟨by rfl, ?_⟩) hHeld ?_; rotate_left; focus (intro w hSw; (try dsimp only at hSw); go_simp; (try with_reducible rfl); done))
                            try simp only [Act.put, List.setIfInBounds_toArray, List.set_cons_zero, List.set_cons_succ]
                            (refine takeW (i := 1) (dst := some 226) (v := ?_) rfl rfl (by kernel_rfl) (by kernel_rfl) (by kernel_rfl) (fun _ _ _ h => h) (Or.inl ⟨by rfl, ?_⟩) hHeld ?_; rotate_left; focus (intro w hSw; (try dsimp only at hSw); go_simp; (try with_reducible rfl); done))
                            try simp only [Act.put, List.setIfInBounds_toArray, List.set_cons_zero, List.set_cons_succ]
                            (refine takeW (i := 2) (dst := some 227) (v := ?_) rfl rfl (by kernel_rfl) (by kernel_rfl) (by kernel_rfl) (fun _ _ _ h => h) (Or.inl ⟨by rfl, ?_⟩) hHeld ?_; rotate_left; focus (intro w hSw; (try dsimp only at hSw); go_simp; (try with_reducible rfl); done))
                            try simp only [Act.put, List.setIfInBounds_toArray, List.set_cons_zero, List.set_cons_succ]
                            (refine takeW (i := 3) (dst := some 228) (v := ?_) rfl rfl (by kernel_rfl) (by kernel_rfl) (by kernel_rfl) (fun _ _ _ h => h) (Or.inl ⟨by rfl, ?_⟩) hHeld ?_; rotate_left; focus (intro w hSw; (try dsimp only at hSw); go_simp; (try with_reducible rfl); done))
                            try simp only [Act.put, List.setIfInBounds_toArray, List.set_cons_zero, List.set_cons_succ]
                            (refine takeW (i := 4) (dst := some 229) (v := ?_) rfl rfl (by kernel_rfl) (by kernel_rfl) (by kernel_rfl) (fun _ _ _ h => h) (Or.inl ⟨by rfl, ?_⟩) hHeld ?_; rotate_left; focus (intro w hSw; (try dsimp only at hSw); go_simp; (try with_reducible rfl); done))
                            try simp only [Act.put, List.setIfInBounds_toArray, List.set_cons_zero, List.set_cons_succ]
                            (refine takeW (i := 5) (dst := some 230) (v := ?_) rfl rfl (by kernel_rfl) (by kernel_rfl) (by kernel_rfl) (fun _ _ _ h => h) (Or.inl ⟨by rfl, ?_⟩) hHeld ?_; rotate_left; focus (intro w hSw; (try dsimp only at hSw); go_simp; (try with_reducible rfl); done))
                            try simp only [Act.put, List.setIfInBounds_toArray, List.set_cons_zero, List.set_cons_succ]
                            (refine takeW (i := 6) (dst := some 231) (v := ?_) rfl rfl (by kernel_rfl) (by kernel_rfl) (by kernel_rfl) (fun _ _ _ h => h) (Or.inl ⟨by rfl, ?_⟩) hHeld ?_; rotate_left; focus (intro w hSw; (try dsimp only at hSw); go_simp; (try with_reducible rfl); done))
                            try simp only [Act.put, List.setIfInBounds_toArray, List.set_cons_zero, List.set_cons_succ]
                            (refine takeW (i := 7) (dst := some 232) (v := ?_) rfl rfl (by kernel_rfl) (by kernel_rfl) (by kernel_rfl) (fun _ _ _ h => h) (Or.inl ⟨by rfl, ?_⟩) hHeld ?_; rotate_left; focus (intro w hSw; (try dsimp only at hSw); go_simp; (try with_reducible rfl); done))
                            try simp only [Act.put, List.setIfInBounds_toArray, List.set_cons_zero, List.set_cons_succ]
                            (refine takeW (i := 8) (dst := some 233) (v := ?_) rfl rfl (by kernel_rfl) (by kernel_rfl) (by kernel_rfl) (fun _ _ _ h => h) (Or.inl ⟨by rfl, ?_⟩) hHeld ?_; rotate_left; focus (intro w hSw; (try dsimp only at hSw); go_simp; (try with_reducible rfl); done))
                            try simp only [Act.put, List.setIfInBounds_toArray, List.set_cons_zero, List.set_cons_succ]
                            (refine takeW (i := 9) (dst := some 234) (v := ?_) rfl rfl (by kernel_rfl) (by kernel_rfl) (by kernel_rfl) (fun _ _ _ h => h) (Or.inl ⟨by rfl, ?_⟩) hHeld ?_; rotate_left; focus (intro w hSw; (try dsimp only at hSw); go_simp; (try with_reducible rfl); done))
                            try simp only [Act.put, List.setIfInBounds_toArray, List.set_cons_zero, List.set_cons_succ]
                            refine wpAnyH_ready (rs := [10]) (by kernel_rfl) (by simp) ?_
                            refine AllReadyH.cons (o := _) rfl (fun KK hK => ?_) AllReadyH.nil
                            go_simp
                            refine hK.out _ _ hS2 (fun hHeld => ?_)
                            clear hK KK
                            try simp only [Act.put]
                            try simp only [List.setIfInBounds_toArray]
                            try simp only [List.set_cons_succ]
                            try simp only [List.set_cons_zero]
                            refine wpAnyH_done (by kernel_rfl) ?_ _
                            clear hHeld hS hS2 t1 t2 t3 t4 t6
                            go_wp2
                            go_roundw
                            case rel => exact ⟨q', by omega, by go_num, HNX⟩
                            case measure => simp [RowKit.intOf]
          · obtain rfl : k = N := by omega
            obtain ⟨L8, hL8⟩ := ex_eq wr.heap.size
            obtain ⟨wx, hwx⟩ := ex_eq wr
            have hD2x : D2 < L8 := by rw [hL8]; exact hSt.cr.1
            have hDD : D1 < L8 := by rw [hL8]; exact hSt.dr.1
            have HBL : Hid (BlocksL es Bs) := hSt.up.whole (by rw [HN.out]; exact Nat.le_refl _)
            obtain ⟨ba, bc, hv, _, hba⟩ := hSt.out.ll.at
            have HS8 : Hid (∃ vc, St8 wx wr (b0 + 2) L8 0 Bs v vc) := ⟨.slice none 0 0, hSt.out.c0, hSt.out.c1, hSt.out.f0, World.ownsRow_nil _ _ _ _, by rw [hwx]; exact KeptBut.refl _ _⟩
            have HGX : Hid (∀ X, KeptBut (fun k => k = b0 + 2 ∨ L8 ≤ k) wx X → (∀ j, j < t → X.cell? ⟨D2, j, none⟩ = some (.int .i64 ((atL Bs (j : Int)).length : Int))) ∧ X.cell? ⟨b0, 0, none⟩ = some (.int .i64 t) ∧ X.heap[b0 + 1]? = some (.cells #[.slice none 0 0, .slice none 0 0] 33 (0, 0)) ∧ Below b0 w X ∧ LLAt X ba Bs) := fun X hX => by
              have hkx : KeptBut (fun k => k = b0 + 2 ∨ D1 ≤ k) wo X := hSt.kp.trans (by rw [← hwx]; exact hX.mono (fun k _ e => by omega))
              obtain ⟨z0, _, _, z3, z4⟩ := HGP.out X hkx
              rw [hwx] at hX
              refine ⟨fun j hj => (hX.cell (p := ⟨D2, j, none⟩) hSt.cr.1 (by simp only; omega)).trans (hSt.cr.2 j hj).1, z0, z3, z4, ?_⟩
              obtain ⟨a', cap', hv', _, hl'⟩ := (hSt.out.ll.kept hX (fun k h1 h2 e => by omega)).at
              rw [hv] at hv'
              simp only [Value.slice.injEq, true_and] at hv'
              rw [hv'.1]; exact hl'
            have HLL : Hid (∀ X, KeptBut (fun k => k = b0 + 1 ∨ k = b0 + 2 ∨ L8 ≤ k) wx X → LLAt X ba Bs) := fun X hX => by
              rw [hwx] at hX
              obtain ⟨a', cap', hv', _, hl'⟩ := (hSt.out.ll.kept hX (fun k h1 h2 e => by omega)).at
              rw [hv] at hv'
              simp only [Value.slice.injEq, true_and] at hv'
              rw [hv'.1]; exact hl'
            have HWX := hid hwx
            have HL8 := hid hL8
            have HV := hid hv
            clear hSt hst hEr hba hwx hL8 hv
            go_wp2
            clear c0 c1
            go_loopw [17] (fun i wz => ∃ u : Nat, u ≤ t ∧ i = .int .i64 u ∧ Hid (∃ vc, St8 wx wz (b0 + 2) L8 u Bs v vc)) (fun i _ => t - (RowKit.intOf i).toNat)
            case atStart => exact ⟨0, Nat.zero_le _, rfl, HS8⟩
            case round =>
              clear HS8
              obtain ⟨u, hu, rfl, h8⟩ := hrel
              obtain ⟨vc, hS8⟩ := h8.out
              obtain ⟨r0, c0, ho1, hbw, hll⟩ := HGX.out wr hS8.kp
              have s0 := hS8.c0
              have s1 := hS8.c1
              have sf := hS8.f0
              by_cases hltu : u < t
              · have q1 : (u : Int) < (t : Int) := by omega
                have r1 := r0 u hltu
                obtain ⟨n1, hn1⟩ := ex_eq (atL Bs (u : Int)).length
                rw [← hn1] at r1
                by_cases h2 : 2 ≤ n1
                · have q2 : (n1 : Int) > 1 := by omega
                  have q3 : decide ((n1 : Int) > 1) = true := decide_eq_true q2
                  rw [hn1] at h2
                  have hcl := cutsTo_len Bs u
                  have hb8 : b0 + 2 < L8 := by omega
                  have HPT : Hid (∀ (w4 : World) v4, w4.ownsRow L8 3 1 v4 ((cutsTo Bs u).length + 1) ((cutsTo Bs u).map (Value.int .i64) ++ [.int .i64 u]) → (wr.alloc (.cells #[.int .i64 u] 3)).grownBy w4 vc.ownBlock → (w4.cell? ⟨b0 + 2, 0, none⟩ = some vc ∧ w4.frozen? ⟨b0 + 2, 0, none⟩ = false) ∧ St8 wx (w4.setCell ⟨b0 + 2, 0, none⟩ v4) (b0 + 2) L8 (u + 1) Bs v v4) := fun w4 v4 a1 a2 => hS8.put h2 hb8 (by rw [HWX.out, HL8.out]) a1 a2
                  have HOW0 : Hid (wr.ownsRow L8 3 1 vc (cutsTo Bs u).length ((cutsTo Bs u).map (Value.int .i64))) := hS8.own
                  obtain ⟨K2, hK2⟩ := ex_eq (cutsTo Bs u).length
                  rw [← hK2] at hcl HPT HOW0
                  have HOW : Hid ((wr.alloc (.cells #[.int .i64 u] 3)).ownsRow L8 3 1 vc K2 ((cutsTo Bs u).map (Value.int .i64))) := HOW0.out.alloc _
                  have HNW : Hid (∀ p, some (⟨wr.heap.size, 0, none⟩ : Addr) = some p → ∀ j x, [Value.int .i64 (u : Int)][j]? = some x → (wr.alloc (.cells #[.int .i64 u] 3)).cell? (p.add j) = some x) := news_one _
                  have HON : Hid (∀ v' ∈ [Value.int .i64 (u : Int)], v'.oneCell' = true) := fun v' hv => by simp at hv; rw [hv]; rfl
                  have H63 : Hid (K2 + 1 ≤ maxLen) := by show K2 + 1 ≤ maxLen; unfold maxLen; omega
                  have HBS : Hid (L8 ≤ (wr.alloc (.cells #[.int .i64 u] 3)).heap.size) := by
                    have h1 := hS8.kp.size
                    rw [HWX.out, ← HL8.out] at h1
                    show L8 ≤ _; simp; omega
                  clear hS8 h8 r0 ho1 hbw hll hn1 h2 hK2
                  go_wp2_with (at_builtin; refine wpList_append_any _ rfl _ _ 28 rfl L8 3 i0 _ 1 8 Try.underlying28 hi hz0 hz1 hz2 rfl (by decide) _ _ _ rfl HOW.out (some ⟨wr.heap.size, 0, none⟩) 1 1 [.int .i64 u] rfl (fun h => by cases h) rfl HNW.out HON.out H63.out ?c4 HBS.out ?_)
                  case c4 => omega
                  intro v4 w4 hown4 hgrow hat4
                  obtain ⟨⟨s4, f4⟩, r8⟩ := HPT.out w4 v4 hown4 hgrow
                  obtain ⟨va, vcp, rfl, _⟩ := sl_own hown4
                  have HNX : Hid (∃ vc, St8 wx (w4.setCell ⟨b0 + 2, 0, none⟩ (.slice va (K2 + 1) vcp)) (b0 + 2) L8 (u + 1) Bs v vc) := ⟨_, r8⟩
                  clear hown4 hgrow hat4 r8 HPT HOW HOW0 HNW HON H63 HBS s0 s1 sf c0 r1
                  go_wp2
                  go_roundw
                  case rel => exact ⟨u + 1, by omega, by go_num, HNX⟩
                  case measure => simp [RowKit.intOf]; omega
                · have q2 : ¬ (n1 : Int) > 1 := by omega
                  have q3 : decide ((n1 : Int) > 1) = false := decide_eq_false q2
                  have HNX : Hid (∃ vc, St8 wx wr (b0 + 2) L8 (u + 1) Bs v vc) := by
                    rw [hn1] at h2
                    exact ⟨vc, hS8.c0, hS8.c1, hS8.f0, by rw [cutsTo_no h2]; exact hS8.own, hS8.kp⟩
                  clear hS8 h8 r0 ho1 hbw hll hn1
                  go_wp2
                  go_roundw
                  case rel => exact ⟨u + 1, by omega, by go_num, HNX⟩
                  case measure => simp [RowKit.intOf]; omega
              · obtain rfl : u = t := by omega
                obtain ⟨ca, cc, hvc, hI⟩ := own_form hS8.own
                have z0 := cell_of_heap ho1 0
                have z1 := cell_of_heap ho1 1
                have zf0 := frozen_of_heap ho1 0
                have zf1 := frozen_of_heap ho1 1
                have HRel : Hid (OfRel u es (cutsTo Bs u) Bs) := Or.inl ⟨HRG.out, HBL.out, cutsTo_ok HRG.out HBL.out⟩
                have HBW := hid hbw
                have HFI : Hid (∀ p q, IAt ((wr.setCell ⟨b0 + 1, 0, none⟩ p).setCell ⟨b0 + 1, 1, none⟩ q) ca (cutsTo Bs u) ∧ LLAt ((wr.setCell ⟨b0 + 1, 0, none⟩ p).setCell ⟨b0 + 1, 1, none⟩ q) ba Bs) := fun p q => by
                  have k1 := (kept_set wr ⟨b0 + 1, 0, none⟩ p).trans (kept_set (wr.setCell ⟨b0 + 1, 0, none⟩ p) ⟨b0 + 1, 1, none⟩ q)
                  refine ⟨hI.kept k1 (fun g off ha h0 e => ?_), HLL.out _ ((hS8.kp.mono (fun k _ e => Or.inr e)).trans (k1.mono (fun k _ e => Or.inl e)))⟩
                  have := (hS8.own.lt g (by rw [hvc, ha]; rfl)).1
                  simp only at e
                  omega
                have HVC := hid hvc
                have hv := HV.out
                subst hvc
                subst hv
                clear hS8 h8 r0 ho1 hbw hll hI
                go_wp2
                refine bodyPost_ret (v := .agg #[.slice ca (cutsTo Bs u).length cc, .slice ba Bs.length bc]) ?_ rfl ⟨_, rfl, _, _, _, _, _, _, rfl, HRel.out, (HFI.out _ _).1, (HFI.out _ _).2, by rw [← HB0.out]; exact HZ.out wr _ _ HBW.out⟩
                rw [results_cell1 rfl]
                go_simp
end Go.Proofs.Ytlebimolgienkaa
