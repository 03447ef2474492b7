/-
  The law BlockEdges over any blocks that keep their contracts.
-/
import Derived.Test.YtplhpinaadgkkaaB26
import Derived.Test.YtplhpinaadgkkaaB19
namespace Go.Proofs.Ytplhpinaadgkkaa
open Go.RowKit Go.Lib

/-- How many of the first k rows have both numbers. -/
def bothN (Bs : List (List Int)) (a b : Int) (k : Nat) : Nat := ((Bs.take k).filter (fun B => decide (a ∈ B) && decide (b ∈ B))).length
theorem both_next {Bs : List (List Int)} {a b : Int} {k : Nat} (h : k < Bs.length) : bothN Bs a b (k + 1) = bothN Bs a b k + (if a ∈ Bs[k] ∧ b ∈ Bs[k] then 1 else 0) := by
  unfold bothN
  rw [← List.take_append_getElem h, List.filter_append, List.length_append]
  congr 1
  by_cases e : a ∈ Bs[k]
  · by_cases e2 : b ∈ Bs[k] <;> simp [e, e2]
  · simp [e]
theorem both_le (Bs : List (List Int)) (a b : Int) (k : Nat) : bothN Bs a b k ≤ Bs.length := by
  unfold bothN
  refine Nat.le_trans (List.length_filter_le _ _) ?_
  rw [List.length_take]; omega
theorem both_one {m : Nat} {es : List (Int × Int)} {Bs : List (List Int)} {a b : Int} (hR : RightG m es) (hB : BlocksL es Bs) (hab : Adj es a b) {k : Nat} (hk : k = Bs.length) : bothN Bs a b k = 1 := by
  obtain ⟨C, h1, h2, h3, h4⟩ := blk_edge hR hB hab
  unfold bothN
  rw [hk, List.take_length]
  have hn : (Bs.filter (fun B => decide (a ∈ B) && decide (b ∈ B))).Nodup := List.Pairwise.filter _ hB.nodup
  have hm : ∀ B, B ∈ Bs.filter (fun B => decide (a ∈ B) && decide (b ∈ B)) ↔ B = C := fun B => by
    rw [List.mem_filter, Bool.and_eq_true, decide_eq_true_eq, decide_eq_true_eq]
    constructor
    · rintro ⟨k1, k2, k3⟩; exact h4 B k1 k2 k3
    · rintro rfl; exact ⟨h1, h2, h3⟩
  match hL : Bs.filter (fun B => decide (a ∈ B) && decide (b ∈ B)), hm, hn with
  | [], hm, _ => have := (hm C).2 rfl; cases this
  | [_], _, _ => rfl
  | A :: D :: r, hm, hn =>
    have e1 := (hm A).1 (by simp)
    have e2 := (hm D).1 (by simp)
    rw [List.nodup_cons] at hn
    exact absurd (by rw [e1, e2]; simp) hn.1
/-- How many of the first j numbers of R stand in S. -/
def inN (S R : List Int) (j : Nat) : Nat := ((R.take j).filter (fun z => decide (z ∈ S))).length
theorem inN_next {S R : List Int} {j : Nat} (h : j < R.length) : inN S R (j + 1) = inN S R j + (if R[j] ∈ S then 1 else 0) := by
  unfold inN
  rw [← List.take_append_getElem h, List.filter_append, List.length_append]
  congr 1
  by_cases e : R[j] ∈ S <;> simp [e]
theorem inN_le (S R : List Int) (j : Nat) : inN S R j ≤ R.length := by
  unfold inN
  refine Nat.le_trans (List.length_filter_le _ _) ?_
  rw [List.length_take]; omega
theorem inN_one {n : Int} {es : List (Int × Int)} {A C : List Int} (hR : RightG n es) (hA : IsBlk es A) (hC : IsBlk es C) (hne : A ≠ C) (j : Nat) : inN A C j ≤ 1 := by
  unfold inN
  have hnd : C.Nodup := by rw [List.nodup_iff_pairwise_ne]; exact hC.1.imp (fun h => by omega)
  have hn : ((C.take j).filter (fun z => decide (z ∈ A))).Nodup := List.Pairwise.filter _ (hnd.sublist (List.take_sublist _ _))
  match hL : (C.take j).filter (fun z => decide (z ∈ A)), hn with
  | [], _ => simp
  | [_], _ => simp
  | x :: y :: r, hn =>
    have m1 : x ∈ (C.take j).filter (fun z => decide (z ∈ A)) := by rw [hL]; simp
    have m2 : y ∈ (C.take j).filter (fun z => decide (z ∈ A)) := by rw [hL]; simp
    rw [List.mem_filter, decide_eq_true_eq] at m1 m2
    rw [List.nodup_cons] at hn
    exact absurd (blk_share hR hA hC (fun e => hn.1 (by rw [e]; simp)) m1.2 m2.2 (List.mem_of_mem_take m1.1) (List.mem_of_mem_take m2.1)) hne

set_option maxHeartbeats 4000000 in
set_option maxRecDepth 100000 in
theorem blockEdges_law (O : BlockOps) (n : Int) (a : Option Addr) (len cap : Nat) (l : List (Int × Int)) (w : World) (hl : len = l.length) (hE : EAt w a l) :
    Calls Try.prog 5 #[.agg #[.int .i64 n, .slice a len cap]] w fun e w' => e = .returned (.bool true) ∧ Below w.heap.size w w' := by
  have HO := hid O
  obtain ⟨W0, hW0⟩ := ex_eq (w.alloc (.cells #[.int .i64 n, .slice a len cap] 24))
  have hB0 : Below w.heap.size w W0 := by rw [hW0]; exact below_one _ _
  have hs0 : W0.heap.size = w.heap.size + 1 := by rw [hW0]; simp
  have HO0 : Hid (W0.heap[w.heap.size]? = some (.cells #[.int .i64 n, .slice a len cap] 24)) := by
    show _ = _
    rw [hW0]; exact heap_alloc_new _ _
  have HEX : Hid (∀ X, Below w.heap.size w X → EAt X a l) := fun X h => hE.below h
  have HL := hid hl
  have HW0 := hid hW0
  have HB0 := hid hB0
  clear O hl hE hW0 hB0
  go_enter Try.func5, Try.ntmps5
  go_wp2_with fail
  rw [← HW0.out]
  refine (bshown_any HO.out _).mono ?_
  rintro e w1 ⟨rfl, hb1⟩
  have hbw1 : Below w.heap.size w w1 := HB0.out.trans (hb1.mono (by omega))
  have o1 := (hb1.block w.heap.size (by omega)).trans HO0.out
  have x0 := cell_of_heap o1 0
  have x1 := cell_of_heap o1 1
  have CA := hid (net_any n a len cap l 40 w1 (by omega) HL.out (HEX.out w1 hbw1))
  have HB1 := hid hbw1
  clear hb1 hbw1 o1 HO0 hs0 HB0 HW0 HEX HL
  go_wp2_with fail
  refine CA.out.mono ?_
  rintro e w2 ⟨m, ys, a2, c2, rfl, hm30, hR, hys, hsl, hE2, hb2⟩
  obtain ⟨K, hK⟩ := ex_eq ys.length
  rw [← hK]
  have HK := hid hK
  obtain ⟨B, hBB⟩ := ex_eq w2.heap.size
  obtain ⟨V2, hV2⟩ := ex_eq (w2.alloc (.cells #[.int .i64 m, .slice a2 K c2] 26))
  have HG2 : Hid (GC V2 B m a2 K c2 ys) := by
    show GC V2 _ _ _ _ _ _
    rw [hV2, hBB]; exact gc_new7 hE2
  have HB2 : Hid (Below w.heap.size w V2) := by
    have h1 : Below w2.heap.size w2 V2 := by rw [hV2]; exact below_one _ _
    have h2 : Below w.heap.size w w2 := HB1.out.trans (hb2.mono HB1.out.size)
    exact h2.trans (h1.mono h2.size)
  have HV2 := hid hV2
  have HBB := hid hBB
  have HR := hid hR
  have HSL := hid hsl
  have hK3 : K ≤ 300 := by omega
  clear hK hV2 hE2 hb2 hR hys hsl CA x0 x1 HB1 hBB
  go_upto_region 3 with fail
  rw [← HV2.out, ← HBB.out]
  clear HV2 HBB
  obtain ⟨g0, g1⟩ := HG2.out.cells
  have C3 := hid (HO.out.of m a2 c2 ys true V2 (by rw [← HK.out]; omega) HG2.out.at_ ⟨fun _ => HR.out, fun _ => rfl⟩)
  rw [← HK.out] at C3
  go_wp2_with fail
  refine C3.out.mono ?_
  rintro e w3 ⟨v3, rfl, Cs3, Bs3, ca3, cc3, ba3, bc3, rfl, hrel, hca, hba, hb3⟩
  obtain ⟨Q3, hQ⟩ := ex_eq Cs3.length
  obtain ⟨P3, hP⟩ := ex_eq Bs3.length
  rw [← hQ, ← hP]
  have HQ3 := hid hQ
  have HP3 := hid hP
  obtain ⟨T3, hT⟩ := ex_eq w3.heap.size
  obtain ⟨V3, hV⟩ := ex_eq (w3.alloc (.cells #[.slice ca3 Q3 cc3, .slice ba3 P3 bc3] 31))
  have HT3 : Hid (TC V3 T3 ca3 Q3 cc3 ba3 P3 bc3 Cs3 Bs3) := by
    show TC _ _ _ _ _ _ _ _ _ _
    rw [hV, hT]; exact tc_new hca hba
  have hbx : Below V2.heap.size V2 V3 := by
    have h1 : Below w3.heap.size w3 V3 := by rw [hV]; exact below_one _ _
    exact hb3.trans (h1.mono hb3.size)
  have HLN3 : Hid (Bs3.length ≤ 1000 ∧ (∀ B ∈ Bs3, B.length ≤ 1000) ∧ Cs3.length ≤ 1000) := hrel.len
  have hPl3 : P3 ≤ 1000 := by rw [hP]; exact HLN3.out.1
  have HRel3 := hid hrel
  have HB3 : Hid (Below w.heap.size w V3) := HB2.out.trans (hbx.mono HB2.out.size)
  have HX3 := hid hbx
  have HV3 := hid hV
  have HTT3 := hid hT
  clear hQ hP hT hV hca hba hb3 hrel hbx C3 g0 g1
  go_upto_region 4 with fail
  rw [← HV3.out, ← HTT3.out]
  clear HV3 HTT3
  have HG3 := hid (HG2.out.on HX3.out)
  have hBC : BlocksL ys Bs3 ∧ CutsL ys Cs3 := by
    rcases HRel3.out with ⟨_, h⟩ | ⟨h, _⟩
    · exact h
    · exact absurd HR.out h
  have HBC := hid hBC
  clear hBC HG2 HX3 HRel3
  go_wp2
  go_loopw [6] (fun i wz => ∃ t : Nat, t ≤ K ∧ i = .int .i64 t ∧ Hid (Below V3.heap.size V3 wz)) (fun i _ => K - (RowKit.intOf i).toNat)
  case atStart => exact ⟨0, Nat.zero_le _, rfl, Below.refl _ _⟩
  case round =>
    obtain ⟨t, ht, rfl, hbw⟩ := hrel
    obtain ⟨g0, g1⟩ := (HG3.out.on hbw.out).cells
    have t1 := (HT3.out.on hbw.out).c1
    by_cases hlt : t < K
    · have hkr : t < ys.length := by rw [← HK.out]; exact hlt
      obtain ⟨ge, oe, rfl, hge, hcs⟩ := HG3.out.at_.at hkr
      obtain ⟨p1, hp1⟩ := ex_eq ys[t].1
      obtain ⟨p2, hp2⟩ := ex_eq ys[t].2
      have hmem : (p1, p2) ∈ ys := by rw [hp1, hp2]; exact List.getElem_mem hkr
      have HD : Hid (∀ X, Below V3.heap.size V3 X → X.cell? ⟨ge, oe + t * 2, none⟩ = some (.int .i64 p1) ∧ X.cell? ⟨ge, oe + t * 2 + 1, none⟩ = some (.int .i64 p2)) := fun X hX => by
        have d := hcs X hX t hkr
        rw [← hp1, ← hp2] at d
        exact d
      obtain ⟨c, hc⟩ := ex_eq (bothN Bs3 p1 p2)
      have HC0 : Hid (c 0 = 0) := by show _ = _; rw [hc]; rfl
      have HCN : Hid (∀ k (h : k < Bs3.length), c (k + 1) = c k + (if p1 ∈ Bs3[k] ∧ p2 ∈ Bs3[k] then 1 else 0)) := fun k h => by rw [hc]; exact both_next h
      have HC1 : Hid (c P3 = 1) := by show _ = _; rw [hc]; exact both_one HR.out HBC.out.1 (Or.inl hmem) HP3.out
      have HCB : Hid (∀ k, c k ≤ 1000) := fun k => by rw [hc]; exact Nat.le_trans (both_le _ _ _ _) HLN3.out.1
      have q1 : (t : Int) < (K : Int) := by omega
      have HBW := hbw
      clear hcs hp1 hp2 hmem hc hkr hbw
      go_wp2
      clear t1
      go_loopw [7, 8] (fun n i wz => ∃ k : Nat, k ≤ P3 ∧ i = .int .i64 k ∧ n = .int .i64 (c k : Nat) ∧ Hid (Below V3.heap.size V3 wz)) (fun _ i _ => P3 - (RowKit.intOf i).toNat)
      case atStart => exact ⟨0, Nat.zero_le _, rfl, by rw [HC0.out]; rfl, HBW⟩
      case round =>
        obtain ⟨k, hk, rfl, rfl, hbz⟩ := hrel
        have htc := HT3.out.on hbz.out
        have t1 := htc.c1
        by_cases hltk : k < P3
        · have hkk : k < Bs3.length := by rw [← HP3.out]; exact hltk
          obtain ⟨g, off, ak, ck, rfl, e1, hI⟩ := htc.lb.at hkk
          have hn := HCN.out k hkk
          have hN1 := HLN3.out.2.1 _ (List.getElem_mem hkk)
          obtain ⟨R, hRr⟩ := ex_eq Bs3[k]
          rw [← hRr] at e1 hI hn hN1
          obtain ⟨N, hN⟩ := ex_eq R.length
          rw [← hN] at e1 hN1
          obtain ⟨ra, hra⟩ := ex_eq (decide (p1 ∈ R))
          obtain ⟨rb, hrb⟩ := ex_eq (decide (p2 ∈ R))
          have HId := hid (hI.below (Below.refl _ wr).drew)
          have C1 : Hid (∀ X, IAt X ak R → Calls Try.prog 18 #[.slice ak N ck, .int .i64 p1] X fun e w' => e = .returned (.bool ra) ∧ w' = X) := fun X h => by
            rw [hra, hN]; exact in_any ak ck R p1 X (by omega) h
          have C2 : Hid (∀ X, IAt X ak R → Calls Try.prog 18 #[.slice ak N ck, .int .i64 p2] X fun e w' => e = .returned (.bool rb) ∧ w' = X) := fun X h => by
            rw [hrb, hN]; exact in_any ak ck R p2 X (by omega) h
          have hcb := HCB.out k
          have q2 : (k : Int) < (P3 : Int) := by omega
          obtain ⟨d0, d1⟩ := HD.out wr hbz.out
          obtain ⟨_, g1⟩ := (HG3.out.on hbz.out).cells
          obtain ⟨x, hx⟩ := ex_eq (c k)
          rw [← hx] at hn hcb
          rw [← hx]
          have HN2 := hid hn
          have HRA := hid hra
          have HRB := hid hrb
          have HBZ : Hid (Below V3.heap.size V3 wr.drew) := hbz.out.drew
          have hS := (show (fun X => X.cell? ⟨T3, 1, none⟩ = some (.slice (some ⟨g, off, none⟩) P3 bc3) ∧ X.cell? ⟨g, off + k, none⟩ = some (.slice ak N ck) ∧ X.cell? ⟨B, 1, none⟩ = some (.slice (some ⟨ge, oe, none⟩) K c2) ∧ X.cell? ⟨ge, oe + t * 2, none⟩ = some (.int .i64 p1) ∧ X.cell? ⟨ge, oe + t * 2 + 1, none⟩ = some (.int .i64 p2)) wr.drew from ⟨t1, e1, g1, d0, d1⟩)
          simp only at hS
          clear hn hRr hN hra hrb hI hkk hx htc
          cases ra with
          | false =>
            have HV : Hid (Value.int .i64 (x : Int) = .int .i64 (c (k + 1) : Nat)) := by
              show _ = _
              rw [HN2.out, if_neg (fun h => of_decide_eq_false HRA.out.symm h.1)]; rfl
            go_wp2_with fail
            refine wp_region_held_drew (S := (fun X => X.cell? ⟨T3, 1, none⟩ = some (.slice (some ⟨g, off, none⟩) P3 bc3) ∧ X.cell? ⟨g, off + k, none⟩ = some (.slice ak N ck) ∧ X.cell? ⟨B, 1, none⟩ = some (.slice (some ⟨ge, oe, none⟩) K c2) ∧ X.cell? ⟨ge, oe + t * 2, none⟩ = some (.int .i64 p1) ∧ X.cell? ⟨ge, oe + t * 2 + 1, none⟩ = some (.int .i64 p2))) (by kernel_rfl) hS (fun hHeld => ?_)
            (refine takeW (i := 0) (dst := some 32) (v := ?_) rfl rfl (by kernel_rfl) (by kernel_rfl) (by kernel_rfl) (fun _ _ _ h => h) (Or.inl ⟨by rfl, ?_⟩) hHeld ?_; rotate_left; focus (intro w hSw; (try dsimp only at hSw); go_simp; (try with_reducible rfl); done))
            try simp only [Act.put, List.setIfInBounds_toArray, List.set_cons_zero, List.set_cons_succ]
            (refine takeW (i := 1) (dst := some 33) (v := ?_) rfl rfl (by kernel_rfl) (by kernel_rfl) (by kernel_rfl) (fun _ _ _ h => h) (Or.inl ⟨by rfl, ?_⟩) hHeld ?_; rotate_left; focus (intro w hSw; (try dsimp only at hSw); go_simp; (try with_reducible rfl); done))
            try simp only [Act.put, List.setIfInBounds_toArray, List.set_cons_zero, List.set_cons_succ]
            (refine takeW (i := 2) (dst := some 34) (v := ?_) rfl rfl (by kernel_rfl) (by kernel_rfl) (by kernel_rfl) (fun _ _ _ h => h) (Or.inl ⟨by rfl, ?_⟩) hHeld ?_; rotate_left; focus (intro w hSw; (try dsimp only at hSw); go_simp; (try with_reducible rfl); done))
            try simp only [Act.put, List.setIfInBounds_toArray, List.set_cons_zero, List.set_cons_succ]
            (refine takeW (i := 3) (dst := some 35) (v := ?_) rfl rfl (by kernel_rfl) (by kernel_rfl) (by kernel_rfl) (fun _ _ _ h => h) (Or.inl ⟨by rfl, ?_⟩) hHeld ?_; rotate_left; focus (intro w hSw; (try dsimp only at hSw); go_simp; (try with_reducible rfl); done))
            try simp only [Act.put, List.setIfInBounds_toArray, List.set_cons_zero, List.set_cons_succ]
            (refine takeW (i := 4) (dst := some 36) (v := ?_) rfl rfl (by kernel_rfl) (by kernel_rfl) (by kernel_rfl) (fun _ _ _ h => h) (Or.inl ⟨by rfl, ?_⟩) hHeld ?_; rotate_left; focus (intro w hSw; (try dsimp only at hSw); go_simp; (try with_reducible rfl); done))
            try simp only [Act.put, List.setIfInBounds_toArray, List.set_cons_zero, List.set_cons_succ]
            (refine takeW (i := 5) (dst := some 37) (v := ?_) rfl rfl (by kernel_rfl) (by kernel_rfl) (by kernel_rfl) (fun _ _ _ h => h) (Or.inl ⟨by rfl, ?_⟩) hHeld ?_; rotate_left; focus (intro w hSw; (try dsimp only at hSw); go_simp; (try with_reducible rfl); done))
            try simp only [Act.put, List.setIfInBounds_toArray, List.set_cons_zero, List.set_cons_succ]
            (refine takeW (i := 6) (dst := some 38) (v := ?_) rfl rfl (by kernel_rfl) (by kernel_rfl) (by kernel_rfl) (fun _ _ _ h => h) (Or.inl ⟨by rfl, ?_⟩) hHeld ?_; rotate_left; focus (intro w hSw; (try dsimp only at hSw); go_simp; (try with_reducible rfl); done))
            try simp only [Act.put, List.setIfInBounds_toArray, List.set_cons_zero, List.set_cons_succ]
            (refine takeW (i := 7) (dst := some 39) (v := ?_) rfl rfl (by kernel_rfl) (by kernel_rfl) (by kernel_rfl) (fun _ _ _ h => h) (Or.inl ⟨by rfl, ?_⟩) hHeld ?_; rotate_left; focus (intro w hSw; (try dsimp only at hSw); go_simp; (try with_reducible rfl); done))
            try simp only [Act.put, List.setIfInBounds_toArray, List.set_cons_zero, List.set_cons_succ]
            (refine takeW (i := 8) (dst := some 40) (v := ?_) rfl rfl (by kernel_rfl) (by kernel_rfl) (by kernel_rfl) (fun _ _ _ h => h) (Or.inl ⟨by rfl, ?_⟩) hHeld ?_; rotate_left; focus (intro w hSw; (try dsimp only at hSw); go_simp; (try with_reducible rfl); done))
            try simp only [Act.put, List.setIfInBounds_toArray, List.set_cons_zero, List.set_cons_succ]
            (refine takeW (i := 9) (dst := some 41) (v := ?_) rfl rfl (by kernel_rfl) (by kernel_rfl) (by kernel_rfl) (fun _ _ _ h => h) (Or.inl ⟨by rfl, ?_⟩) hHeld ?_; rotate_left; focus (intro w hSw; (try dsimp only at hSw); go_simp; (try with_reducible rfl); done))
            try simp only [Act.put, List.setIfInBounds_toArray, List.set_cons_zero, List.set_cons_succ]
            (refine takeW (i := 10) (dst := some 42) (v := ?_) rfl rfl (by kernel_rfl) (by kernel_rfl) (by kernel_rfl) (fun _ _ _ h => h) (Or.inl ⟨by rfl, ?_⟩) hHeld ?_; rotate_left; focus (intro w hSw; (try dsimp only at hSw); go_simp; (try with_reducible rfl); done))
            try simp only [Act.put, List.setIfInBounds_toArray, List.set_cons_zero, List.set_cons_succ]
            refine wpAnyH_ready (rs := [11]) (by kernel_rfl) (by simp) ?_
            refine AllReadyH.cons (o := _) rfl (fun KK hK => ?_) AllReadyH.nil
            go_simp
            refine (C1.out _ HId.out).mono ?_
            rintro e y1 ⟨rfl, hy1⟩
            subst hy1
            refine hK.out _ _ hHeld (fun hHeld => ?_)
            clear hK KK
            try simp only [Act.put]
            try simp only [List.setIfInBounds_toArray]
            try simp only [List.set_cons_succ]
            try simp only [List.set_cons_zero]
            (refine takeW (i := 12) (dst := some 44) (v := ?_) rfl rfl (by kernel_rfl) (by kernel_rfl) (by kernel_rfl) (fun _ _ _ h => h) (Or.inl ⟨by rfl, ?_⟩) hHeld ?_; rotate_left; focus (intro w hSw; (try dsimp only at hSw); go_simp; (try with_reducible rfl); done))
            try simp only [Act.put, List.setIfInBounds_toArray, List.set_cons_zero, List.set_cons_succ]
            first | refine takeW (i := 13) (dst := some 45) (v := undef) rfl rfl (by kernel_rfl) (by kernel_rfl) (by kernel_rfl) (fun _ _ _ h => h) (Or.inr ⟨by rfl, rfl⟩) hHeld ?_ | (refine takeW (i := 13) (dst := some 45) (v := ?_) rfl rfl (by kernel_rfl) (by kernel_rfl) (by kernel_rfl) (fun _ _ _ h => h) (Or.inl ⟨by rfl, ?_⟩) hHeld ?_; rotate_left; focus (intro w hSw; (try dsimp only at hSw); go_simp; (try with_reducible rfl); done))
            try simp only [Act.put, List.setIfInBounds_toArray, List.set_cons_zero, List.set_cons_succ]
            first | refine takeW (i := 14) (dst := some 46) (v := undef) rfl rfl (by kernel_rfl) (by kernel_rfl) (by kernel_rfl) (fun _ _ _ h => h) (Or.inr ⟨by rfl, rfl⟩) hHeld ?_ | (refine takeW (i := 14) (dst := some 46) (v := ?_) rfl rfl (by kernel_rfl) (by kernel_rfl) (by kernel_rfl) (fun _ _ _ h => h) (Or.inl ⟨by rfl, ?_⟩) hHeld ?_; rotate_left; focus (intro w hSw; (try dsimp only at hSw); go_simp; (try with_reducible rfl); done))
            try simp only [Act.put, List.setIfInBounds_toArray, List.set_cons_zero, List.set_cons_succ]
            first | refine takeW (i := 15) (dst := some 47) (v := undef) rfl rfl (by kernel_rfl) (by kernel_rfl) (by kernel_rfl) (fun _ _ _ h => h) (Or.inr ⟨by rfl, rfl⟩) hHeld ?_ | (refine takeW (i := 15) (dst := some 47) (v := ?_) rfl rfl (by kernel_rfl) (by kernel_rfl) (by kernel_rfl) (fun _ _ _ h => h) (Or.inl ⟨by rfl, ?_⟩) hHeld ?_; rotate_left; focus (intro w hSw; (try dsimp only at hSw); go_simp; (try with_reducible rfl); done))
            try simp only [Act.put, List.setIfInBounds_toArray, List.set_cons_zero, List.set_cons_succ]
            first | refine takeW (i := 16) (dst := some 48) (v := undef) rfl rfl (by kernel_rfl) (by kernel_rfl) (by kernel_rfl) (fun _ _ _ h => h) (Or.inr ⟨by rfl, rfl⟩) hHeld ?_ | (refine takeW (i := 16) (dst := some 48) (v := ?_) rfl rfl (by kernel_rfl) (by kernel_rfl) (by kernel_rfl) (fun _ _ _ h => h) (Or.inl ⟨by rfl, ?_⟩) hHeld ?_; rotate_left; focus (intro w hSw; (try dsimp only at hSw); go_simp; (try with_reducible rfl); done))
            try simp only [Act.put, List.setIfInBounds_toArray, List.set_cons_zero, List.set_cons_succ]
            first | refine takeW (i := 17) (dst := some 49) (v := undef) rfl rfl (by kernel_rfl) (by kernel_rfl) (by kernel_rfl) (fun _ _ _ h => h) (Or.inr ⟨by rfl, rfl⟩) hHeld ?_ | (refine takeW (i := 17) (dst := some 49) (v := ?_) rfl rfl (by kernel_rfl) (by kernel_rfl) (by kernel_rfl) (fun _ _ _ h => h) (Or.inl ⟨by rfl, ?_⟩) hHeld ?_; rotate_left; focus (intro w hSw; (try dsimp only at hSw); go_simp; (try with_reducible rfl); done))
            try simp only [Act.put, List.setIfInBounds_toArray, List.set_cons_zero, List.set_cons_succ]
            first | refine takeW (i := 18) (dst := some 50) (v := undef) rfl rfl (by kernel_rfl) (by kernel_rfl) (by kernel_rfl) (fun _ _ _ h => h) (Or.inr ⟨by rfl, rfl⟩) hHeld ?_ | (refine takeW (i := 18) (dst := some 50) (v := ?_) rfl rfl (by kernel_rfl) (by kernel_rfl) (by kernel_rfl) (fun _ _ _ h => h) (Or.inl ⟨by rfl, ?_⟩) hHeld ?_; rotate_left; focus (intro w hSw; (try dsimp only at hSw); go_simp; (try with_reducible rfl); done))
            try simp only [Act.put, List.setIfInBounds_toArray, List.set_cons_zero, List.set_cons_succ]
            first | refine takeW (i := 19) (dst := some 51) (v := undef) rfl rfl (by kernel_rfl) (by kernel_rfl) (by kernel_rfl) (fun _ _ _ h => h) (Or.inr ⟨by rfl, rfl⟩) hHeld ?_ | (refine takeW (i := 19) (dst := some 51) (v := ?_) rfl rfl (by kernel_rfl) (by kernel_rfl) (by kernel_rfl) (fun _ _ _ h => h) (Or.inl ⟨by rfl, ?_⟩) hHeld ?_; rotate_left; focus (intro w hSw; (try dsimp only at hSw); go_simp; (try with_reducible rfl); done))
            try simp only [Act.put, List.setIfInBounds_toArray, List.set_cons_zero, List.set_cons_succ]
            first | refine takeW (i := 20) (dst := some 52) (v := undef) rfl rfl (by kernel_rfl) (by kernel_rfl) (by kernel_rfl) (fun _ _ _ h => h) (Or.inr ⟨by rfl, rfl⟩) hHeld ?_ | (refine takeW (i := 20) (dst := some 52) (v := ?_) rfl rfl (by kernel_rfl) (by kernel_rfl) (by kernel_rfl) (fun _ _ _ h => h) (Or.inl ⟨by rfl, ?_⟩) hHeld ?_; rotate_left; focus (intro w hSw; (try dsimp only at hSw); go_simp; (try with_reducible rfl); done))
            try simp only [Act.put, List.setIfInBounds_toArray, List.set_cons_zero, List.set_cons_succ]
            first | refine takeW (i := 21) (dst := some 53) (v := undef) rfl rfl (by kernel_rfl) (by kernel_rfl) (by kernel_rfl) (fun _ _ _ h => h) (Or.inr ⟨by rfl, rfl⟩) hHeld ?_ | (refine takeW (i := 21) (dst := some 53) (v := ?_) rfl rfl (by kernel_rfl) (by kernel_rfl) (by kernel_rfl) (fun _ _ _ h => h) (Or.inl ⟨by rfl, ?_⟩) hHeld ?_; rotate_left; focus (intro w hSw; (try dsimp only at hSw); go_simp; (try with_reducible rfl); done))
            try simp only [Act.put, List.setIfInBounds_toArray, List.set_cons_zero, List.set_cons_succ]
            first | refine takeW (i := 22) (dst := some 54) (v := undef) rfl rfl (by kernel_rfl) (by kernel_rfl) (by kernel_rfl) (fun _ _ _ h => h) (Or.inr ⟨by rfl, rfl⟩) hHeld ?_ | (refine takeW (i := 22) (dst := some 54) (v := ?_) rfl rfl (by kernel_rfl) (by kernel_rfl) (by kernel_rfl) (fun _ _ _ h => h) (Or.inl ⟨by rfl, ?_⟩) hHeld ?_; rotate_left; focus (intro w hSw; (try dsimp only at hSw); go_simp; (try with_reducible rfl); done))
            try simp only [Act.put, List.setIfInBounds_toArray, List.set_cons_zero, List.set_cons_succ]
            first | refine takeW (i := 23) (dst := some 55) (v := undef) rfl rfl (by kernel_rfl) (by kernel_rfl) (by kernel_rfl) (fun _ _ _ h => h) (Or.inr ⟨by rfl, rfl⟩) hHeld ?_ | (refine takeW (i := 23) (dst := some 55) (v := ?_) rfl rfl (by kernel_rfl) (by kernel_rfl) (by kernel_rfl) (fun _ _ _ h => h) (Or.inl ⟨by rfl, ?_⟩) hHeld ?_; rotate_left; focus (intro w hSw; (try dsimp only at hSw); go_simp; (try with_reducible rfl); done))
            try simp only [Act.put, List.setIfInBounds_toArray, List.set_cons_zero, List.set_cons_succ]
            first | refine takeW (i := 24) (dst := some 56) (v := undef) rfl rfl (by kernel_rfl) (by kernel_rfl) (by kernel_rfl) (fun _ _ _ h => h) (Or.inr ⟨by rfl, rfl⟩) hHeld ?_ | (refine takeW (i := 24) (dst := some 56) (v := ?_) rfl rfl (by kernel_rfl) (by kernel_rfl) (by kernel_rfl) (fun _ _ _ h => h) (Or.inl ⟨by rfl, ?_⟩) hHeld ?_; rotate_left; focus (intro w hSw; (try dsimp only at hSw); go_simp; (try with_reducible rfl); done))
            try simp only [Act.put, List.setIfInBounds_toArray, List.set_cons_zero, List.set_cons_succ]
            (refine takeW (i := 25) (dst := some 57) (v := ?_) rfl rfl (by kernel_rfl) (by kernel_rfl) (by kernel_rfl) (fun _ _ _ h => h) (Or.inl ⟨by rfl, ?_⟩) hHeld ?_; rotate_left; focus (intro w hSw; (try dsimp only at hSw); go_simp; (try with_reducible rfl); done))
            try simp only [Act.put, List.setIfInBounds_toArray, List.set_cons_zero, List.set_cons_succ]
            refine wpAnyH_done (by kernel_rfl) ?_ _
            clear hHeld hS
            go_wp2
            go_roundw
            case rel => exact ⟨k + 1, by omega, by go_num, HV.out, HBZ⟩
            case measure => simp [RowKit.intOf]; omega
          | true =>
            cases rb with
            | false =>
              have HV : Hid (Value.int .i64 (x : Int) = .int .i64 (c (k + 1) : Nat)) := by
                show _ = _
                rw [HN2.out, if_neg (fun h => of_decide_eq_false HRB.out.symm h.2)]; rfl
              go_wp2_with fail
              refine wp_region_held_drew (S := (fun X => X.cell? ⟨T3, 1, none⟩ = some (.slice (some ⟨g, off, none⟩) P3 bc3) ∧ X.cell? ⟨g, off + k, none⟩ = some (.slice ak N ck) ∧ X.cell? ⟨B, 1, none⟩ = some (.slice (some ⟨ge, oe, none⟩) K c2) ∧ X.cell? ⟨ge, oe + t * 2, none⟩ = some (.int .i64 p1) ∧ X.cell? ⟨ge, oe + t * 2 + 1, none⟩ = some (.int .i64 p2))) (by kernel_rfl) hS (fun hHeld => ?_)
              (refine takeW (i := 0) (dst := some 32) (v := ?_) rfl rfl (by kernel_rfl) (by kernel_rfl) (by kernel_rfl) (fun _ _ _ h => h) (Or.inl ⟨by rfl, ?_⟩) hHeld ?_; rotate_left; focus (intro w hSw; (try dsimp only at hSw); go_simp; (try with_reducible rfl); done))
              try simp only [Act.put, List.setIfInBounds_toArray, List.set_cons_zero, List.set_cons_succ]
              (refine takeW (i := 1) (dst := some 33) (v := ?_) rfl rfl (by kernel_rfl) (by kernel_rfl) (by kernel_rfl) (fun _ _ _ h => h) (Or.inl ⟨by rfl, ?_⟩) hHeld ?_; rotate_left; focus (intro w hSw; (try dsimp only at hSw); go_simp; (try with_reducible rfl); done))
              try simp only [Act.put, List.setIfInBounds_toArray, List.set_cons_zero, List.set_cons_succ]
              (refine takeW (i := 2) (dst := some 34) (v := ?_) rfl rfl (by kernel_rfl) (by kernel_rfl) (by kernel_rfl) (fun _ _ _ h => h) (Or.inl ⟨by rfl, ?_⟩) hHeld ?_; rotate_left; focus (intro w hSw; (try dsimp only at hSw); go_simp; (try with_reducible rfl); done))
              try simp only [Act.put, List.setIfInBounds_toArray, List.set_cons_zero, List.set_cons_succ]
              (refine takeW (i := 3) (dst := some 35) (v := ?_) rfl rfl (by kernel_rfl) (by kernel_rfl) (by kernel_rfl) (fun _ _ _ h => h) (Or.inl ⟨by rfl, ?_⟩) hHeld ?_; rotate_left; focus (intro w hSw; (try dsimp only at hSw); go_simp; (try with_reducible rfl); done))
              try simp only [Act.put, List.setIfInBounds_toArray, List.set_cons_zero, List.set_cons_succ]
              (refine takeW (i := 4) (dst := some 36) (v := ?_) rfl rfl (by kernel_rfl) (by kernel_rfl) (by kernel_rfl) (fun _ _ _ h => h) (Or.inl ⟨by rfl, ?_⟩) hHeld ?_; rotate_left; focus (intro w hSw; (try dsimp only at hSw); go_simp; (try with_reducible rfl); done))
              try simp only [Act.put, List.setIfInBounds_toArray, List.set_cons_zero, List.set_cons_succ]
              (refine takeW (i := 5) (dst := some 37) (v := ?_) rfl rfl (by kernel_rfl) (by kernel_rfl) (by kernel_rfl) (fun _ _ _ h => h) (Or.inl ⟨by rfl, ?_⟩) hHeld ?_; rotate_left; focus (intro w hSw; (try dsimp only at hSw); go_simp; (try with_reducible rfl); done))
              try simp only [Act.put, List.setIfInBounds_toArray, List.set_cons_zero, List.set_cons_succ]
              (refine takeW (i := 6) (dst := some 38) (v := ?_) rfl rfl (by kernel_rfl) (by kernel_rfl) (by kernel_rfl) (fun _ _ _ h => h) (Or.inl ⟨by rfl, ?_⟩) hHeld ?_; rotate_left; focus (intro w hSw; (try dsimp only at hSw); go_simp; (try with_reducible rfl); done))
              try simp only [Act.put, List.setIfInBounds_toArray, List.set_cons_zero, List.set_cons_succ]
              (refine takeW (i := 7) (dst := some 39) (v := ?_) rfl rfl (by kernel_rfl) (by kernel_rfl) (by kernel_rfl) (fun _ _ _ h => h) (Or.inl ⟨by rfl, ?_⟩) hHeld ?_; rotate_left; focus (intro w hSw; (try dsimp only at hSw); go_simp; (try with_reducible rfl); done))
              try simp only [Act.put, List.setIfInBounds_toArray, List.set_cons_zero, List.set_cons_succ]
              (refine takeW (i := 8) (dst := some 40) (v := ?_) rfl rfl (by kernel_rfl) (by kernel_rfl) (by kernel_rfl) (fun _ _ _ h => h) (Or.inl ⟨by rfl, ?_⟩) hHeld ?_; rotate_left; focus (intro w hSw; (try dsimp only at hSw); go_simp; (try with_reducible rfl); done))
              try simp only [Act.put, List.setIfInBounds_toArray, List.set_cons_zero, List.set_cons_succ]
              (refine takeW (i := 9) (dst := some 41) (v := ?_) rfl rfl (by kernel_rfl) (by kernel_rfl) (by kernel_rfl) (fun _ _ _ h => h) (Or.inl ⟨by rfl, ?_⟩) hHeld ?_; rotate_left; focus (intro w hSw; (try dsimp only at hSw); go_simp; (try with_reducible rfl); done))
              try simp only [Act.put, List.setIfInBounds_toArray, List.set_cons_zero, List.set_cons_succ]
              (refine takeW (i := 10) (dst := some 42) (v := ?_) rfl rfl (by kernel_rfl) (by kernel_rfl) (by kernel_rfl) (fun _ _ _ h => h) (Or.inl ⟨by rfl, ?_⟩) hHeld ?_; rotate_left; focus (intro w hSw; (try dsimp only at hSw); go_simp; (try with_reducible rfl); done))
              try simp only [Act.put, List.setIfInBounds_toArray, List.set_cons_zero, List.set_cons_succ]
              refine wpAnyH_ready (rs := [11]) (by kernel_rfl) (by simp) ?_
              refine AllReadyH.cons (o := _) rfl (fun KK hK => ?_) AllReadyH.nil
              go_simp
              refine (C1.out _ HId.out).mono ?_
              rintro e y1 ⟨rfl, hy1⟩
              subst hy1
              refine hK.out _ _ hHeld (fun hHeld => ?_)
              clear hK KK
              try simp only [Act.put]
              try simp only [List.setIfInBounds_toArray]
              try simp only [List.set_cons_succ]
              try simp only [List.set_cons_zero]
              (refine takeW (i := 12) (dst := some 44) (v := ?_) rfl rfl (by kernel_rfl) (by kernel_rfl) (by kernel_rfl) (fun _ _ _ h => h) (Or.inl ⟨by rfl, ?_⟩) hHeld ?_; rotate_left; focus (intro w hSw; (try dsimp only at hSw); go_simp; (try with_reducible rfl); done))
              try simp only [Act.put, List.setIfInBounds_toArray, List.set_cons_zero, List.set_cons_succ]
              first | refine takeW (i := 13) (dst := some 45) (v := undef) rfl rfl (by kernel_rfl) (by kernel_rfl) (by kernel_rfl) (fun _ _ _ h => h) (Or.inr ⟨by rfl, rfl⟩) hHeld ?_ | (refine takeW (i := 13) (dst := some 45) (v := ?_) rfl rfl (by kernel_rfl) (by kernel_rfl) (by kernel_rfl) (fun _ _ _ h => h) (Or.inl ⟨by rfl, ?_⟩) hHeld ?_; rotate_left; focus (intro w hSw; (try dsimp only at hSw); go_simp; (try with_reducible rfl); done))
              try simp only [Act.put, List.setIfInBounds_toArray, List.set_cons_zero, List.set_cons_succ]
              first | refine takeW (i := 14) (dst := some 46) (v := undef) rfl rfl (by kernel_rfl) (by kernel_rfl) (by kernel_rfl) (fun _ _ _ h => h) (Or.inr ⟨by rfl, rfl⟩) hHeld ?_ | (refine takeW (i := 14) (dst := some 46) (v := ?_) rfl rfl (by kernel_rfl) (by kernel_rfl) (by kernel_rfl) (fun _ _ _ h => h) (Or.inl ⟨by rfl, ?_⟩) hHeld ?_; rotate_left; focus (intro w hSw; (try dsimp only at hSw); go_simp; (try with_reducible rfl); done))
              try simp only [Act.put, List.setIfInBounds_toArray, List.set_cons_zero, List.set_cons_succ]
              first | refine takeW (i := 15) (dst := some 47) (v := undef) rfl rfl (by kernel_rfl) (by kernel_rfl) (by kernel_rfl) (fun _ _ _ h => h) (Or.inr ⟨by rfl, rfl⟩) hHeld ?_ | (refine takeW (i := 15) (dst := some 47) (v := ?_) rfl rfl (by kernel_rfl) (by kernel_rfl) (by kernel_rfl) (fun _ _ _ h => h) (Or.inl ⟨by rfl, ?_⟩) hHeld ?_; rotate_left; focus (intro w hSw; (try dsimp only at hSw); go_simp; (try with_reducible rfl); done))
              try simp only [Act.put, List.setIfInBounds_toArray, List.set_cons_zero, List.set_cons_succ]
              first | refine takeW (i := 16) (dst := some 48) (v := undef) rfl rfl (by kernel_rfl) (by kernel_rfl) (by kernel_rfl) (fun _ _ _ h => h) (Or.inr ⟨by rfl, rfl⟩) hHeld ?_ | (refine takeW (i := 16) (dst := some 48) (v := ?_) rfl rfl (by kernel_rfl) (by kernel_rfl) (by kernel_rfl) (fun _ _ _ h => h) (Or.inl ⟨by rfl, ?_⟩) hHeld ?_; rotate_left; focus (intro w hSw; (try dsimp only at hSw); go_simp; (try with_reducible rfl); done))
              try simp only [Act.put, List.setIfInBounds_toArray, List.set_cons_zero, List.set_cons_succ]
              first | refine takeW (i := 17) (dst := some 49) (v := undef) rfl rfl (by kernel_rfl) (by kernel_rfl) (by kernel_rfl) (fun _ _ _ h => h) (Or.inr ⟨by rfl, rfl⟩) hHeld ?_ | (refine takeW (i := 17) (dst := some 49) (v := ?_) rfl rfl (by kernel_rfl) (by kernel_rfl) (by kernel_rfl) (fun _ _ _ h => h) (Or.inl ⟨by rfl, ?_⟩) hHeld ?_; rotate_left; focus (intro w hSw; (try dsimp only at hSw); go_simp; (try with_reducible rfl); done))
              try simp only [Act.put, List.setIfInBounds_toArray, List.set_cons_zero, List.set_cons_succ]
              first | refine takeW (i := 18) (dst := some 50) (v := undef) rfl rfl (by kernel_rfl) (by kernel_rfl) (by kernel_rfl) (fun _ _ _ h => h) (Or.inr ⟨by rfl, rfl⟩) hHeld ?_ | (refine takeW (i := 18) (dst := some 50) (v := ?_) rfl rfl (by kernel_rfl) (by kernel_rfl) (by kernel_rfl) (fun _ _ _ h => h) (Or.inl ⟨by rfl, ?_⟩) hHeld ?_; rotate_left; focus (intro w hSw; (try dsimp only at hSw); go_simp; (try with_reducible rfl); done))
              try simp only [Act.put, List.setIfInBounds_toArray, List.set_cons_zero, List.set_cons_succ]
              first | refine takeW (i := 19) (dst := some 51) (v := undef) rfl rfl (by kernel_rfl) (by kernel_rfl) (by kernel_rfl) (fun _ _ _ h => h) (Or.inr ⟨by rfl, rfl⟩) hHeld ?_ | (refine takeW (i := 19) (dst := some 51) (v := ?_) rfl rfl (by kernel_rfl) (by kernel_rfl) (by kernel_rfl) (fun _ _ _ h => h) (Or.inl ⟨by rfl, ?_⟩) hHeld ?_; rotate_left; focus (intro w hSw; (try dsimp only at hSw); go_simp; (try with_reducible rfl); done))
              try simp only [Act.put, List.setIfInBounds_toArray, List.set_cons_zero, List.set_cons_succ]
              first | refine takeW (i := 20) (dst := some 52) (v := undef) rfl rfl (by kernel_rfl) (by kernel_rfl) (by kernel_rfl) (fun _ _ _ h => h) (Or.inr ⟨by rfl, rfl⟩) hHeld ?_ | (refine takeW (i := 20) (dst := some 52) (v := ?_) rfl rfl (by kernel_rfl) (by kernel_rfl) (by kernel_rfl) (fun _ _ _ h => h) (Or.inl ⟨by rfl, ?_⟩) hHeld ?_; rotate_left; focus (intro w hSw; (try dsimp only at hSw); go_simp; (try with_reducible rfl); done))
              try simp only [Act.put, List.setIfInBounds_toArray, List.set_cons_zero, List.set_cons_succ]
              first | refine takeW (i := 21) (dst := some 53) (v := undef) rfl rfl (by kernel_rfl) (by kernel_rfl) (by kernel_rfl) (fun _ _ _ h => h) (Or.inr ⟨by rfl, rfl⟩) hHeld ?_ | (refine takeW (i := 21) (dst := some 53) (v := ?_) rfl rfl (by kernel_rfl) (by kernel_rfl) (by kernel_rfl) (fun _ _ _ h => h) (Or.inl ⟨by rfl, ?_⟩) hHeld ?_; rotate_left; focus (intro w hSw; (try dsimp only at hSw); go_simp; (try with_reducible rfl); done))
              try simp only [Act.put, List.setIfInBounds_toArray, List.set_cons_zero, List.set_cons_succ]
              first | refine takeW (i := 22) (dst := some 54) (v := undef) rfl rfl (by kernel_rfl) (by kernel_rfl) (by kernel_rfl) (fun _ _ _ h => h) (Or.inr ⟨by rfl, rfl⟩) hHeld ?_ | (refine takeW (i := 22) (dst := some 54) (v := ?_) rfl rfl (by kernel_rfl) (by kernel_rfl) (by kernel_rfl) (fun _ _ _ h => h) (Or.inl ⟨by rfl, ?_⟩) hHeld ?_; rotate_left; focus (intro w hSw; (try dsimp only at hSw); go_simp; (try with_reducible rfl); done))
              try simp only [Act.put, List.setIfInBounds_toArray, List.set_cons_zero, List.set_cons_succ]
              first | refine takeW (i := 23) (dst := some 55) (v := undef) rfl rfl (by kernel_rfl) (by kernel_rfl) (by kernel_rfl) (fun _ _ _ h => h) (Or.inr ⟨by rfl, rfl⟩) hHeld ?_ | (refine takeW (i := 23) (dst := some 55) (v := ?_) rfl rfl (by kernel_rfl) (by kernel_rfl) (by kernel_rfl) (fun _ _ _ h => h) (Or.inl ⟨by rfl, ?_⟩) hHeld ?_; rotate_left; focus (intro w hSw; (try dsimp only at hSw); go_simp; (try with_reducible rfl); done))
              try simp only [Act.put, List.setIfInBounds_toArray, List.set_cons_zero, List.set_cons_succ]
              refine wpAnyH_ready (rs := [24]) (by kernel_rfl) (by simp) ?_
              refine AllReadyH.cons (o := _) rfl (fun KK hK => ?_) AllReadyH.nil
              go_simp
              refine (C2.out _ HId.out).mono ?_
              rintro e y1 ⟨rfl, hy1⟩
              subst hy1
              refine hK.out _ _ hHeld (fun hHeld => ?_)
              clear hK KK
              try simp only [Act.put]
              try simp only [List.setIfInBounds_toArray]
              try simp only [List.set_cons_succ]
              try simp only [List.set_cons_zero]
              (refine takeW (i := 25) (dst := some 57) (v := ?_) rfl rfl (by kernel_rfl) (by kernel_rfl) (by kernel_rfl) (fun _ _ _ h => h) (Or.inl ⟨by rfl, ?_⟩) hHeld ?_; rotate_left; focus (intro w hSw; (try dsimp only at hSw); go_simp; (try with_reducible rfl); done))
              try simp only [Act.put, List.setIfInBounds_toArray, List.set_cons_zero, List.set_cons_succ]
              refine wpAnyH_done (by kernel_rfl) ?_ _
              clear hHeld hS
              go_wp2
              go_roundw
              case rel => exact ⟨k + 1, by omega, by go_num, HV.out, HBZ⟩
              case measure => simp [RowKit.intOf]; omega
            | true =>
              have HV : Hid (Value.int .i64 ((x : Int) + 1) = .int .i64 (c (k + 1) : Nat)) := by
                show _ = _
                rw [HN2.out, if_pos ⟨of_decide_eq_true HRA.out.symm, of_decide_eq_true HRB.out.symm⟩]; rfl
              have q3 : IntKind.i64.wrap ((x : Int) + 1) = (x : Int) + 1 := by rw [IntKind.wrap_i64]; omega
              go_wp2_with fail
              refine wp_region_held_drew (S := (fun X => X.cell? ⟨T3, 1, none⟩ = some (.slice (some ⟨g, off, none⟩) P3 bc3) ∧ X.cell? ⟨g, off + k, none⟩ = some (.slice ak N ck) ∧ X.cell? ⟨B, 1, none⟩ = some (.slice (some ⟨ge, oe, none⟩) K c2) ∧ X.cell? ⟨ge, oe + t * 2, none⟩ = some (.int .i64 p1) ∧ X.cell? ⟨ge, oe + t * 2 + 1, none⟩ = some (.int .i64 p2))) (by kernel_rfl) hS (fun hHeld => ?_)
              (refine takeW (i := 0) (dst := some 32) (v := ?_) rfl rfl (by kernel_rfl) (by kernel_rfl) (by kernel_rfl) (fun _ _ _ h => h) (Or.inl ⟨by rfl, ?_⟩) hHeld ?_; rotate_left; focus (intro w hSw; (try dsimp only at hSw); go_simp; (try with_reducible rfl); done))
              try simp only [Act.put, List.setIfInBounds_toArray, List.set_cons_zero, List.set_cons_succ]
              (refine takeW (i := 1) (dst := some 33) (v := ?_) rfl rfl (by kernel_rfl) (by kernel_rfl) (by kernel_rfl) (fun _ _ _ h => h) (Or.inl ⟨by rfl, ?_⟩) hHeld ?_; rotate_left; focus (intro w hSw; (try dsimp only at hSw); go_simp; (try with_reducible rfl); done))
              try simp only [Act.put, List.setIfInBounds_toArray, List.set_cons_zero, List.set_cons_succ]
              (refine takeW (i := 2) (dst := some 34) (v := ?_) rfl rfl (by kernel_rfl) (by kernel_rfl) (by kernel_rfl) (fun _ _ _ h => h) (Or.inl ⟨by rfl, ?_⟩) hHeld ?_; rotate_left; focus (intro w hSw; (try dsimp only at hSw); go_simp; (try with_reducible rfl); done))
              try simp only [Act.put, List.setIfInBounds_toArray, List.set_cons_zero, List.set_cons_succ]
              (refine takeW (i := 3) (dst := some 35) (v := ?_) rfl rfl (by kernel_rfl) (by kernel_rfl) (by kernel_rfl) (fun _ _ _ h => h) (Or.inl ⟨by rfl, ?_⟩) hHeld ?_; rotate_left; focus (intro w hSw; (try dsimp only at hSw); go_simp; (try with_reducible rfl); done))
              try simp only [Act.put, List.setIfInBounds_toArray, List.set_cons_zero, List.set_cons_succ]
              (refine takeW (i := 4) (dst := some 36) (v := ?_) rfl rfl (by kernel_rfl) (by kernel_rfl) (by kernel_rfl) (fun _ _ _ h => h) (Or.inl ⟨by rfl, ?_⟩) hHeld ?_; rotate_left; focus (intro w hSw; (try dsimp only at hSw); go_simp; (try with_reducible rfl); done))
              try simp only [Act.put, List.setIfInBounds_toArray, List.set_cons_zero, List.set_cons_succ]
              (refine takeW (i := 5) (dst := some 37) (v := ?_) rfl rfl (by kernel_rfl) (by kernel_rfl) (by kernel_rfl) (fun _ _ _ h => h) (Or.inl ⟨by rfl, ?_⟩) hHeld ?_; rotate_left; focus (intro w hSw; (try dsimp only at hSw); go_simp; (try with_reducible rfl); done))
              try simp only [Act.put, List.setIfInBounds_toArray, List.set_cons_zero, List.set_cons_succ]
              (refine takeW (i := 6) (dst := some 38) (v := ?_) rfl rfl (by kernel_rfl) (by kernel_rfl) (by kernel_rfl) (fun _ _ _ h => h) (Or.inl ⟨by rfl, ?_⟩) hHeld ?_; rotate_left; focus (intro w hSw; (try dsimp only at hSw); go_simp; (try with_reducible rfl); done))
              try simp only [Act.put, List.setIfInBounds_toArray, List.set_cons_zero, List.set_cons_succ]
              (refine takeW (i := 7) (dst := some 39) (v := ?_) rfl rfl (by kernel_rfl) (by kernel_rfl) (by kernel_rfl) (fun _ _ _ h => h) (Or.inl ⟨by rfl, ?_⟩) hHeld ?_; rotate_left; focus (intro w hSw; (try dsimp only at hSw); go_simp; (try with_reducible rfl); done))
              try simp only [Act.put, List.setIfInBounds_toArray, List.set_cons_zero, List.set_cons_succ]
              (refine takeW (i := 8) (dst := some 40) (v := ?_) rfl rfl (by kernel_rfl) (by kernel_rfl) (by kernel_rfl) (fun _ _ _ h => h) (Or.inl ⟨by rfl, ?_⟩) hHeld ?_; rotate_left; focus (intro w hSw; (try dsimp only at hSw); go_simp; (try with_reducible rfl); done))
              try simp only [Act.put, List.setIfInBounds_toArray, List.set_cons_zero, List.set_cons_succ]
              (refine takeW (i := 9) (dst := some 41) (v := ?_) rfl rfl (by kernel_rfl) (by kernel_rfl) (by kernel_rfl) (fun _ _ _ h => h) (Or.inl ⟨by rfl, ?_⟩) hHeld ?_; rotate_left; focus (intro w hSw; (try dsimp only at hSw); go_simp; (try with_reducible rfl); done))
              try simp only [Act.put, List.setIfInBounds_toArray, List.set_cons_zero, List.set_cons_succ]
              (refine takeW (i := 10) (dst := some 42) (v := ?_) rfl rfl (by kernel_rfl) (by kernel_rfl) (by kernel_rfl) (fun _ _ _ h => h) (Or.inl ⟨by rfl, ?_⟩) hHeld ?_; rotate_left; focus (intro w hSw; (try dsimp only at hSw); go_simp; (try with_reducible rfl); done))
              try simp only [Act.put, List.setIfInBounds_toArray, List.set_cons_zero, List.set_cons_succ]
              refine wpAnyH_ready (rs := [11]) (by kernel_rfl) (by simp) ?_
              refine AllReadyH.cons (o := _) rfl (fun KK hK => ?_) AllReadyH.nil
              go_simp
              refine (C1.out _ HId.out).mono ?_
              rintro e y1 ⟨rfl, hy1⟩
              subst hy1
              refine hK.out _ _ hHeld (fun hHeld => ?_)
              clear hK KK
              try simp only [Act.put]
              try simp only [List.setIfInBounds_toArray]
              try simp only [List.set_cons_succ]
              try simp only [List.set_cons_zero]
              (refine takeW (i := 12) (dst := some 44) (v := ?_) rfl rfl (by kernel_rfl) (by kernel_rfl) (by kernel_rfl) (fun _ _ _ h => h) (Or.inl ⟨by rfl, ?_⟩) hHeld ?_; rotate_left; focus (intro w hSw; (try dsimp only at hSw); go_simp; (try with_reducible rfl); done))
              try simp only [Act.put, List.setIfInBounds_toArray, List.set_cons_zero, List.set_cons_succ]
              first | refine takeW (i := 13) (dst := some 45) (v := undef) rfl rfl (by kernel_rfl) (by kernel_rfl) (by kernel_rfl) (fun _ _ _ h => h) (Or.inr ⟨by rfl, rfl⟩) hHeld ?_ | (refine takeW (i := 13) (dst := some 45) (v := ?_) rfl rfl (by kernel_rfl) (by kernel_rfl) (by kernel_rfl) (fun _ _ _ h => h) (Or.inl ⟨by rfl, ?_⟩) hHeld ?_; rotate_left; focus (intro w hSw; (try dsimp only at hSw); go_simp; (try with_reducible rfl); done))
              try simp only [Act.put, List.setIfInBounds_toArray, List.set_cons_zero, List.set_cons_succ]
              first | refine takeW (i := 14) (dst := some 46) (v := undef) rfl rfl (by kernel_rfl) (by kernel_rfl) (by kernel_rfl) (fun _ _ _ h => h) (Or.inr ⟨by rfl, rfl⟩) hHeld ?_ | (refine takeW (i := 14) (dst := some 46) (v := ?_) rfl rfl (by kernel_rfl) (by kernel_rfl) (by kernel_rfl) (fun _ _ _ h => h) (Or.inl ⟨by rfl, ?_⟩) hHeld ?_; rotate_left; focus (intro w hSw; (try dsimp only at hSw); go_simp; (try with_reducible rfl); done))
              try simp only [Act.put, List.setIfInBounds_toArray, List.set_cons_zero, List.set_cons_succ]
              first | refine takeW (i := 15) (dst := some 47) (v := undef) rfl rfl (by kernel_rfl) (by kernel_rfl) (by kernel_rfl) (fun _ _ _ h => h) (Or.inr ⟨by rfl, rfl⟩) hHeld ?_ | (refine takeW (i := 15) (dst := some 47) (v := ?_) rfl rfl (by kernel_rfl) (by kernel_rfl) (by kernel_rfl) (fun _ _ _ h => h) (Or.inl ⟨by rfl, ?_⟩) hHeld ?_; rotate_left; focus (intro w hSw; (try dsimp only at hSw); go_simp; (try with_reducible rfl); done))
              try simp only [Act.put, List.setIfInBounds_toArray, List.set_cons_zero, List.set_cons_succ]
              first | refine takeW (i := 16) (dst := some 48) (v := undef) rfl rfl (by kernel_rfl) (by kernel_rfl) (by kernel_rfl) (fun _ _ _ h => h) (Or.inr ⟨by rfl, rfl⟩) hHeld ?_ | (refine takeW (i := 16) (dst := some 48) (v := ?_) rfl rfl (by kernel_rfl) (by kernel_rfl) (by kernel_rfl) (fun _ _ _ h => h) (Or.inl ⟨by rfl, ?_⟩) hHeld ?_; rotate_left; focus (intro w hSw; (try dsimp only at hSw); go_simp; (try with_reducible rfl); done))
              try simp only [Act.put, List.setIfInBounds_toArray, List.set_cons_zero, List.set_cons_succ]
              first | refine takeW (i := 17) (dst := some 49) (v := undef) rfl rfl (by kernel_rfl) (by kernel_rfl) (by kernel_rfl) (fun _ _ _ h => h) (Or.inr ⟨by rfl, rfl⟩) hHeld ?_ | (refine takeW (i := 17) (dst := some 49) (v := ?_) rfl rfl (by kernel_rfl) (by kernel_rfl) (by kernel_rfl) (fun _ _ _ h => h) (Or.inl ⟨by rfl, ?_⟩) hHeld ?_; rotate_left; focus (intro w hSw; (try dsimp only at hSw); go_simp; (try with_reducible rfl); done))
              try simp only [Act.put, List.setIfInBounds_toArray, List.set_cons_zero, List.set_cons_succ]
              first | refine takeW (i := 18) (dst := some 50) (v := undef) rfl rfl (by kernel_rfl) (by kernel_rfl) (by kernel_rfl) (fun _ _ _ h => h) (Or.inr ⟨by rfl, rfl⟩) hHeld ?_ | (refine takeW (i := 18) (dst := some 50) (v := ?_) rfl rfl (by kernel_rfl) (by kernel_rfl) (by kernel_rfl) (fun _ _ _ h => h) (Or.inl ⟨by rfl, ?_⟩) hHeld ?_; rotate_left; focus (intro w hSw; (try dsimp only at hSw); go_simp; (try with_reducible rfl); done))
              try simp only [Act.put, List.setIfInBounds_toArray, List.set_cons_zero, List.set_cons_succ]
              first | refine takeW (i := 19) (dst := some 51) (v := undef) rfl rfl (by kernel_rfl) (by kernel_rfl) (by kernel_rfl) (fun _ _ _ h => h) (Or.inr ⟨by rfl, rfl⟩) hHeld ?_ | (refine takeW (i := 19) (dst := some 51) (v := ?_) rfl rfl (by kernel_rfl) (by kernel_rfl) (by kernel_rfl) (fun _ _ _ h => h) (Or.inl ⟨by rfl, ?_⟩) hHeld ?_; rotate_left; focus (intro w hSw; (try dsimp only at hSw); go_simp; (try with_reducible rfl); done))
              try simp only [Act.put, List.setIfInBounds_toArray, List.set_cons_zero, List.set_cons_succ]
              first | refine takeW (i := 20) (dst := some 52) (v := undef) rfl rfl (by kernel_rfl) (by kernel_rfl) (by kernel_rfl) (fun _ _ _ h => h) (Or.inr ⟨by rfl, rfl⟩) hHeld ?_ | (refine takeW (i := 20) (dst := some 52) (v := ?_) rfl rfl (by kernel_rfl) (by kernel_rfl) (by kernel_rfl) (fun _ _ _ h => h) (Or.inl ⟨by rfl, ?_⟩) hHeld ?_; rotate_left; focus (intro w hSw; (try dsimp only at hSw); go_simp; (try with_reducible rfl); done))
              try simp only [Act.put, List.setIfInBounds_toArray, List.set_cons_zero, List.set_cons_succ]
              first | refine takeW (i := 21) (dst := some 53) (v := undef) rfl rfl (by kernel_rfl) (by kernel_rfl) (by kernel_rfl) (fun _ _ _ h => h) (Or.inr ⟨by rfl, rfl⟩) hHeld ?_ | (refine takeW (i := 21) (dst := some 53) (v := ?_) rfl rfl (by kernel_rfl) (by kernel_rfl) (by kernel_rfl) (fun _ _ _ h => h) (Or.inl ⟨by rfl, ?_⟩) hHeld ?_; rotate_left; focus (intro w hSw; (try dsimp only at hSw); go_simp; (try with_reducible rfl); done))
              try simp only [Act.put, List.setIfInBounds_toArray, List.set_cons_zero, List.set_cons_succ]
              first | refine takeW (i := 22) (dst := some 54) (v := undef) rfl rfl (by kernel_rfl) (by kernel_rfl) (by kernel_rfl) (fun _ _ _ h => h) (Or.inr ⟨by rfl, rfl⟩) hHeld ?_ | (refine takeW (i := 22) (dst := some 54) (v := ?_) rfl rfl (by kernel_rfl) (by kernel_rfl) (by kernel_rfl) (fun _ _ _ h => h) (Or.inl ⟨by rfl, ?_⟩) hHeld ?_; rotate_left; focus (intro w hSw; (try dsimp only at hSw); go_simp; (try with_reducible rfl); done))
              try simp only [Act.put, List.setIfInBounds_toArray, List.set_cons_zero, List.set_cons_succ]
              first | refine takeW (i := 23) (dst := some 55) (v := undef) rfl rfl (by kernel_rfl) (by kernel_rfl) (by kernel_rfl) (fun _ _ _ h => h) (Or.inr ⟨by rfl, rfl⟩) hHeld ?_ | (refine takeW (i := 23) (dst := some 55) (v := ?_) rfl rfl (by kernel_rfl) (by kernel_rfl) (by kernel_rfl) (fun _ _ _ h => h) (Or.inl ⟨by rfl, ?_⟩) hHeld ?_; rotate_left; focus (intro w hSw; (try dsimp only at hSw); go_simp; (try with_reducible rfl); done))
              try simp only [Act.put, List.setIfInBounds_toArray, List.set_cons_zero, List.set_cons_succ]
              refine wpAnyH_ready (rs := [24]) (by kernel_rfl) (by simp) ?_
              refine AllReadyH.cons (o := _) rfl (fun KK hK => ?_) AllReadyH.nil
              go_simp
              refine (C2.out _ HId.out).mono ?_
              rintro e y1 ⟨rfl, hy1⟩
              subst hy1
              refine hK.out _ _ hHeld (fun hHeld => ?_)
              clear hK KK
              try simp only [Act.put]
              try simp only [List.setIfInBounds_toArray]
              try simp only [List.set_cons_succ]
              try simp only [List.set_cons_zero]
              (refine takeW (i := 25) (dst := some 57) (v := ?_) rfl rfl (by kernel_rfl) (by kernel_rfl) (by kernel_rfl) (fun _ _ _ h => h) (Or.inl ⟨by rfl, ?_⟩) hHeld ?_; rotate_left; focus (intro w hSw; (try dsimp only at hSw); go_simp; (try with_reducible rfl); done))
              try simp only [Act.put, List.setIfInBounds_toArray, List.set_cons_zero, List.set_cons_succ]
              refine wpAnyH_done (by kernel_rfl) ?_ _
              clear hHeld hS
              go_wp2
              go_roundw
              case rel => exact ⟨k + 1, by omega, by go_num, HV.out, HBZ⟩
              case measure => simp [RowKit.intOf]; omega
        · obtain rfl : k = P3 := by omega
          rw [HC1.out]
          have HBZ := hbz
          clear hbz htc
          go_wp2
          go_roundw
          case rel => exact ⟨t + 1, by omega, by go_num, HBZ⟩
          case measure => simp [RowKit.intOf]; omega
    · obtain rfl : t = K := by omega
      have HBW := hbw
      clear hbw g0
      go_wp2
      clear g1 t1
      go_loopw [9] (fun i wz => ∃ t : Nat, t ≤ P3 ∧ i = .int .i64 t ∧ Hid (Below V3.heap.size V3 wz)) (fun i _ => P3 - (RowKit.intOf i).toNat)
      case atStart => exact ⟨0, Nat.zero_le _, rfl, HBW⟩
      case round =>
        obtain ⟨t, ht, rfl, hbw⟩ := hrel
        have t1 := (HT3.out.on hbw.out).c1
        by_cases hltt : t < P3
        · have htt : t < Bs3.length := by rw [← HP3.out]; exact hltt
          have q1 : (t : Int) < (P3 : Int) := by omega
          have HBW := hbw
          clear hbw
          go_wp2
          clear t1
          go_loopw [10] (fun i wz => ∃ k : Nat, k ≤ t ∧ i = .int .i64 k ∧ Hid (Below V3.heap.size V3 wz)) (fun i _ => t - (RowKit.intOf i).toNat)
          case atStart => exact ⟨0, Nat.zero_le _, rfl, HBW⟩
          case round =>
            obtain ⟨k, hk, rfl, hbz⟩ := hrel
            by_cases hltk : k < t
            · have hkk : k < Bs3.length := by omega
              obtain ⟨R, hRr⟩ := ex_eq Bs3[k]
              obtain ⟨U, hUr⟩ := ex_eq Bs3[t]
              have hlex : lexL R U = true := by
                rw [hRr, hUr]
                exact List.pairwise_iff_getElem.1 HBC.out.1.ord k t hkk htt hltk
              have hbR : IsBlk ys R := by rw [hRr]; exact (HBC.out.1.is _).1 (List.getElem_mem hkk)
              have hbU : IsBlk ys U := by rw [hUr]; exact (HBC.out.1.is _).1 (List.getElem_mem htt)
              have hneq : R ≠ U := fun e => by rw [e, lexL_irrefl] at hlex; cases hlex
              obtain ⟨N, hN⟩ := ex_eq R.length
              obtain ⟨M, hM⟩ := ex_eq U.length
              have hN1 : N ≤ 1000 := by rw [hN, hRr]; exact HLN3.out.2.1 _ (List.getElem_mem hkk)
              have hM1 : M ≤ 1000 := by rw [hM, hUr]; exact HLN3.out.2.1 _ (List.getElem_mem htt)
              have hM0 : 0 < M := by rw [hM]; have := blk_two HR.out hbU; omega
              have HCELL : Hid (∀ X, Below V3.heap.size V3 X → ∃ g off ak ck ai ci, ba3 = some ⟨g, off, none⟩ ∧ X.cell? ⟨g, off + k, none⟩ = some (.slice ak N ck) ∧ IAt X ak R ∧ X.cell? ⟨g, off + t, none⟩ = some (.slice ai M ci) ∧ IAt X ai U) := fun X hX => by
                obtain ⟨g, off, ak, ck, e0, e1, hI⟩ := (HT3.out.on hX).lb.at hkk
                obtain ⟨g', off', ai, ci, e2, e3, hI2⟩ := (HT3.out.on hX).lb.at htt
                rw [e0] at e2
                cases e2
                rw [← hRr] at e1 hI
                rw [← hUr] at e3 hI2
                exact ⟨g, off, ak, ck, ai, ci, e0, by rw [hN]; exact e1, hI, by rw [hM]; exact e3, hI2⟩
              obtain ⟨c, hc⟩ := ex_eq (inN R U)
              have HC0 : Hid (c 0 = 0) := by show _ = _; rw [hc]; rfl
              have HCN : Hid (∀ j (h : j < U.length), c (j + 1) = c j + (if U[j] ∈ R then 1 else 0)) := fun j h => by rw [hc]; exact inN_next h
              have HCB : Hid (∀ j, c j ≤ 1) := fun j => by rw [hc]; exact inN_one HR.out hbR hbU hneq j
              have HCUT : Hid (∀ z, z ∈ R → z ∈ U → z ∈ Cs3) := fun z h1 h2 => (HBC.out.2.is z).2 (blk_cut HR.out hbR hbU hneq h1 h2)
              have q2 : (k : Int) < (t : Int) := by omega
              have q6 : k < P3 := by omega
              have q7 : (k : Int) < (P3 : Int) := by omega
              have HBZ := hbz
              have HLEX := hid hlex
              have HNn := hid hN
              have HMm := hid hM
              clear hRr hUr hlex hbR hbU hneq hN hM hc hkk hbz
              go_wp2
              go_loopw [11, 12] (fun n i wz => ∃ j : Nat, j ≤ M ∧ i = .int .i64 j ∧ n = .int .i64 (c j : Nat) ∧ Hid (Below V3.heap.size V3 wz)) (fun _ i _ => M - (RowKit.intOf i).toNat)
              case atStart => exact ⟨0, Nat.zero_le _, rfl, by rw [HC0.out]; rfl, HBZ⟩
              case round =>
                obtain ⟨j, hj, rfl, rfl, hbj⟩ := hrel
                have htc := HT3.out.on hbj.out
                have t0 := htc.c0
                have t1 := htc.c1
                obtain ⟨g, off, ak, ck, ai, ci, rfl, e1, hI, e2, hIU⟩ := HCELL.out wr hbj.out
                have hcb := HCB.out j
                by_cases hltj : j < M
                · have hjr : j < U.length := by rw [← HMm.out]; exact hltj
                  obtain ⟨gi, oi, rfl, _, hcu⟩ := hIU (by omega)
                  have e3 := hcu j hjr
                  have hzU : U[j] ∈ U := List.getElem_mem hjr
                  have hn := HCN.out j hjr
                  obtain ⟨z, hz⟩ := ex_eq U[j]
                  rw [← hz] at e3 hn hzU
                  obtain ⟨ra, hra⟩ := ex_eq (decide (z ∈ R))
                  have HId := hid (hI.below (Below.refl _ wr).drew)
                  have HCd := hid (htc.ic.below ((Below.refl _ wr).drew.drew))
                  have C1 : Hid (∀ X, IAt X ak R → Calls Try.prog 18 #[.slice ak N ck, .int .i64 z] X fun e w' => e = .returned (.bool ra) ∧ w' = X) := fun X h => by
                    rw [hra, HNn.out]; exact in_any ak ck R z X (by rw [← HNn.out]; omega) h
                  have q3 : (j : Int) < (M : Int) := by omega
                  obtain ⟨x, hx⟩ := ex_eq (c j)
                  rw [← hx] at hn hcb
                  rw [← hx]
                  have HN2 := hid hn
                  have HRA := hid hra
                  have HZU := hid hzU
                  have HBd : Hid (Below V3.heap.size V3 wr.drew) := hbj.out.drew
                  have HBdd : Hid (Below V3.heap.size V3 wr.drew.drew) := hbj.out.drew.drew
                  have hS := (show (fun X => X.cell? ⟨T3, 0, none⟩ = some (.slice ca3 Q3 cc3) ∧ X.cell? ⟨T3, 1, none⟩ = some (.slice (some ⟨g, off, none⟩) P3 bc3) ∧ X.cell? ⟨g, off + k, none⟩ = some (.slice ak N ck) ∧ X.cell? ⟨g, off + t, none⟩ = some (.slice (some ⟨gi, oi, none⟩) M ci) ∧ X.cell? ⟨gi, oi + j, none⟩ = some (.int .i64 z)) wr.drew from ⟨t0, t1, e1, e2, e3⟩)
                  have hS' := (show (fun X => X.cell? ⟨T3, 0, none⟩ = some (.slice ca3 Q3 cc3) ∧ X.cell? ⟨T3, 1, none⟩ = some (.slice (some ⟨g, off, none⟩) P3 bc3) ∧ X.cell? ⟨g, off + k, none⟩ = some (.slice ak N ck) ∧ X.cell? ⟨g, off + t, none⟩ = some (.slice (some ⟨gi, oi, none⟩) M ci) ∧ X.cell? ⟨gi, oi + j, none⟩ = some (.int .i64 z)) wr.drew.drew from ⟨t0, t1, e1, e2, e3⟩)
                  simp only at hS hS'
                  clear hn hra hz hcu hjr hx htc hI hIU hbj hzU
                  cases ra with
                  | false =>
                    have HV : Hid (Value.int .i64 (x : Int) = .int .i64 (c (j + 1) : Nat)) := by
                      show _ = _
                      rw [HN2.out, if_neg (of_decide_eq_false HRA.out.symm)]; rfl
                    go_wp2_with fail
                    refine wp_region_held_drew (S := (fun X => X.cell? ⟨T3, 0, none⟩ = some (.slice ca3 Q3 cc3) ∧ X.cell? ⟨T3, 1, none⟩ = some (.slice (some ⟨g, off, none⟩) P3 bc3) ∧ X.cell? ⟨g, off + k, none⟩ = some (.slice ak N ck) ∧ X.cell? ⟨g, off + t, none⟩ = some (.slice (some ⟨gi, oi, none⟩) M ci) ∧ X.cell? ⟨gi, oi + j, none⟩ = some (.int .i64 z))) (by kernel_rfl) hS (fun hHeld => ?_)
                    (refine takeW (i := 0) (dst := some 84) (v := ?_) rfl rfl (by kernel_rfl) (by kernel_rfl) (by kernel_rfl) (fun _ _ _ h => h) (Or.inl ⟨by rfl, ?_⟩) hHeld ?_; rotate_left; focus (intro w hSw; (try dsimp only at hSw); go_simp; (try with_reducible rfl); done))
                    try simp only [Act.put, List.setIfInBounds_toArray, List.set_cons_zero, List.set_cons_succ]
                    (refine takeW (i := 1) (dst := some 85) (v := ?_) rfl rfl (by kernel_rfl) (by kernel_rfl) (by kernel_rfl) (fun _ _ _ h => h) (Or.inl ⟨by rfl, ?_⟩) hHeld ?_; rotate_left; focus (intro w hSw; (try dsimp only at hSw); go_simp; (try with_reducible rfl); done))
                    try simp only [Act.put, List.setIfInBounds_toArray, List.set_cons_zero, List.set_cons_succ]
                    (refine takeW (i := 2) (dst := some 86) (v := ?_) rfl rfl (by kernel_rfl) (by kernel_rfl) (by kernel_rfl) (fun _ _ _ h => h) (Or.inl ⟨by rfl, ?_⟩) hHeld ?_; rotate_left; focus (intro w hSw; (try dsimp only at hSw); go_simp; (try with_reducible rfl); done))
                    try simp only [Act.put, List.setIfInBounds_toArray, List.set_cons_zero, List.set_cons_succ]
                    (refine takeW (i := 3) (dst := some 87) (v := ?_) rfl rfl (by kernel_rfl) (by kernel_rfl) (by kernel_rfl) (fun _ _ _ h => h) (Or.inl ⟨by rfl, ?_⟩) hHeld ?_; rotate_left; focus (intro w hSw; (try dsimp only at hSw); go_simp; (try with_reducible rfl); done))
                    try simp only [Act.put, List.setIfInBounds_toArray, List.set_cons_zero, List.set_cons_succ]
                    (refine takeW (i := 4) (dst := some 88) (v := ?_) rfl rfl (by kernel_rfl) (by kernel_rfl) (by kernel_rfl) (fun _ _ _ h => h) (Or.inl ⟨by rfl, ?_⟩) hHeld ?_; rotate_left; focus (intro w hSw; (try dsimp only at hSw); go_simp; (try with_reducible rfl); done))
                    try simp only [Act.put, List.setIfInBounds_toArray, List.set_cons_zero, List.set_cons_succ]
                    (refine takeW (i := 5) (dst := some 89) (v := ?_) rfl rfl (by kernel_rfl) (by kernel_rfl) (by kernel_rfl) (fun _ _ _ h => h) (Or.inl ⟨by rfl, ?_⟩) hHeld ?_; rotate_left; focus (intro w hSw; (try dsimp only at hSw); go_simp; (try with_reducible rfl); done))
                    try simp only [Act.put, List.setIfInBounds_toArray, List.set_cons_zero, List.set_cons_succ]
                    (refine takeW (i := 6) (dst := some 90) (v := ?_) rfl rfl (by kernel_rfl) (by kernel_rfl) (by kernel_rfl) (fun _ _ _ h => h) (Or.inl ⟨by rfl, ?_⟩) hHeld ?_; rotate_left; focus (intro w hSw; (try dsimp only at hSw); go_simp; (try with_reducible rfl); done))
                    try simp only [Act.put, List.setIfInBounds_toArray, List.set_cons_zero, List.set_cons_succ]
                    (refine takeW (i := 7) (dst := some 91) (v := ?_) rfl rfl (by kernel_rfl) (by kernel_rfl) (by kernel_rfl) (fun _ _ _ h => h) (Or.inl ⟨by rfl, ?_⟩) hHeld ?_; rotate_left; focus (intro w hSw; (try dsimp only at hSw); go_simp; (try with_reducible rfl); done))
                    try simp only [Act.put, List.setIfInBounds_toArray, List.set_cons_zero, List.set_cons_succ]
                    (refine takeW (i := 8) (dst := some 92) (v := ?_) rfl rfl (by kernel_rfl) (by kernel_rfl) (by kernel_rfl) (fun _ _ _ h => h) (Or.inl ⟨by rfl, ?_⟩) hHeld ?_; rotate_left; focus (intro w hSw; (try dsimp only at hSw); go_simp; (try with_reducible rfl); done))
                    try simp only [Act.put, List.setIfInBounds_toArray, List.set_cons_zero, List.set_cons_succ]
                    (refine takeW (i := 9) (dst := some 93) (v := ?_) rfl rfl (by kernel_rfl) (by kernel_rfl) (by kernel_rfl) (fun _ _ _ h => h) (Or.inl ⟨by rfl, ?_⟩) hHeld ?_; rotate_left; focus (intro w hSw; (try dsimp only at hSw); go_simp; (try with_reducible rfl); done))
                    try simp only [Act.put, List.setIfInBounds_toArray, List.set_cons_zero, List.set_cons_succ]
                    (refine takeW (i := 10) (dst := some 94) (v := ?_) rfl rfl (by kernel_rfl) (by kernel_rfl) (by kernel_rfl) (fun _ _ _ h => h) (Or.inl ⟨by rfl, ?_⟩) hHeld ?_; rotate_left; focus (intro w hSw; (try dsimp only at hSw); go_simp; (try with_reducible rfl); done))
                    try simp only [Act.put, List.setIfInBounds_toArray, List.set_cons_zero, List.set_cons_succ]
                    (refine takeW (i := 11) (dst := some 95) (v := ?_) rfl rfl (by kernel_rfl) (by kernel_rfl) (by kernel_rfl) (fun _ _ _ h => h) (Or.inl ⟨by rfl, ?_⟩) hHeld ?_; rotate_left; focus (intro w hSw; (try dsimp only at hSw); go_simp; (try with_reducible rfl); done))
                    try simp only [Act.put, List.setIfInBounds_toArray, List.set_cons_zero, List.set_cons_succ]
                    (refine takeW (i := 12) (dst := some 96) (v := ?_) rfl rfl (by kernel_rfl) (by kernel_rfl) (by kernel_rfl) (fun _ _ _ h => h) (Or.inl ⟨by rfl, ?_⟩) hHeld ?_; rotate_left; focus (intro w hSw; (try dsimp only at hSw); go_simp; (try with_reducible rfl); done))
                    try simp only [Act.put, List.setIfInBounds_toArray, List.set_cons_zero, List.set_cons_succ]
                    refine wpAnyH_ready (rs := [13]) (by kernel_rfl) (by simp) ?_
                    refine AllReadyH.cons (o := _) rfl (fun KK hK => ?_) AllReadyH.nil
                    go_simp
                    refine (C1.out _ HId.out).mono ?_
                    rintro e y1 ⟨rfl, hy1⟩
                    subst hy1
                    refine hK.out _ _ hHeld (fun hHeld => ?_)
                    clear hK KK
                    try simp only [Act.put]
                    try simp only [List.setIfInBounds_toArray]
                    try simp only [List.set_cons_succ]
                    try simp only [List.set_cons_zero]
                    refine wpAnyH_done (by kernel_rfl) ?_ _
                    clear hHeld hS hS'
                    go_wp2
                    go_roundw
                    case rel => exact ⟨j + 1, by omega, by go_num, HV.out, HBd⟩
                    case measure => simp [RowKit.intOf]; omega
                  | true =>
                    have hzC := HCUT.out z (of_decide_eq_true HRA.out.symm) HZU.out
                    have C3 : Hid (∀ X, IAt X ca3 Cs3 → Calls Try.prog 18 #[.slice ca3 Q3 cc3, .int .i64 z] X fun e w' => e = .returned (.bool true) ∧ w' = X) := fun X h => by
                      have := in_any ca3 cc3 Cs3 z X (by have := HLN3.out.2.2; omega) h
                      rw [decide_eq_true hzC, ← HQ3.out] at this
                      exact this
                    have HV : Hid (Value.int .i64 ((x : Int) + 1) = .int .i64 (c (j + 1) : Nat)) := by
                      show _ = _
                      rw [HN2.out, if_pos (of_decide_eq_true HRA.out.symm)]; rfl
                    have q4 : IntKind.i64.wrap ((x : Int) + 1) = (x : Int) + 1 := by rw [IntKind.wrap_i64]; omega
                    clear hzC
                    go_wp2_with fail
                    refine wp_region_held_drew (S := (fun X => X.cell? ⟨T3, 0, none⟩ = some (.slice ca3 Q3 cc3) ∧ X.cell? ⟨T3, 1, none⟩ = some (.slice (some ⟨g, off, none⟩) P3 bc3) ∧ X.cell? ⟨g, off + k, none⟩ = some (.slice ak N ck) ∧ X.cell? ⟨g, off + t, none⟩ = some (.slice (some ⟨gi, oi, none⟩) M ci) ∧ X.cell? ⟨gi, oi + j, none⟩ = some (.int .i64 z))) (by kernel_rfl) hS (fun hHeld => ?_)
                    (refine takeW (i := 0) (dst := some 84) (v := ?_) rfl rfl (by kernel_rfl) (by kernel_rfl) (by kernel_rfl) (fun _ _ _ h => h) (Or.inl ⟨by rfl, ?_⟩) hHeld ?_; rotate_left; focus (intro w hSw; (try dsimp only at hSw); go_simp; (try with_reducible rfl); done))
                    try simp only [Act.put, List.setIfInBounds_toArray, List.set_cons_zero, List.set_cons_succ]
                    (refine takeW (i := 1) (dst := some 85) (v := ?_) rfl rfl (by kernel_rfl) (by kernel_rfl) (by kernel_rfl) (fun _ _ _ h => h) (Or.inl ⟨by rfl, ?_⟩) hHeld ?_; rotate_left; focus (intro w hSw; (try dsimp only at hSw); go_simp; (try with_reducible rfl); done))
                    try simp only [Act.put, List.setIfInBounds_toArray, List.set_cons_zero, List.set_cons_succ]
                    (refine takeW (i := 2) (dst := some 86) (v := ?_) rfl rfl (by kernel_rfl) (by kernel_rfl) (by kernel_rfl) (fun _ _ _ h => h) (Or.inl ⟨by rfl, ?_⟩) hHeld ?_; rotate_left; focus (intro w hSw; (try dsimp only at hSw); go_simp; (try with_reducible rfl); done))
                    try simp only [Act.put, List.setIfInBounds_toArray, List.set_cons_zero, List.set_cons_succ]
                    (refine takeW (i := 3) (dst := some 87) (v := ?_) rfl rfl (by kernel_rfl) (by kernel_rfl) (by kernel_rfl) (fun _ _ _ h => h) (Or.inl ⟨by rfl, ?_⟩) hHeld ?_; rotate_left; focus (intro w hSw; (try dsimp only at hSw); go_simp; (try with_reducible rfl); done))
                    try simp only [Act.put, List.setIfInBounds_toArray, List.set_cons_zero, List.set_cons_succ]
                    (refine takeW (i := 4) (dst := some 88) (v := ?_) rfl rfl (by kernel_rfl) (by kernel_rfl) (by kernel_rfl) (fun _ _ _ h => h) (Or.inl ⟨by rfl, ?_⟩) hHeld ?_; rotate_left; focus (intro w hSw; (try dsimp only at hSw); go_simp; (try with_reducible rfl); done))
                    try simp only [Act.put, List.setIfInBounds_toArray, List.set_cons_zero, List.set_cons_succ]
                    (refine takeW (i := 5) (dst := some 89) (v := ?_) rfl rfl (by kernel_rfl) (by kernel_rfl) (by kernel_rfl) (fun _ _ _ h => h) (Or.inl ⟨by rfl, ?_⟩) hHeld ?_; rotate_left; focus (intro w hSw; (try dsimp only at hSw); go_simp; (try with_reducible rfl); done))
                    try simp only [Act.put, List.setIfInBounds_toArray, List.set_cons_zero, List.set_cons_succ]
                    (refine takeW (i := 6) (dst := some 90) (v := ?_) rfl rfl (by kernel_rfl) (by kernel_rfl) (by kernel_rfl) (fun _ _ _ h => h) (Or.inl ⟨by rfl, ?_⟩) hHeld ?_; rotate_left; focus (intro w hSw; (try dsimp only at hSw); go_simp; (try with_reducible rfl); done))
                    try simp only [Act.put, List.setIfInBounds_toArray, List.set_cons_zero, List.set_cons_succ]
                    (refine takeW (i := 7) (dst := some 91) (v := ?_) rfl rfl (by kernel_rfl) (by kernel_rfl) (by kernel_rfl) (fun _ _ _ h => h) (Or.inl ⟨by rfl, ?_⟩) hHeld ?_; rotate_left; focus (intro w hSw; (try dsimp only at hSw); go_simp; (try with_reducible rfl); done))
                    try simp only [Act.put, List.setIfInBounds_toArray, List.set_cons_zero, List.set_cons_succ]
                    (refine takeW (i := 8) (dst := some 92) (v := ?_) rfl rfl (by kernel_rfl) (by kernel_rfl) (by kernel_rfl) (fun _ _ _ h => h) (Or.inl ⟨by rfl, ?_⟩) hHeld ?_; rotate_left; focus (intro w hSw; (try dsimp only at hSw); go_simp; (try with_reducible rfl); done))
                    try simp only [Act.put, List.setIfInBounds_toArray, List.set_cons_zero, List.set_cons_succ]
                    (refine takeW (i := 9) (dst := some 93) (v := ?_) rfl rfl (by kernel_rfl) (by kernel_rfl) (by kernel_rfl) (fun _ _ _ h => h) (Or.inl ⟨by rfl, ?_⟩) hHeld ?_; rotate_left; focus (intro w hSw; (try dsimp only at hSw); go_simp; (try with_reducible rfl); done))
                    try simp only [Act.put, List.setIfInBounds_toArray, List.set_cons_zero, List.set_cons_succ]
                    (refine takeW (i := 10) (dst := some 94) (v := ?_) rfl rfl (by kernel_rfl) (by kernel_rfl) (by kernel_rfl) (fun _ _ _ h => h) (Or.inl ⟨by rfl, ?_⟩) hHeld ?_; rotate_left; focus (intro w hSw; (try dsimp only at hSw); go_simp; (try with_reducible rfl); done))
                    try simp only [Act.put, List.setIfInBounds_toArray, List.set_cons_zero, List.set_cons_succ]
                    (refine takeW (i := 11) (dst := some 95) (v := ?_) rfl rfl (by kernel_rfl) (by kernel_rfl) (by kernel_rfl) (fun _ _ _ h => h) (Or.inl ⟨by rfl, ?_⟩) hHeld ?_; rotate_left; focus (intro w hSw; (try dsimp only at hSw); go_simp; (try with_reducible rfl); done))
                    try simp only [Act.put, List.setIfInBounds_toArray, List.set_cons_zero, List.set_cons_succ]
                    (refine takeW (i := 12) (dst := some 96) (v := ?_) rfl rfl (by kernel_rfl) (by kernel_rfl) (by kernel_rfl) (fun _ _ _ h => h) (Or.inl ⟨by rfl, ?_⟩) hHeld ?_; rotate_left; focus (intro w hSw; (try dsimp only at hSw); go_simp; (try with_reducible rfl); done))
                    try simp only [Act.put, List.setIfInBounds_toArray, List.set_cons_zero, List.set_cons_succ]
                    refine wpAnyH_ready (rs := [13]) (by kernel_rfl) (by simp) ?_
                    refine AllReadyH.cons (o := _) rfl (fun KK hK => ?_) AllReadyH.nil
                    go_simp
                    refine (C1.out _ HId.out).mono ?_
                    rintro e y1 ⟨rfl, hy1⟩
                    subst hy1
                    refine hK.out _ _ hHeld (fun hHeld => ?_)
                    clear hK KK
                    try simp only [Act.put]
                    try simp only [List.setIfInBounds_toArray]
                    try simp only [List.set_cons_succ]
                    try simp only [List.set_cons_zero]
                    refine wpAnyH_done (by kernel_rfl) ?_ _
                    clear hHeld hS
                    go_wp2_with fail
                    refine wp_region_held_drew (S := (fun X => X.cell? ⟨T3, 0, none⟩ = some (.slice ca3 Q3 cc3) ∧ X.cell? ⟨T3, 1, none⟩ = some (.slice (some ⟨g, off, none⟩) P3 bc3) ∧ X.cell? ⟨g, off + k, none⟩ = some (.slice ak N ck) ∧ X.cell? ⟨g, off + t, none⟩ = some (.slice (some ⟨gi, oi, none⟩) M ci) ∧ X.cell? ⟨gi, oi + j, none⟩ = some (.int .i64 z))) (by kernel_rfl) hS' (fun hHeld => ?_)
                    (refine takeW (i := 0) (dst := some 100) (v := ?_) rfl rfl (by kernel_rfl) (by kernel_rfl) (by kernel_rfl) (fun _ _ _ h => h) (Or.inl ⟨by rfl, ?_⟩) hHeld ?_; rotate_left; focus (intro w hSw; (try dsimp only at hSw); go_simp; (try with_reducible rfl); done))
                    try simp only [Act.put, List.setIfInBounds_toArray, List.set_cons_zero, List.set_cons_succ]
                    (refine takeW (i := 1) (dst := some 101) (v := ?_) rfl rfl (by kernel_rfl) (by kernel_rfl) (by kernel_rfl) (fun _ _ _ h => h) (Or.inl ⟨by rfl, ?_⟩) hHeld ?_; rotate_left; focus (intro w hSw; (try dsimp only at hSw); go_simp; (try with_reducible rfl); done))
                    try simp only [Act.put, List.setIfInBounds_toArray, List.set_cons_zero, List.set_cons_succ]
                    (refine takeW (i := 2) (dst := some 102) (v := ?_) rfl rfl (by kernel_rfl) (by kernel_rfl) (by kernel_rfl) (fun _ _ _ h => h) (Or.inl ⟨by rfl, ?_⟩) hHeld ?_; rotate_left; focus (intro w hSw; (try dsimp only at hSw); go_simp; (try with_reducible rfl); done))
                    try simp only [Act.put, List.setIfInBounds_toArray, List.set_cons_zero, List.set_cons_succ]
                    (refine takeW (i := 3) (dst := some 103) (v := ?_) rfl rfl (by kernel_rfl) (by kernel_rfl) (by kernel_rfl) (fun _ _ _ h => h) (Or.inl ⟨by rfl, ?_⟩) hHeld ?_; rotate_left; focus (intro w hSw; (try dsimp only at hSw); go_simp; (try with_reducible rfl); done))
                    try simp only [Act.put, List.setIfInBounds_toArray, List.set_cons_zero, List.set_cons_succ]
                    (refine takeW (i := 4) (dst := some 104) (v := ?_) rfl rfl (by kernel_rfl) (by kernel_rfl) (by kernel_rfl) (fun _ _ _ h => h) (Or.inl ⟨by rfl, ?_⟩) hHeld ?_; rotate_left; focus (intro w hSw; (try dsimp only at hSw); go_simp; (try with_reducible rfl); done))
                    try simp only [Act.put, List.setIfInBounds_toArray, List.set_cons_zero, List.set_cons_succ]
                    (refine takeW (i := 5) (dst := some 105) (v := ?_) rfl rfl (by kernel_rfl) (by kernel_rfl) (by kernel_rfl) (fun _ _ _ h => h) (Or.inl ⟨by rfl, ?_⟩) hHeld ?_; rotate_left; focus (intro w hSw; (try dsimp only at hSw); go_simp; (try with_reducible rfl); done))
                    try simp only [Act.put, List.setIfInBounds_toArray, List.set_cons_zero, List.set_cons_succ]
                    (refine takeW (i := 6) (dst := some 106) (v := ?_) rfl rfl (by kernel_rfl) (by kernel_rfl) (by kernel_rfl) (fun _ _ _ h => h) (Or.inl ⟨by rfl, ?_⟩) hHeld ?_; rotate_left; focus (intro w hSw; (try dsimp only at hSw); go_simp; (try with_reducible rfl); done))
                    try simp only [Act.put, List.setIfInBounds_toArray, List.set_cons_zero, List.set_cons_succ]
                    (refine takeW (i := 7) (dst := some 107) (v := ?_) rfl rfl (by kernel_rfl) (by kernel_rfl) (by kernel_rfl) (fun _ _ _ h => h) (Or.inl ⟨by rfl, ?_⟩) hHeld ?_; rotate_left; focus (intro w hSw; (try dsimp only at hSw); go_simp; (try with_reducible rfl); done))
                    try simp only [Act.put, List.setIfInBounds_toArray, List.set_cons_zero, List.set_cons_succ]
                    (refine takeW (i := 8) (dst := some 108) (v := ?_) rfl rfl (by kernel_rfl) (by kernel_rfl) (by kernel_rfl) (fun _ _ _ h => h) (Or.inl ⟨by rfl, ?_⟩) hHeld ?_; rotate_left; focus (intro w hSw; (try dsimp only at hSw); go_simp; (try with_reducible rfl); done))
                    try simp only [Act.put, List.setIfInBounds_toArray, List.set_cons_zero, List.set_cons_succ]
                    (refine takeW (i := 9) (dst := some 109) (v := ?_) rfl rfl (by kernel_rfl) (by kernel_rfl) (by kernel_rfl) (fun _ _ _ h => h) (Or.inl ⟨by rfl, ?_⟩) hHeld ?_; rotate_left; focus (intro w hSw; (try dsimp only at hSw); go_simp; (try with_reducible rfl); done))
                    try simp only [Act.put, List.setIfInBounds_toArray, List.set_cons_zero, List.set_cons_succ]
                    refine wpAnyH_ready (rs := [10]) (by kernel_rfl) (by simp) ?_
                    refine AllReadyH.cons (o := _) rfl (fun KK hK => ?_) AllReadyH.nil
                    go_simp
                    refine (C3.out _ HCd.out).mono ?_
                    rintro e y1 ⟨rfl, hy1⟩
                    subst hy1
                    refine hK.out _ _ hHeld (fun hHeld => ?_)
                    clear hK KK
                    try simp only [Act.put]
                    try simp only [List.setIfInBounds_toArray]
                    try simp only [List.set_cons_succ]
                    try simp only [List.set_cons_zero]
                    (refine takeW (i := 11) (dst := some 111) (v := ?_) rfl rfl (by kernel_rfl) (by kernel_rfl) (by kernel_rfl) (fun _ _ _ h => h) (Or.inl ⟨by rfl, ?_⟩) hHeld ?_; rotate_left; focus (intro w hSw; (try dsimp only at hSw); go_simp; (try with_reducible rfl); done))
                    try simp only [Act.put, List.setIfInBounds_toArray, List.set_cons_zero, List.set_cons_succ]
                    refine wpAnyH_done (by kernel_rfl) ?_ _
                    clear hHeld hS'
                    go_wp2
                    go_roundw
                    case rel => exact ⟨j + 1, by omega, by go_num, HV.out, HBdd⟩
                    case measure => simp [RowKit.intOf]; omega
                · obtain rfl : j = M := by omega
                  obtain ⟨x, hx⟩ := ex_eq (c j)
                  rw [← hx] at hcb
                  rw [← hx]
                  have CL : Hid (∀ X, IAt X ak R → IAt X ai U → Calls Try.prog 19 #[.slice ak N ck, .slice ai j ci] X fun e w' => e = .returned (.bool true) ∧ Below X.heap.size X w') := fun X h1 h2 => by
                    have := less_any ak ai ck ci R U X (by rw [← HNn.out]; omega) h1 h2
                    rw [HLEX.out, ← HNn.out, ← HMm.out] at this
                    exact this
                  have q3 : decide ((x : Int) > 1) = false := decide_eq_false (by omega)
                  have q4 : ¬ (1 : Int) < (x : Int) := by omega
                  have q5 : decide ((1 : Int) < (x : Int)) = false := decide_eq_false (by omega)
                  have HId := hid (hI.below (Below.refl _ wr).drew)
                  have HUd := hid (hIU.below (Below.refl _ wr).drew)
                  have HBd : Hid (Below V3.heap.size V3 wr.drew) := hbj.out.drew
                  have HSS : Hid (∀ X, Below wr.drew.heap.size wr.drew X → X.cell? ⟨T3, 1, none⟩ = some (.slice (some ⟨g, off, none⟩) P3 bc3) ∧ X.cell? ⟨g, off + k, none⟩ = some (.slice ak N ck) ∧ X.cell? ⟨g, off + t, none⟩ = some (.slice ai j ci)) := fun X h =>
                    ⟨(h.cell (p := ⟨T3, 1, none⟩) (block_lt_of_cell t1)).trans t1, (h.cell (p := ⟨g, off + k, none⟩) (block_lt_of_cell e1)).trans e1, (h.cell (p := ⟨g, off + t, none⟩) (block_lt_of_cell e2)).trans e2⟩
                  have hS := HSS.out wr.drew (Below.refl _ _)
                  clear hx htc hI hIU hbj
                  go_wp2_with fail
                  refine wp_region_held_drew (S := (fun X => X.cell? ⟨T3, 1, none⟩ = some (.slice (some ⟨g, off, none⟩) P3 bc3) ∧ X.cell? ⟨g, off + k, none⟩ = some (.slice ak N ck) ∧ X.cell? ⟨g, off + t, none⟩ = some (.slice ai j ci))) (by kernel_rfl) hS (fun hHeld => ?_)
                  (refine takeW (i := 0) (dst := some 112) (v := ?_) rfl rfl (by kernel_rfl) (by kernel_rfl) (by kernel_rfl) (fun _ _ _ h => h) (Or.inl ⟨by rfl, ?_⟩) hHeld ?_; rotate_left; focus (intro w hSw; (try dsimp only at hSw); go_simp; (try with_reducible rfl); done))
                  try simp only [Act.put, List.setIfInBounds_toArray, List.set_cons_zero, List.set_cons_succ]
                  (refine takeW (i := 1) (dst := some 113) (v := ?_) rfl rfl (by kernel_rfl) (by kernel_rfl) (by kernel_rfl) (fun _ _ _ h => h) (Or.inl ⟨by rfl, ?_⟩) hHeld ?_; rotate_left; focus (intro w hSw; (try dsimp only at hSw); go_simp; (try with_reducible rfl); done))
                  try simp only [Act.put, List.setIfInBounds_toArray, List.set_cons_zero, List.set_cons_succ]
                  (refine takeW (i := 2) (dst := some 114) (v := ?_) rfl rfl (by kernel_rfl) (by kernel_rfl) (by kernel_rfl) (fun _ _ _ h => h) (Or.inl ⟨by rfl, ?_⟩) hHeld ?_; rotate_left; focus (intro w hSw; (try dsimp only at hSw); go_simp; (try with_reducible rfl); done))
                  try simp only [Act.put, List.setIfInBounds_toArray, List.set_cons_zero, List.set_cons_succ]
                  first | refine takeW (i := 3) (dst := some 115) (v := undef) rfl rfl (by kernel_rfl) (by kernel_rfl) (by kernel_rfl) (fun _ _ _ h => h) (Or.inr ⟨by rfl, rfl⟩) hHeld ?_ | (refine takeW (i := 3) (dst := some 115) (v := ?_) rfl rfl (by kernel_rfl) (by kernel_rfl) (by kernel_rfl) (fun _ _ _ h => h) (Or.inl ⟨by rfl, ?_⟩) hHeld ?_; rotate_left; focus (intro w hSw; (try dsimp only at hSw); go_simp; (try with_reducible rfl); done))
                  try simp only [Act.put, List.setIfInBounds_toArray, List.set_cons_zero, List.set_cons_succ]
                  first | refine takeW (i := 4) (dst := some 116) (v := undef) rfl rfl (by kernel_rfl) (by kernel_rfl) (by kernel_rfl) (fun _ _ _ h => h) (Or.inr ⟨by rfl, rfl⟩) hHeld ?_ | (refine takeW (i := 4) (dst := some 116) (v := ?_) rfl rfl (by kernel_rfl) (by kernel_rfl) (by kernel_rfl) (fun _ _ _ h => h) (Or.inl ⟨by rfl, ?_⟩) hHeld ?_; rotate_left; focus (intro w hSw; (try dsimp only at hSw); go_simp; (try with_reducible rfl); done))
                  try simp only [Act.put, List.setIfInBounds_toArray, List.set_cons_zero, List.set_cons_succ]
                  first | refine takeW (i := 5) (dst := some 117) (v := undef) rfl rfl (by kernel_rfl) (by kernel_rfl) (by kernel_rfl) (fun _ _ _ h => h) (Or.inr ⟨by rfl, rfl⟩) hHeld ?_ | (refine takeW (i := 5) (dst := some 117) (v := ?_) rfl rfl (by kernel_rfl) (by kernel_rfl) (by kernel_rfl) (fun _ _ _ h => h) (Or.inl ⟨by rfl, ?_⟩) hHeld ?_; rotate_left; focus (intro w hSw; (try dsimp only at hSw); go_simp; (try with_reducible rfl); done))
                  try simp only [Act.put, List.setIfInBounds_toArray, List.set_cons_zero, List.set_cons_succ]
                  first | refine takeW (i := 6) (dst := some 118) (v := undef) rfl rfl (by kernel_rfl) (by kernel_rfl) (by kernel_rfl) (fun _ _ _ h => h) (Or.inr ⟨by rfl, rfl⟩) hHeld ?_ | (refine takeW (i := 6) (dst := some 118) (v := ?_) rfl rfl (by kernel_rfl) (by kernel_rfl) (by kernel_rfl) (fun _ _ _ h => h) (Or.inl ⟨by rfl, ?_⟩) hHeld ?_; rotate_left; focus (intro w hSw; (try dsimp only at hSw); go_simp; (try with_reducible rfl); done))
                  try simp only [Act.put, List.setIfInBounds_toArray, List.set_cons_zero, List.set_cons_succ]
                  first | refine takeW (i := 7) (dst := some 119) (v := undef) rfl rfl (by kernel_rfl) (by kernel_rfl) (by kernel_rfl) (fun _ _ _ h => h) (Or.inr ⟨by rfl, rfl⟩) hHeld ?_ | (refine takeW (i := 7) (dst := some 119) (v := ?_) rfl rfl (by kernel_rfl) (by kernel_rfl) (by kernel_rfl) (fun _ _ _ h => h) (Or.inl ⟨by rfl, ?_⟩) hHeld ?_; rotate_left; focus (intro w hSw; (try dsimp only at hSw); go_simp; (try with_reducible rfl); done))
                  try simp only [Act.put, List.setIfInBounds_toArray, List.set_cons_zero, List.set_cons_succ]
                  first | refine takeW (i := 8) (dst := some 120) (v := undef) rfl rfl (by kernel_rfl) (by kernel_rfl) (by kernel_rfl) (fun _ _ _ h => h) (Or.inr ⟨by rfl, rfl⟩) hHeld ?_ | (refine takeW (i := 8) (dst := some 120) (v := ?_) rfl rfl (by kernel_rfl) (by kernel_rfl) (by kernel_rfl) (fun _ _ _ h => h) (Or.inl ⟨by rfl, ?_⟩) hHeld ?_; rotate_left; focus (intro w hSw; (try dsimp only at hSw); go_simp; (try with_reducible rfl); done))
                  try simp only [Act.put, List.setIfInBounds_toArray, List.set_cons_zero, List.set_cons_succ]
                  first | refine takeW (i := 9) (dst := some 121) (v := undef) rfl rfl (by kernel_rfl) (by kernel_rfl) (by kernel_rfl) (fun _ _ _ h => h) (Or.inr ⟨by rfl, rfl⟩) hHeld ?_ | (refine takeW (i := 9) (dst := some 121) (v := ?_) rfl rfl (by kernel_rfl) (by kernel_rfl) (by kernel_rfl) (fun _ _ _ h => h) (Or.inl ⟨by rfl, ?_⟩) hHeld ?_; rotate_left; focus (intro w hSw; (try dsimp only at hSw); go_simp; (try with_reducible rfl); done))
                  try simp only [Act.put, List.setIfInBounds_toArray, List.set_cons_zero, List.set_cons_succ]
                  first | refine takeW (i := 10) (dst := some 122) (v := undef) rfl rfl (by kernel_rfl) (by kernel_rfl) (by kernel_rfl) (fun _ _ _ h => h) (Or.inr ⟨by rfl, rfl⟩) hHeld ?_ | (refine takeW (i := 10) (dst := some 122) (v := ?_) rfl rfl (by kernel_rfl) (by kernel_rfl) (by kernel_rfl) (fun _ _ _ h => h) (Or.inl ⟨by rfl, ?_⟩) hHeld ?_; rotate_left; focus (intro w hSw; (try dsimp only at hSw); go_simp; (try with_reducible rfl); done))
                  try simp only [Act.put, List.setIfInBounds_toArray, List.set_cons_zero, List.set_cons_succ]
                  first | refine takeW (i := 11) (dst := some 123) (v := undef) rfl rfl (by kernel_rfl) (by kernel_rfl) (by kernel_rfl) (fun _ _ _ h => h) (Or.inr ⟨by rfl, rfl⟩) hHeld ?_ | (refine takeW (i := 11) (dst := some 123) (v := ?_) rfl rfl (by kernel_rfl) (by kernel_rfl) (by kernel_rfl) (fun _ _ _ h => h) (Or.inl ⟨by rfl, ?_⟩) hHeld ?_; rotate_left; focus (intro w hSw; (try dsimp only at hSw); go_simp; (try with_reducible rfl); done))
                  try simp only [Act.put, List.setIfInBounds_toArray, List.set_cons_zero, List.set_cons_succ]
                  first | refine takeW (i := 12) (dst := some 124) (v := undef) rfl rfl (by kernel_rfl) (by kernel_rfl) (by kernel_rfl) (fun _ _ _ h => h) (Or.inr ⟨by rfl, rfl⟩) hHeld ?_ | (refine takeW (i := 12) (dst := some 124) (v := ?_) rfl rfl (by kernel_rfl) (by kernel_rfl) (by kernel_rfl) (fun _ _ _ h => h) (Or.inl ⟨by rfl, ?_⟩) hHeld ?_; rotate_left; focus (intro w hSw; (try dsimp only at hSw); go_simp; (try with_reducible rfl); done))
                  try simp only [Act.put, List.setIfInBounds_toArray, List.set_cons_zero, List.set_cons_succ]
                  refine wpAnyH_ready (rs := [13]) (by kernel_rfl) (by simp) ?_
                  refine AllReadyH.cons (o := _) rfl (fun KK hK => ?_) AllReadyH.nil
                  go_simp
                  refine (CL.out _ HId.out HUd.out).mono ?_
                  rintro e y1 ⟨rfl, hb⟩
                  have hS1 := HSS.out y1 hb
                  have HB5 : Hid (Below V3.heap.size V3 y1) := HBd.out.trans (hb.mono HBd.out.size)
                  clear hb HId HUd HBd
                  refine hK.out _ _ hS1 (fun hHeld => ?_)
                  clear hK KK
                  try simp only [Act.put]
                  try simp only [List.setIfInBounds_toArray]
                  try simp only [List.set_cons_succ]
                  try simp only [List.set_cons_zero]
                  first | refine takeW (i := 14) (dst := some 126) (v := undef) rfl rfl (by kernel_rfl) (by kernel_rfl) (by kernel_rfl) (fun _ _ _ h => h) (Or.inr ⟨by rfl, rfl⟩) hHeld ?_ | (refine takeW (i := 14) (dst := some 126) (v := ?_) rfl rfl (by kernel_rfl) (by kernel_rfl) (by kernel_rfl) (fun _ _ _ h => h) (Or.inl ⟨by rfl, ?_⟩) hHeld ?_; rotate_left; focus (intro w hSw; (try dsimp only at hSw); go_simp; (try with_reducible rfl); done))
                  try simp only [Act.put, List.setIfInBounds_toArray, List.set_cons_zero, List.set_cons_succ]
                  (refine takeW (i := 15) (dst := some 127) (v := ?_) rfl rfl (by kernel_rfl) (by kernel_rfl) (by kernel_rfl) (fun _ _ _ h => h) (Or.inl ⟨by rfl, ?_⟩) hHeld ?_; rotate_left; focus (intro w hSw; (try dsimp only at hSw); go_simp; (try with_reducible rfl); done))
                  try simp only [Act.put, List.setIfInBounds_toArray, List.set_cons_zero, List.set_cons_succ]
                  refine wpAnyH_done (by kernel_rfl) ?_ _
                  clear hHeld hS hS1 HSS t0 t1 e1 e2
                  go_wp2
                  go_roundw
                  case rel => exact ⟨k + 1, by omega, by go_num, HB5⟩
                  case measure => simp [RowKit.intOf]; omega
            · obtain rfl : k = t := by omega
              have HBZ := hbz
              clear hbz
              go_wp2
              go_roundw
              case rel => exact ⟨k + 1, by omega, by go_num, HBZ⟩
              case measure => simp [RowKit.intOf]; omega
        · obtain rfl : t = P3 := by omega
          have HBF : Hid (Below w.heap.size w wr) := HB3.out.trans (hbw.out.mono HB3.out.size)
          clear hbw
          go_wp2
          go_ret
          exact ⟨rfl, HBF.out⟩
end Go.Proofs.Ytplhpinaadgkkaa
