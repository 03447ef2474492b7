/-
  carcanetlaw05.WalkMeets answers true, for any walks that keep the contracts.
-/
import Derived.Test.YtccbheijfnodjaaB19
import Derived.Test.YtccbheijfnodjaaB26
import Derived.Test.YtccbheijfnodjaaB14
import Derived.Test.YtccbheijfnodjaaB29
import Derived.Test.YtccbheijfnodjaaB03
namespace Go.Proofs.Ytccbheijfnodjaa
open Go.RowKit Go.Lib

set_option maxHeartbeats 4000000 in
set_option maxRecDepth 100000 in
theorem walkMeets_law (O : WalkOps)
    (OC : ∀ (n : Int) (a : Option Addr) (cap : Nat) (es : List (Int × Int)) (b : Bool) (f : Nat → Nat) (w : World), es.length ≤ 1000000 → EAt w a es → (b = true ↔ RightG n es) → (b = true → Pt n.toNat f ∧ Tells n.toNat f (prsN es)) →
      Calls Try.prog 29 #[.agg #[.int .i64 n, .slice a es.length cap]] w fun e w' => ∃ v, e = .returned v ∧ PCompS w w' v (if b = true then classesF n.toNat f else []))
    (n : Int) (a : Option Addr) (len cap : Nat) (l : List (Int × Int)) (k0 k1 : Int) (w : World) (hl : len = l.length) (hE : EAt w a l) :
    Calls Try.prog 9 #[.int .i64 n, .slice a len cap, .agg #[.int .i64 k0, .int .i64 k1]] w fun e w' => e = .returned (.bool true) ∧ Below w.heap.size w w' := by
  have HO := hid O
  have HOC := hid OC
  have HL := hid hl
  obtain ⟨b0, hb0⟩ := ex_eq w.heap.size
  have HB0 := hid hb0
  obtain ⟨W0, hW0⟩ := ex_eq (w.alloc (.cells #[.int .i64 k0, .int .i64 k1] 29))
  have hB0 : Below b0 w W0 := by rw [hW0, hb0]; exact below_new _ _
  have hs0 : W0.heap.size = b0 + 1 := by rw [hW0, hb0]; simp
  have HO0 : Hid (W0.heap[b0]? = some (.cells #[.int .i64 k0, .int .i64 k1] 29)) := by
    show _ = _
    rw [hW0, hb0]; exact heap_alloc_new _ _
  have HW0 := hid hW0
  have HE : Hid (∀ X, Below b0 w X → EAt X a l) := fun X h => hE.below (by rw [← hb0]; exact h)
  have h00 : b0 ≤ w.heap.size := by omega
  clear O OC hl hE hW0 hb0
  go_enter Try.func9, Try.ntmps9
  go_upto_region 1 with fail
  rw [← HW0.out, ← HB0.out]
  clear HW0
  go_wp2_with fail
  refine (wshown_any HO.out _).mono ?_
  rintro e w1 ⟨rfl, hb1⟩
  rw [hs0] at hb1
  have hBw1 : Below b0 w w1 := hB0.trans (hb1.mono (by omega))
  have HO1 : Hid (w1.heap[b0]? = some (.cells #[.int .i64 k0, .int .i64 k1] 29)) := (hb1.block _ (by omega)).trans HO0.out
  have hs1 : b0 + 1 ≤ w1.heap.size := by have := hb1.size; omega
  clear hb1 HO0 hs0 hB0
  have CA := hid (any_any n a len cap l 40 w1 (by omega) HL.out (HE.out w1 hBw1))
  go_wp2_with fail
  refine CA.out.mono ?_
  rintro e w2 ⟨m, ys, a2, c2, rfl, hm50, hR, hys, hsl, hE2, hb2⟩
  obtain ⟨K, hK⟩ := ex_eq ys.length
  rw [← hK]
  have HK := hid hK
  obtain ⟨V2, hV2⟩ := ex_eq (w2.alloc (.cells #[.int .i64 m, .slice a2 K c2] 24))
  obtain ⟨B, hB⟩ := ex_eq w2.heap.size
  have hbV2 : Below w2.heap.size w2 V2 := by rw [hV2]; exact below_new _ _
  have HG2 : Hid (GC V2 B m a2 K c2 ys) := by
    show GC V2 _ _ _ _ _ _
    rw [hV2, hB]; exact gc_new hE2
  have hBX2 : Below w1.heap.size w1 V2 := hb2.trans (hbV2.mono hb2.size)
  have HB2 : Hid (Below b0 w V2) := hBw1.trans (hBX2.mono (by omega))
  have HO2 : Hid (V2.heap[b0]? = some (.cells #[.int .i64 k0, .int .i64 k1] 29)) := (hBX2.block _ (by omega)).trans HO1.out
  have HV2 := hid hV2
  have HBB := hid hB
  have HR := hid hR
  have HSL := hid hsl
  have hK3 : K ≤ 300 := by omega
  clear hK hV2 hbV2 hBX2 hE2 hb2 hR hys hsl CA HO1 hBw1 hs1 hB HE HL
  go_upto_region 3 with fail
  rw [← HV2.out, ← HBB.out]
  clear HV2 HBB
  obtain ⟨g0, g1⟩ := HG2.out.cells
  obtain ⟨x0, x1⟩ := two_cells HO2.out
  by_cases hm0 : m = 0
  · subst hm0
    go_wp2
    go_ret
    exact ⟨rfl, by rw [← HB0.out]; exact HB2.out⟩
  have hm3 : ((m : Int) == 0) = false := beq_eq_false_iff_ne.2 (by omega)
  have hm5 : ¬ (m : Int) = 0 := by omega
  obtain ⟨p, hp, hpm⟩ := rnd_of k0 (m := m) (by omega)
  obtain ⟨q, hq, hqm⟩ := rnd_of k1 (m := m) (by omega)
  obtain ⟨f, hPt, hTl⟩ := tells_ex (n := m) (prsN ys) (prsN_in HR.out)
  have HPT := hid hPt
  have HTL := hid hTl
  have CX : Hid (∀ W, EAt W a2 ys → Calls Try.prog 29 #[.agg #[.int .i64 m, .slice a2 K c2]] W fun e w' => ∃ v, e = .returned v ∧ PCompS W w' v (classesF m f)) := fun W h => by
    have := HOC.out m a2 c2 ys true f W (by rw [← HK.out]; omega) h ⟨fun _ => HR.out, fun _ => rfl⟩ (fun _ => ⟨hPt, hTl⟩)
    rw [if_pos rfl, ← HK.out] at this
    exact this
  clear hPt hTl HOC
  go_wp2_with fail
  refine (CX.out _ HG2.out.at_).mono ?_
  rintro e w5 ⟨v5, rfl, a5, c5, rfl, hI5, hb5⟩
  have HI5 : Hid (LLS w5 a5 (classesF m f)) := hI5
  have HG5 := hid (HG2.out.on hb5)
  have HB5 : Hid (Below b0 w w5) := HB2.out.trans (hb5.mono (Nat.le_trans h00 HB2.out.size))
  clear hI5 hb5 HG2 HB2 CX g0 g1 x0 x1 HO2 hp hq hm3 hm5
  obtain ⟨X, hX⟩ := ex_eq (classesF m f).length
  rw [← hX]
  have HXX := hid hX
  have HXL : Hid ((repsF m f).length = X) := by show _ = X; rw [hX, classesF_len]
  have hXm : X ≤ m := by rw [hX, classesF_len]; exact reps_len _ _
  clear hX
  go_wp2
  go_loopg [12, 13] X (fun G one i wz => ∃ (t : Nat) (o : Bool), t ≤ X ∧ X - t ≤ G ∧ one = .bool o ∧ i = .int .i64 t ∧ Hid (OneIs m f p q t o) ∧ Hid (LLS wz a5 (classesF m f)) ∧ Hid (GC wz B m a2 K c2 ys) ∧ Hid (Below b0 w wz))
  case atStart => exact ⟨0, false, Nat.zero_le _, by omega, rfl, rfl, ⟨fun h => (by cases h), fun ⟨j, _, h, _⟩ => absurd h (by omega)⟩, HI5, HG5, HB5⟩
  case round =>
    obtain ⟨t, o, htX, hGt, rfl, rfl, ho, hll, hgc, hbw⟩ := hrel
    by_cases htl : t < X
    · have htr : t < (repsF m f).length := by rw [HXL.out]; exact htl
      have htc : t < (classesF m f).length := by rw [← HXX.out]; exact htl
      obtain ⟨r, hr⟩ := ex_eq (repsF m f)[t]
      have hcl := classesF_at htc htr
      rw [← hr] at hcl
      have HST := hid (one_step (f := f) htr hr.symm hpm hqm)
      have hrr : r ∈ repsF m f := by rw [hr]; exact List.getElem_mem _
      obtain ⟨g, off, ak, ck, rfl, c1, i1, hslk⟩ := hll.out.at htc
      rw [hcl] at c1 i1 hslk
      obtain ⟨R, hR⟩ := ex_eq (classF m f r).length
      have HRR := hid hR
      rw [← hR] at c1
      have hRm : R ≤ m := by rw [hR]; exact class_len _ _ _
      obtain ⟨ra, hra⟩ := ex_eq (decide ((p : Int) ∈ classF m f r))
      obtain ⟨rb, hrb⟩ := ex_eq (decide ((q : Int) ∈ classF m f r))
      have C1 : Hid (∀ W, IAt W ak (classF m f r) → Calls Try.prog 26 #[.slice ak R ck, .int .i64 p] W fun e w' => e = .returned (.bool ra) ∧ w' = W) := fun W h => by
        rw [hra, hR]; exact in_any ak ck (classF m f r) p W (by omega) h
      have C2 : Hid (∀ W, IAt W ak (classF m f r) → Calls Try.prog 26 #[.slice ak R ck, .int .i64 q] W fun e w' => e = .returned (.bool rb) ∧ w' = W) := fun W h => by
        rw [hrb, hR]; exact in_any ak ck (classF m f r) q W (by omega) h
      have CW : Hid (∀ W, GC W B m a2 K c2 ys → IAt W ak (classF m f r) → Calls Try.prog 16 #[.agg #[.int .i64 m, .slice a2 K c2], .slice ak R ck] W fun e w' => e = .returned (.bool true) ∧ Below W.heap.size W w') := fun W hW hI => by
        rw [HK.out, hR]
        exact HO.out.whole m a2 c2 ys ak ck (classF m f r) true true W (by rw [← HK.out]; omega) (by omega) HSL.out.w hslk hW.at_ hI ⟨fun _ => HR.out, fun _ => rfl⟩ ⟨fun _ => ⟨HR.out, class_whole HR.out HPT.out HTL.out hrr⟩, fun _ => rfl⟩
      have HRA : Hid (ra = true ↔ (p : Int) ∈ classF m f r) := by rw [hra]; exact decide_eq_true_iff
      have HRB : Hid (rb = true ↔ (q : Int) ∈ classF m f r) := by rw [hrb]; exact decide_eq_true_iff
      have q1 : (t : Int) < (X : Int) := by omega
      have q2 : (0 : Int) ≤ (t : Int) := by omega
      have HNX : Hid (OneIs m f p q (t + 1) (o || (ra && rb))) := by
        unfold OneIs
        show _ ↔ _
        rw [HST.out, Bool.or_eq_true, Bool.and_eq_true, HRA.out, HRB.out]
        exact ⟨fun h => h.imp ho.out.1 id, fun h => h.imp ho.out.2 id⟩
      have HI1 := hid i1
      have HGd : Hid (GC wr.drew B m a2 K c2 ys) := hgc.out.on (Below.refl _ _).drew
      have HId : Hid (IAt wr.drew ak (classF m f r)) := i1.below (Below.refl _ _).drew
      have HLd : Hid (LLS wr.drew (some ⟨g, off, none⟩) (classesF m f)) := hll.out.below (Below.refl _ _).drew
      have HBd : Hid (Below b0 w wr.drew) := hbw.out.drew
      obtain ⟨g0, g1⟩ := hgc.out.cells
      have HSS : Hid (∀ X, Below wr.drew.heap.size wr.drew X → X.cell? ⟨B, 0, none⟩ = some (.int .i64 m) ∧ X.cell? ⟨B, 1, none⟩ = some (.slice a2 K c2) ∧ X.cell? ⟨g, off + t, none⟩ = some (.slice ak R ck)) := fun X h =>
        ⟨(h.cell (p := ⟨B, 0, none⟩) (block_lt_of_cell g0)).trans g0, (h.cell (p := ⟨B, 1, none⟩) (block_lt_of_cell g1)).trans g1, (h.cell (p := ⟨g, off + t, none⟩) (block_lt_of_cell c1)).trans c1⟩
      have hS := HSS.out wr.drew (Below.refl _ _)
      clear hr hcl i1 hR hra hrb hslk hrr ho HST hll hgc hbw
      cases ra with
      | false =>
        rw [Bool.false_and, Bool.or_false] at HNX
        clear C2 CW
        go_wp2_with fail
        refine (C1.out _ HI1.out).mono ?_
        rintro e w7 ⟨rfl, hw7⟩
        rw [hw7]
        clear hw7
        go_wp2_with fail
        refine wp_region_held_drew (S := (fun X => X.cell? ⟨B, 0, none⟩ = some (.int .i64 m) ∧ X.cell? ⟨B, 1, none⟩ = some (.slice a2 K c2) ∧ X.cell? ⟨g, off + t, none⟩ = some (.slice ak R ck))) (by kernel_rfl) hS (fun hHeld => ?_)
        (refine takeW (i := 0) (dst := some 57) (v := ?_) rfl rfl (by kernel_rfl) (by kernel_rfl) (by kernel_rfl) (fun _ _ _ h => h) (Or.inl ⟨by rfl, ?_⟩) hHeld ?_; rotate_left; focus (intro w hSw; (try dsimp only at hSw); go_simp; (try with_reducible rfl); done))
        try simp only [Act.put, List.setIfInBounds_toArray, List.set_cons_zero, List.set_cons_succ]
        (refine takeW (i := 1) (dst := some 58) (v := ?_) rfl rfl (by kernel_rfl) (by kernel_rfl) (by kernel_rfl) (fun _ _ _ h => h) (Or.inl ⟨by rfl, ?_⟩) hHeld ?_; rotate_left; focus (intro w hSw; (try dsimp only at hSw); go_simp; (try with_reducible rfl); done))
        try simp only [Act.put, List.setIfInBounds_toArray, List.set_cons_zero, List.set_cons_succ]
        (refine takeW (i := 2) (dst := some 59) (v := ?_) rfl rfl (by kernel_rfl) (by kernel_rfl) (by kernel_rfl) (fun _ _ _ h => h) (Or.inl ⟨by rfl, ?_⟩) hHeld ?_; rotate_left; focus (intro w hSw; (try dsimp only at hSw); go_simp; (try with_reducible rfl); done))
        try simp only [Act.put, List.setIfInBounds_toArray, List.set_cons_zero, List.set_cons_succ]
        (refine takeW (i := 3) (dst := some 60) (v := ?_) rfl rfl (by kernel_rfl) (by kernel_rfl) (by kernel_rfl) (fun _ _ _ h => h) (Or.inl ⟨by rfl, ?_⟩) hHeld ?_; rotate_left; focus (intro w hSw; (try dsimp only at hSw); go_simp; (try with_reducible rfl); done))
        try simp only [Act.put, List.setIfInBounds_toArray, List.set_cons_zero, List.set_cons_succ]
        (refine takeW (i := 4) (dst := some 61) (v := ?_) rfl rfl (by kernel_rfl) (by kernel_rfl) (by kernel_rfl) (fun _ _ _ h => h) (Or.inl ⟨by rfl, ?_⟩) hHeld ?_; rotate_left; focus (intro w hSw; (try dsimp only at hSw); go_simp; (try with_reducible rfl); done))
        try simp only [Act.put, List.setIfInBounds_toArray, List.set_cons_zero, List.set_cons_succ]
        refine wpAnyH_ready (rs := [5]) (by kernel_rfl) (by simp) ?_
        refine AllReadyH.cons (o := _) rfl (fun KK hK => ?_) AllReadyH.nil
        go_simp
        refine (C1.out _ HId.out).mono ?_
        rintro e y1 ⟨rfl, hy1⟩
        subst hy1
        refine hK.out _ _ hHeld (fun hHeld => ?_)
        clear hK KK
        try simp only [Act.put, List.setIfInBounds_toArray, List.set_cons_zero, List.set_cons_succ]
        (refine takeW (i := 6) (dst := some 63) (v := ?_) rfl rfl (by kernel_rfl) (by kernel_rfl) (by kernel_rfl) (fun _ _ _ h => h) (Or.inl ⟨by rfl, ?_⟩) hHeld ?_; rotate_left; focus (intro w hSw; (try dsimp only at hSw); go_simp; (try with_reducible rfl); done))
        try simp only [Act.put, List.setIfInBounds_toArray, List.set_cons_zero, List.set_cons_succ]
        first | refine takeW (i := 7) (dst := some 64) (v := undef) rfl rfl (by kernel_rfl) (by kernel_rfl) (by kernel_rfl) (fun _ _ _ h => h) (Or.inr ⟨by rfl, rfl⟩) hHeld ?_ | (refine takeW (i := 7) (dst := some 64) (v := ?_) rfl rfl (by kernel_rfl) (by kernel_rfl) (by kernel_rfl) (fun _ _ _ h => h) (Or.inl ⟨by rfl, ?_⟩) hHeld ?_; rotate_left; focus (intro w hSw; (try dsimp only at hSw); go_simp; (try with_reducible rfl); done))
        try simp only [Act.put, List.setIfInBounds_toArray, List.set_cons_zero, List.set_cons_succ]
        first | refine takeW (i := 8) (dst := some 65) (v := undef) rfl rfl (by kernel_rfl) (by kernel_rfl) (by kernel_rfl) (fun _ _ _ h => h) (Or.inr ⟨by rfl, rfl⟩) hHeld ?_ | (refine takeW (i := 8) (dst := some 65) (v := ?_) rfl rfl (by kernel_rfl) (by kernel_rfl) (by kernel_rfl) (fun _ _ _ h => h) (Or.inl ⟨by rfl, ?_⟩) hHeld ?_; rotate_left; focus (intro w hSw; (try dsimp only at hSw); go_simp; (try with_reducible rfl); done))
        try simp only [Act.put, List.setIfInBounds_toArray, List.set_cons_zero, List.set_cons_succ]
        first | refine takeW (i := 9) (dst := some 66) (v := undef) rfl rfl (by kernel_rfl) (by kernel_rfl) (by kernel_rfl) (fun _ _ _ h => h) (Or.inr ⟨by rfl, rfl⟩) hHeld ?_ | (refine takeW (i := 9) (dst := some 66) (v := ?_) rfl rfl (by kernel_rfl) (by kernel_rfl) (by kernel_rfl) (fun _ _ _ h => h) (Or.inl ⟨by rfl, ?_⟩) hHeld ?_; rotate_left; focus (intro w hSw; (try dsimp only at hSw); go_simp; (try with_reducible rfl); done))
        try simp only [Act.put, List.setIfInBounds_toArray, List.set_cons_zero, List.set_cons_succ]
        first | refine takeW (i := 10) (dst := some 67) (v := undef) rfl rfl (by kernel_rfl) (by kernel_rfl) (by kernel_rfl) (fun _ _ _ h => h) (Or.inr ⟨by rfl, rfl⟩) hHeld ?_ | (refine takeW (i := 10) (dst := some 67) (v := ?_) rfl rfl (by kernel_rfl) (by kernel_rfl) (by kernel_rfl) (fun _ _ _ h => h) (Or.inl ⟨by rfl, ?_⟩) hHeld ?_; rotate_left; focus (intro w hSw; (try dsimp only at hSw); go_simp; (try with_reducible rfl); done))
        try simp only [Act.put, List.setIfInBounds_toArray, List.set_cons_zero, List.set_cons_succ]
        first | refine takeW (i := 11) (dst := some 68) (v := undef) rfl rfl (by kernel_rfl) (by kernel_rfl) (by kernel_rfl) (fun _ _ _ h => h) (Or.inr ⟨by rfl, rfl⟩) hHeld ?_ | (refine takeW (i := 11) (dst := some 68) (v := ?_) rfl rfl (by kernel_rfl) (by kernel_rfl) (by kernel_rfl) (fun _ _ _ h => h) (Or.inl ⟨by rfl, ?_⟩) hHeld ?_; rotate_left; focus (intro w hSw; (try dsimp only at hSw); go_simp; (try with_reducible rfl); done))
        try simp only [Act.put, List.setIfInBounds_toArray, List.set_cons_zero, List.set_cons_succ]
        first | refine takeW (i := 12) (dst := some 69) (v := undef) rfl rfl (by kernel_rfl) (by kernel_rfl) (by kernel_rfl) (fun _ _ _ h => h) (Or.inr ⟨by rfl, rfl⟩) hHeld ?_ | (refine takeW (i := 12) (dst := some 69) (v := ?_) rfl rfl (by kernel_rfl) (by kernel_rfl) (by kernel_rfl) (fun _ _ _ h => h) (Or.inl ⟨by rfl, ?_⟩) hHeld ?_; rotate_left; focus (intro w hSw; (try dsimp only at hSw); go_simp; (try with_reducible rfl); done))
        try simp only [Act.put, List.setIfInBounds_toArray, List.set_cons_zero, List.set_cons_succ]
        first | refine takeW (i := 13) (dst := some 70) (v := undef) rfl rfl (by kernel_rfl) (by kernel_rfl) (by kernel_rfl) (fun _ _ _ h => h) (Or.inr ⟨by rfl, rfl⟩) hHeld ?_ | (refine takeW (i := 13) (dst := some 70) (v := ?_) rfl rfl (by kernel_rfl) (by kernel_rfl) (by kernel_rfl) (fun _ _ _ h => h) (Or.inl ⟨by rfl, ?_⟩) hHeld ?_; rotate_left; focus (intro w hSw; (try dsimp only at hSw); go_simp; (try with_reducible rfl); done))
        try simp only [Act.put, List.setIfInBounds_toArray, List.set_cons_zero, List.set_cons_succ]
        (refine takeW (i := 14) (dst := some 71) (v := ?_) rfl rfl (by kernel_rfl) (by kernel_rfl) (by kernel_rfl) (fun _ _ _ h => h) (Or.inl ⟨by rfl, ?_⟩) hHeld ?_; rotate_left; focus (intro w hSw; (try dsimp only at hSw); go_simp; (try with_reducible rfl); done))
        try simp only [Act.put, List.setIfInBounds_toArray, List.set_cons_zero, List.set_cons_succ]
        refine wpAnyH_done (by kernel_rfl) ?_ _
        clear hHeld hS HSS
        go_wp2
        go_roundg (X - (t + 1))
        case measure => omega
        case rel => exact ⟨t + 1, o, by omega, Nat.le_refl _, rfl, by go_num, HNX, HLd, HGd, HBd⟩
      | true =>
        rw [Bool.true_and] at HNX
        cases rb with
        | false =>
          rw [Bool.or_false] at HNX
          go_wp2_with fail
          refine (C1.out _ HI1.out).mono ?_
          rintro e w7 ⟨rfl, hw7⟩
          rw [hw7]
          clear hw7
          go_wp2_with fail
          refine (C2.out _ HI1.out).mono ?_
          rintro e w7 ⟨rfl, hw7⟩
          rw [hw7]
          clear hw7
          go_wp2_with fail
          refine wp_region_held_drew (S := (fun X => X.cell? ⟨B, 0, none⟩ = some (.int .i64 m) ∧ X.cell? ⟨B, 1, none⟩ = some (.slice a2 K c2) ∧ X.cell? ⟨g, off + t, none⟩ = some (.slice ak R ck))) (by kernel_rfl) hS (fun hHeld => ?_)
          (refine takeW (i := 0) (dst := some 57) (v := ?_) rfl rfl (by kernel_rfl) (by kernel_rfl) (by kernel_rfl) (fun _ _ _ h => h) (Or.inl ⟨by rfl, ?_⟩) hHeld ?_; rotate_left; focus (intro w hSw; (try dsimp only at hSw); go_simp; (try with_reducible rfl); done))
          try simp only [Act.put, List.setIfInBounds_toArray, List.set_cons_zero, List.set_cons_succ]
          (refine takeW (i := 1) (dst := some 58) (v := ?_) rfl rfl (by kernel_rfl) (by kernel_rfl) (by kernel_rfl) (fun _ _ _ h => h) (Or.inl ⟨by rfl, ?_⟩) hHeld ?_; rotate_left; focus (intro w hSw; (try dsimp only at hSw); go_simp; (try with_reducible rfl); done))
          try simp only [Act.put, List.setIfInBounds_toArray, List.set_cons_zero, List.set_cons_succ]
          (refine takeW (i := 2) (dst := some 59) (v := ?_) rfl rfl (by kernel_rfl) (by kernel_rfl) (by kernel_rfl) (fun _ _ _ h => h) (Or.inl ⟨by rfl, ?_⟩) hHeld ?_; rotate_left; focus (intro w hSw; (try dsimp only at hSw); go_simp; (try with_reducible rfl); done))
          try simp only [Act.put, List.setIfInBounds_toArray, List.set_cons_zero, List.set_cons_succ]
          (refine takeW (i := 3) (dst := some 60) (v := ?_) rfl rfl (by kernel_rfl) (by kernel_rfl) (by kernel_rfl) (fun _ _ _ h => h) (Or.inl ⟨by rfl, ?_⟩) hHeld ?_; rotate_left; focus (intro w hSw; (try dsimp only at hSw); go_simp; (try with_reducible rfl); done))
          try simp only [Act.put, List.setIfInBounds_toArray, List.set_cons_zero, List.set_cons_succ]
          (refine takeW (i := 4) (dst := some 61) (v := ?_) rfl rfl (by kernel_rfl) (by kernel_rfl) (by kernel_rfl) (fun _ _ _ h => h) (Or.inl ⟨by rfl, ?_⟩) hHeld ?_; rotate_left; focus (intro w hSw; (try dsimp only at hSw); go_simp; (try with_reducible rfl); done))
          try simp only [Act.put, List.setIfInBounds_toArray, List.set_cons_zero, List.set_cons_succ]
          refine wpAnyH_ready (rs := [5]) (by kernel_rfl) (by simp) ?_
          refine AllReadyH.cons (o := _) rfl (fun KK hK => ?_) AllReadyH.nil
          go_simp
          refine (C1.out _ HId.out).mono ?_
          rintro e y1 ⟨rfl, hy1⟩
          subst hy1
          refine hK.out _ _ hHeld (fun hHeld => ?_)
          clear hK KK
          try simp only [Act.put, List.setIfInBounds_toArray, List.set_cons_zero, List.set_cons_succ]
          (refine takeW (i := 6) (dst := some 63) (v := ?_) rfl rfl (by kernel_rfl) (by kernel_rfl) (by kernel_rfl) (fun _ _ _ h => h) (Or.inl ⟨by rfl, ?_⟩) hHeld ?_; rotate_left; focus (intro w hSw; (try dsimp only at hSw); go_simp; (try with_reducible rfl); done))
          try simp only [Act.put, List.setIfInBounds_toArray, List.set_cons_zero, List.set_cons_succ]
          first | refine takeW (i := 7) (dst := some 64) (v := undef) rfl rfl (by kernel_rfl) (by kernel_rfl) (by kernel_rfl) (fun _ _ _ h => h) (Or.inr ⟨by rfl, rfl⟩) hHeld ?_ | (refine takeW (i := 7) (dst := some 64) (v := ?_) rfl rfl (by kernel_rfl) (by kernel_rfl) (by kernel_rfl) (fun _ _ _ h => h) (Or.inl ⟨by rfl, ?_⟩) hHeld ?_; rotate_left; focus (intro w hSw; (try dsimp only at hSw); go_simp; (try with_reducible rfl); done))
          try simp only [Act.put, List.setIfInBounds_toArray, List.set_cons_zero, List.set_cons_succ]
          first | refine takeW (i := 8) (dst := some 65) (v := undef) rfl rfl (by kernel_rfl) (by kernel_rfl) (by kernel_rfl) (fun _ _ _ h => h) (Or.inr ⟨by rfl, rfl⟩) hHeld ?_ | (refine takeW (i := 8) (dst := some 65) (v := ?_) rfl rfl (by kernel_rfl) (by kernel_rfl) (by kernel_rfl) (fun _ _ _ h => h) (Or.inl ⟨by rfl, ?_⟩) hHeld ?_; rotate_left; focus (intro w hSw; (try dsimp only at hSw); go_simp; (try with_reducible rfl); done))
          try simp only [Act.put, List.setIfInBounds_toArray, List.set_cons_zero, List.set_cons_succ]
          first | refine takeW (i := 9) (dst := some 66) (v := undef) rfl rfl (by kernel_rfl) (by kernel_rfl) (by kernel_rfl) (fun _ _ _ h => h) (Or.inr ⟨by rfl, rfl⟩) hHeld ?_ | (refine takeW (i := 9) (dst := some 66) (v := ?_) rfl rfl (by kernel_rfl) (by kernel_rfl) (by kernel_rfl) (fun _ _ _ h => h) (Or.inl ⟨by rfl, ?_⟩) hHeld ?_; rotate_left; focus (intro w hSw; (try dsimp only at hSw); go_simp; (try with_reducible rfl); done))
          try simp only [Act.put, List.setIfInBounds_toArray, List.set_cons_zero, List.set_cons_succ]
          first | refine takeW (i := 10) (dst := some 67) (v := undef) rfl rfl (by kernel_rfl) (by kernel_rfl) (by kernel_rfl) (fun _ _ _ h => h) (Or.inr ⟨by rfl, rfl⟩) hHeld ?_ | (refine takeW (i := 10) (dst := some 67) (v := ?_) rfl rfl (by kernel_rfl) (by kernel_rfl) (by kernel_rfl) (fun _ _ _ h => h) (Or.inl ⟨by rfl, ?_⟩) hHeld ?_; rotate_left; focus (intro w hSw; (try dsimp only at hSw); go_simp; (try with_reducible rfl); done))
          try simp only [Act.put, List.setIfInBounds_toArray, List.set_cons_zero, List.set_cons_succ]
          first | refine takeW (i := 11) (dst := some 68) (v := undef) rfl rfl (by kernel_rfl) (by kernel_rfl) (by kernel_rfl) (fun _ _ _ h => h) (Or.inr ⟨by rfl, rfl⟩) hHeld ?_ | (refine takeW (i := 11) (dst := some 68) (v := ?_) rfl rfl (by kernel_rfl) (by kernel_rfl) (by kernel_rfl) (fun _ _ _ h => h) (Or.inl ⟨by rfl, ?_⟩) hHeld ?_; rotate_left; focus (intro w hSw; (try dsimp only at hSw); go_simp; (try with_reducible rfl); done))
          try simp only [Act.put, List.setIfInBounds_toArray, List.set_cons_zero, List.set_cons_succ]
          refine wpAnyH_ready (rs := [12]) (by kernel_rfl) (by simp) ?_
          refine AllReadyH.cons (o := _) rfl (fun KK hK => ?_) AllReadyH.nil
          go_simp
          refine (CW.out _ HGd.out HId.out).mono ?_
          rintro e y2 ⟨rfl, hb⟩
          have HG2 := hid (HGd.out.on hb)
          have HL2 := hid (HLd.out.below hb)
          have HB2 : Hid (Below b0 w y2) := HBd.out.trans (hb.mono (Nat.le_trans h00 HBd.out.size))
          have hS2 := HSS.out y2 hb
          clear hb HGd HId HLd HBd
          refine hK.out _ _ hS2 (fun hHeld => ?_)
          clear hK KK
          try simp only [Act.put, List.setIfInBounds_toArray, List.set_cons_zero, List.set_cons_succ]
          first | refine takeW (i := 13) (dst := some 70) (v := undef) rfl rfl (by kernel_rfl) (by kernel_rfl) (by kernel_rfl) (fun _ _ _ h => h) (Or.inr ⟨by rfl, rfl⟩) hHeld ?_ | (refine takeW (i := 13) (dst := some 70) (v := ?_) rfl rfl (by kernel_rfl) (by kernel_rfl) (by kernel_rfl) (fun _ _ _ h => h) (Or.inl ⟨by rfl, ?_⟩) hHeld ?_; rotate_left; focus (intro w hSw; (try dsimp only at hSw); go_simp; (try with_reducible rfl); done))
          try simp only [Act.put, List.setIfInBounds_toArray, List.set_cons_zero, List.set_cons_succ]
          (refine takeW (i := 14) (dst := some 71) (v := ?_) rfl rfl (by kernel_rfl) (by kernel_rfl) (by kernel_rfl) (fun _ _ _ h => h) (Or.inl ⟨by rfl, ?_⟩) hHeld ?_; rotate_left; focus (intro w hSw; (try dsimp only at hSw); go_simp; (try with_reducible rfl); done))
          try simp only [Act.put, List.setIfInBounds_toArray, List.set_cons_zero, List.set_cons_succ]
          refine wpAnyH_done (by kernel_rfl) ?_ _
          clear hHeld hS HSS hS2
          go_wp2
          go_roundg (X - (t + 1))
          case measure => omega
          case rel => exact ⟨t + 1, o, by omega, Nat.le_refl _, rfl, by go_num, HNX, HL2, HG2, HB2⟩
        | true =>
          rw [Bool.or_true] at HNX
          go_wp2_with fail
          refine (C1.out _ HI1.out).mono ?_
          rintro e w7 ⟨rfl, hw7⟩
          rw [hw7]
          clear hw7
          go_wp2_with fail
          refine (C2.out _ HI1.out).mono ?_
          rintro e w7 ⟨rfl, hw7⟩
          rw [hw7]
          clear hw7
          go_wp2_with fail
          refine wp_region_held_drew (S := (fun X => X.cell? ⟨B, 0, none⟩ = some (.int .i64 m) ∧ X.cell? ⟨B, 1, none⟩ = some (.slice a2 K c2) ∧ X.cell? ⟨g, off + t, none⟩ = some (.slice ak R ck))) (by kernel_rfl) hS (fun hHeld => ?_)
          (refine takeW (i := 0) (dst := some 57) (v := ?_) rfl rfl (by kernel_rfl) (by kernel_rfl) (by kernel_rfl) (fun _ _ _ h => h) (Or.inl ⟨by rfl, ?_⟩) hHeld ?_; rotate_left; focus (intro w hSw; (try dsimp only at hSw); go_simp; (try with_reducible rfl); done))
          try simp only [Act.put, List.setIfInBounds_toArray, List.set_cons_zero, List.set_cons_succ]
          (refine takeW (i := 1) (dst := some 58) (v := ?_) rfl rfl (by kernel_rfl) (by kernel_rfl) (by kernel_rfl) (fun _ _ _ h => h) (Or.inl ⟨by rfl, ?_⟩) hHeld ?_; rotate_left; focus (intro w hSw; (try dsimp only at hSw); go_simp; (try with_reducible rfl); done))
          try simp only [Act.put, List.setIfInBounds_toArray, List.set_cons_zero, List.set_cons_succ]
          (refine takeW (i := 2) (dst := some 59) (v := ?_) rfl rfl (by kernel_rfl) (by kernel_rfl) (by kernel_rfl) (fun _ _ _ h => h) (Or.inl ⟨by rfl, ?_⟩) hHeld ?_; rotate_left; focus (intro w hSw; (try dsimp only at hSw); go_simp; (try with_reducible rfl); done))
          try simp only [Act.put, List.setIfInBounds_toArray, List.set_cons_zero, List.set_cons_succ]
          (refine takeW (i := 3) (dst := some 60) (v := ?_) rfl rfl (by kernel_rfl) (by kernel_rfl) (by kernel_rfl) (fun _ _ _ h => h) (Or.inl ⟨by rfl, ?_⟩) hHeld ?_; rotate_left; focus (intro w hSw; (try dsimp only at hSw); go_simp; (try with_reducible rfl); done))
          try simp only [Act.put, List.setIfInBounds_toArray, List.set_cons_zero, List.set_cons_succ]
          (refine takeW (i := 4) (dst := some 61) (v := ?_) rfl rfl (by kernel_rfl) (by kernel_rfl) (by kernel_rfl) (fun _ _ _ h => h) (Or.inl ⟨by rfl, ?_⟩) hHeld ?_; rotate_left; focus (intro w hSw; (try dsimp only at hSw); go_simp; (try with_reducible rfl); done))
          try simp only [Act.put, List.setIfInBounds_toArray, List.set_cons_zero, List.set_cons_succ]
          refine wpAnyH_ready (rs := [5]) (by kernel_rfl) (by simp) ?_
          refine AllReadyH.cons (o := _) rfl (fun KK hK => ?_) AllReadyH.nil
          go_simp
          refine (C1.out _ HId.out).mono ?_
          rintro e y1 ⟨rfl, hy1⟩
          subst hy1
          refine hK.out _ _ hHeld (fun hHeld => ?_)
          clear hK KK
          try simp only [Act.put, List.setIfInBounds_toArray, List.set_cons_zero, List.set_cons_succ]
          (refine takeW (i := 6) (dst := some 63) (v := ?_) rfl rfl (by kernel_rfl) (by kernel_rfl) (by kernel_rfl) (fun _ _ _ h => h) (Or.inl ⟨by rfl, ?_⟩) hHeld ?_; rotate_left; focus (intro w hSw; (try dsimp only at hSw); go_simp; (try with_reducible rfl); done))
          try simp only [Act.put, List.setIfInBounds_toArray, List.set_cons_zero, List.set_cons_succ]
          first | refine takeW (i := 7) (dst := some 64) (v := undef) rfl rfl (by kernel_rfl) (by kernel_rfl) (by kernel_rfl) (fun _ _ _ h => h) (Or.inr ⟨by rfl, rfl⟩) hHeld ?_ | (refine takeW (i := 7) (dst := some 64) (v := ?_) rfl rfl (by kernel_rfl) (by kernel_rfl) (by kernel_rfl) (fun _ _ _ h => h) (Or.inl ⟨by rfl, ?_⟩) hHeld ?_; rotate_left; focus (intro w hSw; (try dsimp only at hSw); go_simp; (try with_reducible rfl); done))
          try simp only [Act.put, List.setIfInBounds_toArray, List.set_cons_zero, List.set_cons_succ]
          first | refine takeW (i := 8) (dst := some 65) (v := undef) rfl rfl (by kernel_rfl) (by kernel_rfl) (by kernel_rfl) (fun _ _ _ h => h) (Or.inr ⟨by rfl, rfl⟩) hHeld ?_ | (refine takeW (i := 8) (dst := some 65) (v := ?_) rfl rfl (by kernel_rfl) (by kernel_rfl) (by kernel_rfl) (fun _ _ _ h => h) (Or.inl ⟨by rfl, ?_⟩) hHeld ?_; rotate_left; focus (intro w hSw; (try dsimp only at hSw); go_simp; (try with_reducible rfl); done))
          try simp only [Act.put, List.setIfInBounds_toArray, List.set_cons_zero, List.set_cons_succ]
          first | refine takeW (i := 9) (dst := some 66) (v := undef) rfl rfl (by kernel_rfl) (by kernel_rfl) (by kernel_rfl) (fun _ _ _ h => h) (Or.inr ⟨by rfl, rfl⟩) hHeld ?_ | (refine takeW (i := 9) (dst := some 66) (v := ?_) rfl rfl (by kernel_rfl) (by kernel_rfl) (by kernel_rfl) (fun _ _ _ h => h) (Or.inl ⟨by rfl, ?_⟩) hHeld ?_; rotate_left; focus (intro w hSw; (try dsimp only at hSw); go_simp; (try with_reducible rfl); done))
          try simp only [Act.put, List.setIfInBounds_toArray, List.set_cons_zero, List.set_cons_succ]
          first | refine takeW (i := 10) (dst := some 67) (v := undef) rfl rfl (by kernel_rfl) (by kernel_rfl) (by kernel_rfl) (fun _ _ _ h => h) (Or.inr ⟨by rfl, rfl⟩) hHeld ?_ | (refine takeW (i := 10) (dst := some 67) (v := ?_) rfl rfl (by kernel_rfl) (by kernel_rfl) (by kernel_rfl) (fun _ _ _ h => h) (Or.inl ⟨by rfl, ?_⟩) hHeld ?_; rotate_left; focus (intro w hSw; (try dsimp only at hSw); go_simp; (try with_reducible rfl); done))
          try simp only [Act.put, List.setIfInBounds_toArray, List.set_cons_zero, List.set_cons_succ]
          first | refine takeW (i := 11) (dst := some 68) (v := undef) rfl rfl (by kernel_rfl) (by kernel_rfl) (by kernel_rfl) (fun _ _ _ h => h) (Or.inr ⟨by rfl, rfl⟩) hHeld ?_ | (refine takeW (i := 11) (dst := some 68) (v := ?_) rfl rfl (by kernel_rfl) (by kernel_rfl) (by kernel_rfl) (fun _ _ _ h => h) (Or.inl ⟨by rfl, ?_⟩) hHeld ?_; rotate_left; focus (intro w hSw; (try dsimp only at hSw); go_simp; (try with_reducible rfl); done))
          try simp only [Act.put, List.setIfInBounds_toArray, List.set_cons_zero, List.set_cons_succ]
          refine wpAnyH_ready (rs := [12]) (by kernel_rfl) (by simp) ?_
          refine AllReadyH.cons (o := _) rfl (fun KK hK => ?_) AllReadyH.nil
          go_simp
          refine (CW.out _ HGd.out HId.out).mono ?_
          rintro e y2 ⟨rfl, hb⟩
          have HG2 := hid (HGd.out.on hb)
          have HL2 := hid (HLd.out.below hb)
          have HB2 : Hid (Below b0 w y2) := HBd.out.trans (hb.mono (Nat.le_trans h00 HBd.out.size))
          have hS2 := HSS.out y2 hb
          clear hb HGd HId HLd HBd
          refine hK.out _ _ hS2 (fun hHeld => ?_)
          clear hK KK
          try simp only [Act.put, List.setIfInBounds_toArray, List.set_cons_zero, List.set_cons_succ]
          first | refine takeW (i := 13) (dst := some 70) (v := undef) rfl rfl (by kernel_rfl) (by kernel_rfl) (by kernel_rfl) (fun _ _ _ h => h) (Or.inr ⟨by rfl, rfl⟩) hHeld ?_ | (refine takeW (i := 13) (dst := some 70) (v := ?_) rfl rfl (by kernel_rfl) (by kernel_rfl) (by kernel_rfl) (fun _ _ _ h => h) (Or.inl ⟨by rfl, ?_⟩) hHeld ?_; rotate_left; focus (intro w hSw; (try dsimp only at hSw); go_simp; (try with_reducible rfl); done))
          try simp only [Act.put, List.setIfInBounds_toArray, List.set_cons_zero, List.set_cons_succ]
          (refine takeW (i := 14) (dst := some 71) (v := ?_) rfl rfl (by kernel_rfl) (by kernel_rfl) (by kernel_rfl) (fun _ _ _ h => h) (Or.inl ⟨by rfl, ?_⟩) hHeld ?_; rotate_left; focus (intro w hSw; (try dsimp only at hSw); go_simp; (try with_reducible rfl); done))
          try simp only [Act.put, List.setIfInBounds_toArray, List.set_cons_zero, List.set_cons_succ]
          refine wpAnyH_done (by kernel_rfl) ?_ _
          clear hHeld hS HSS hS2
          go_wp2
          go_roundg (X - (t + 1))
          case measure => omega
          case rel => exact ⟨t + 1, true, by omega, Nat.le_refl _, rfl, by go_num, HNX, HL2, HG2, HB2⟩
    · obtain rfl : t = X := by omega
      have hoo : o = true ↔ f p = f q := by
        constructor
        · intro e
          obtain ⟨j, h, _, h1, h2⟩ := ho.out.1 e
          rw [h1, h2]
        · intro e
          obtain ⟨j, h, _, h1, h2⟩ := (one_all HPT.out (q := q) hpm).2 e
          exact ho.out.2 ⟨j, h, by rw [← HXL.out]; exact h, h1, h2⟩
      obtain ⟨g0, g1⟩ := hgc.out.cells
      have C1 := hid (HO.out.route m a2 c2 ys p q (some ⟨wr.heap.size, 0, none⟩) 2 [-1, (m : Int)] true (wr.alloc (.cells #[.int .i64 (-1), .int .i64 m] 3)) (by rw [← HK.out]; omega) (by simp) HSL.out.w (sl_some (by simp)).w (hgc.out.on (below_new _ _)).at_ (iat_new wr _ _ _ rfl) ⟨fun _ => HR.out, fun _ => rfl⟩)
      rw [← HK.out] at C1
      have HOO := hid hoo
      have HG := hgc
      have HBW := hbw
      clear ho hoo hll hgc hbw
      go_wp2_with fail
      refine C1.out.mono ?_
      rintro e w6 ⟨v6, rfl, a6, c6, L, rfl, hRG, hsl6, hI6, hb6⟩
      have hb6' : Below wr.heap.size wr w6 := (below_new _ _).trans (hb6.mono (by simp))
      have hRI : RouteIs m ys p q [-1, (m : Int)] L := by
        rcases hRG with h | h
        · exact h.2
        · exact absurd HR.out h.1
      obtain ⟨z1, z2, z3⟩ := route_meets HR.out HTL.out hpm hqm (fun z h1 h2 h3 => by simp at h3; omega) hRI
      obtain ⟨Q, hQ⟩ := ex_eq L.length
      rw [← hQ] at z1 z2 z3 ⊢
      have HG6 := hid (HG.out.on hb6')
      have HB6 : Hid (Below b0 w w6) := HBW.out.trans (hb6'.mono (Nat.le_trans h00 HBW.out.size))
      obtain ⟨d, hd⟩ := ex_eq (decide ((q : Int) ∈ nbL (p : Int) ys))
      have hdd : d = true ↔ Adj ys (p : Int) (q : Int) := by
        rw [hd, decide_eq_true_iff]; exact nbL_right HR.out
      have CH : Hid (Calls Try.prog 30 #[.agg #[.int .i64 m, .slice a2 K c2], .int .i64 p, .int .i64 q] w6 fun e w' => e = .returned (.bool d) ∧ Below w6.heap.size w6 w') := by
        show Calls _ _ _ _ _
        rw [hd, HK.out]; exact has_any m a2 c2 ys p q true (nbL (p : Int) ys) w6 (by rw [← HK.out]; omega) HG6.out.at_ ⟨fun _ => HR.out, fun _ => rfl⟩ (by rw [if_pos rfl])
      have e1 : (decide ((0 : Int) < (Q : Int)) == o) = true := by
        have : 0 < Q ↔ o = true := z1.trans HOO.out.symm
        cases o with
        | true => rw [decide_eq_true (by have := this.2 rfl; omega)]; rfl
        | false => rw [decide_eq_false (fun h => by have := this.1 (by omega); cases this)]; rfl
      have e1b : (decide (0 < Q) == o) = true := by
        have h : decide (0 < Q) = decide ((0 : Int) < (Q : Int)) := decide_eq_decide.2 (by omega)
        rw [h]; exact e1
      have e2 : (((Q : Int) == 2) == d) = true := by
        have : Q = 2 ↔ d = true := z2.trans hdd.symm
        cases d with
        | true => rw [show Q = 2 from this.2 rfl]; rfl
        | false =>
          have h2 : ((Q : Int) == 2) = false := beq_eq_false_iff_ne.2 (fun h => by have := this.1 (by omega); cases this)
          rw [h2]; rfl
      have e3 : (((Q : Int) == 1) == ((p : Int) == (q : Int))) = true := by
        by_cases h : p = q
        · rw [z3.2 h, h]; simp
        · have h1 : ((Q : Int) == 1) = false := beq_eq_false_iff_ne.2 (fun e => h (z3.1 (by omega)))
          have h2 : ((p : Int) == (q : Int)) = false := beq_eq_false_iff_ne.2 (fun e => h (by omega))
          rw [h1, h2]; rfl
      obtain ⟨h6a, h6b⟩ := HG6.out.cells
      clear hRG hsl6 hI6 hb6 hb6' hRI z1 z2 z3 hQ hd hdd HOO HG HBW C1 g0 g1
      go_wp2_with fail
      refine CH.out.mono ?_
      rintro e w7 ⟨rfl, hb7⟩
      have HB7 : Hid (Below b0 w w7) := HB6.out.trans (hb7.mono (Nat.le_trans h00 HB6.out.size))
      clear hb7 CH
      go_wp2
      go_ret
      exact ⟨rfl, by rw [← HB0.out]; exact HB7.out⟩
end Go.Proofs.Ytccbheijfnodjaa
