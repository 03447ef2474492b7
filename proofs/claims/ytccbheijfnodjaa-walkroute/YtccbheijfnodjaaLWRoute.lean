/-
  carcanetlaw05.WalkRoute answers true, for any walks that keep the contracts.
-/
import Derived.Test.YtccbheijfnodjaaLWShort
namespace Go.Proofs.Ytccbheijfnodjaa
open Go.RowKit Go.Lib

theorem route_len {n : Int} {es : List (Int × Int)} {a b : Int} {away L : List Int} (h : RouteG n es a b away L) : L.length ≤ 1000 := by
  rcases h with ⟨hR, h⟩ | ⟨_, rfl⟩
  · by_cases h0 : 0 < L.length
    · have hW := h.way h0
      have hn := hR.2.1
      have h1 := len_le_subI (a := L) (b := (List.range 1000).map (fun i : Nat => (i : Int))) hW.path.nd (fun z hz => by
        have := hW.path.inn z hz
        exact List.mem_map.2 ⟨z.toNat, by simp; omega, by omega⟩)
      simpa using h1
    · omega
  · simp

set_option maxHeartbeats 4000000 in
set_option maxRecDepth 100000 in
theorem walkRoute_law (O : WalkOps)
    (RR : ∀ (n : Int) (a : Option Addr) (cap : Nat) (es : List (Int × Int)) (x y : Int) (ca : Option Addr) (cc : Nat) (away : List Int) (b : Bool) (w : World), es.length ≤ 1000000 → away.length ≤ 1000000 → EAt w a es → IAt w ca away → (b = true ↔ RightG n es) →
      Calls Try.prog 21 #[.agg #[.int .i64 n, .slice a es.length cap], .int .i64 x, .int .i64 y, .slice ca away.length cc] w fun e w' => ∃ v, e = .returned v ∧ RouteTold n es x y away w w' v)
    (n : Int) (a : Option Addr) (len cap : Nat) (l : List (Int × Int)) (k0 k1 : Int) (qa : Option Addr) (qlen qc : Nat) (q : List Int) (w : World) (hl : len = l.length) (hE : EAt w a l)
    (hql : qlen = q.length) (hqc : qlen ≤ qc) (hqm : qc ≤ maxLen) (hqa : qa = none → qc = 0) (hq : IAt w qa q) :
    Calls Try.prog 4 #[.agg #[.int .i64 n, .slice a len cap], .agg #[.int .i64 k0, .int .i64 k1], .slice qa qlen qc] w fun e w' => e = .returned (.bool true) ∧ Below w.heap.size w w' := by
  have HO := hid O
  obtain ⟨M2, hM2⟩ := ex_eq (min qlen 30)
  obtain ⟨Bs, hBs⟩ := ex_eq (q.take M2)
  have hBl : Bs.length = M2 := by rw [hBs, List.length_take]; omega
  have HM2 : Hid (M2 = Bs.length) := hBl.symm
  have j5 : M2 ≤ 30 := by omega
  have jmin : min (qlen : Int) 30 = (M2 : Int) := by omega
  have jc : (M2 : Int) ≤ (qc : Int) := by omega
  have j0 : (0 : Int) ≤ (M2 : Int) := by omega
  have j9 : (M2 : Int) ≤ (qlen : Int) := by omega
  have HSQ : Hid (Slw qa qc M2) := ⟨by omega, hqa⟩
  have HIQ : Hid (∀ X, Below w.heap.size w X → IAt X qa Bs) := fun X h => by rw [hBs]; exact iat_take (hq.below h) M2
  obtain ⟨W0, hW0, hs0, o1, o2, hB0⟩ := new_two' w (.cells #[.int .i64 n, .slice a len cap] 28) (.cells #[.int .i64 k0, .int .i64 k1] 29)
  have HO1 := hid o1
  have HO2 := hid o2
  have HEX : Hid (∀ X, Below w.heap.size w X → EAt X a l) := fun X h => hE.below h
  have HL := hid hl
  have HW0 := hid hW0
  have HB0 := hid hB0
  have HRR := hid RR
  clear O RR hl hE hql hq hBs hBl hM2 hW0 hB0 o1 o2
  go_enter Try.func4, Try.ntmps4
  go_wp2_with fail
  rw [← HW0.out]
  refine (wshown_any HO.out _).mono ?_
  rintro e w1 ⟨rfl, hb1⟩
  have hbw1 : Below w.heap.size w w1 := HB0.out.trans (hb1.mono (by omega))
  have o1 := (hb1.block w.heap.size (by omega)).trans HO1.out
  have HE1 : Hid (w1.heap[w.heap.size + 1]? = some (.cells #[.int .i64 k0, .int .i64 k1] 29)) := (hb1.block (w.heap.size + 1) (by omega)).trans HO2.out
  have hs1 : w.heap.size + 2 ≤ w1.heap.size := by have := hb1.size; omega
  obtain ⟨x0, x1⟩ := two_cells o1
  have CA := hid (net_any n a len cap l 15 w1 (by omega) HL.out (HEX.out w1 hbw1))
  have HB1 := hid hbw1
  clear hb1 hbw1 o1 HO1 HO2 hs0 HB0 HW0 HEX HL
  go_wp2_with fail
  refine CA.out.mono ?_
  rintro e w2 ⟨m, ys, a2, c2, rfl, hm15, hR, hys, hsl, hE2, hb2⟩
  obtain ⟨K, hK⟩ := ex_eq ys.length
  rw [← hK]
  have HK := hid hK
  obtain ⟨V2, hV2⟩ := ex_eq (w2.alloc (.cells #[.int .i64 m, .slice a2 K c2] 24))
  obtain ⟨B, hB⟩ := ex_eq w2.heap.size
  have HG2 : Hid (GC V2 B m a2 K c2 ys) := by
    show GC V2 _ _ _ _ _ _
    rw [hV2, hB]; exact gc_new hE2
  have hb12 : Below w1.heap.size w1 V2 := by
    have h1 : Below w2.heap.size w2 V2 := by rw [hV2]; exact below_one _ _
    exact hb2.trans (h1.mono hb2.size)
  have HB2 : Hid (Below w.heap.size w V2) := HB1.out.trans (hb12.mono HB1.out.size)
  have HE2 : Hid (V2.heap[w.heap.size + 1]? = some (.cells #[.int .i64 k0, .int .i64 k1] 29)) := (hb12.block _ (by omega)).trans HE1.out
  have HV2 := hid hV2
  have HBB := hid hB
  have HR := hid hR
  have HSL := hid hsl
  have hK3 : K ≤ 300 := by omega
  clear hK hV2 hE2 hb2 hR hys hsl CA hB x0 x1 HB1 hb12 HE1 hs1
  go_upto_region 3 with fail
  rw [← HV2.out, ← HBB.out]
  clear HV2 HBB
  go_cut [2] (fun v wy => v = .slice qa M2 qc ∧ wy = V2)
  case first =>
    cases qa with
    | none =>
      obtain rfl := hqa rfl
      obtain rfl : qlen = 0 := by omega
      obtain rfl : M2 = 0 := by simp at j9; omega
      clear hqa jmin jc j0 j5 hqc hqm j9
      go_wp2
      all_goals go_meet
      all_goals exact ⟨rfl, rfl⟩
    | some ad =>
      clear hqa
      go_wp2
      all_goals go_meet
      all_goals exact ⟨rfl, rfl⟩
  case rest =>
    obtain ⟨rfl, hwc⟩ := hcut
    rw [hwc]
    clear hwc jmin jc j9 hqc hqm hqa j0
    obtain ⟨x0, x1⟩ := two_cells HE2.out
    obtain ⟨g0, g1⟩ := HG2.out.cells
    have C1 : Hid (∀ X, GC X B m a2 K c2 ys → IAt X qa Bs → Calls Try.prog 20 #[.agg #[.int .i64 m, .slice a2 K c2], .int .i64 k0, .int .i64 k1, .slice qa M2 qc] X fun e w' => ∃ v, e = .returned v ∧ RouteTold m ys k0 k1 Bs X w' v) := fun X hg hI => by
      have := HO.out.route m a2 c2 ys k0 k1 qa qc Bs true X (by rw [← HK.out]; omega) (by rw [← HM2.out]; omega) HSL.out.w (by rw [← HM2.out]; exact HSQ.out) hg.at_ hI ⟨fun _ => HR.out, fun _ => rfl⟩
      rw [← HK.out, ← HM2.out] at this
      exact this
    have C2 : Hid (∀ X, GC X B m a2 K c2 ys → IAt X qa Bs → Calls Try.prog 21 #[.agg #[.int .i64 m, .slice a2 K c2], .int .i64 k0, .int .i64 k1, .slice qa M2 qc] X fun e w' => ∃ v, e = .returned v ∧ RouteTold m ys k0 k1 Bs X w' v) := fun X hg hI => by
      have := HRR.out m a2 c2 ys k0 k1 qa qc Bs true X (by rw [← HK.out]; omega) (by rw [← HM2.out]; omega) hg.at_ hI ⟨fun _ => HR.out, fun _ => rfl⟩
      rw [← HK.out, ← HM2.out] at this
      exact this
    have HLN : Hid (∀ L, RouteG m ys k0 k1 Bs L → L.length ≤ 1000000) := fun L h => Nat.le_trans (route_len h) (by decide)
    have HG0 := hid (HG2.out.on (Below.refl _ _).drew)
    have HI0 := hid ((HIQ.out V2 HB2.out).below (Below.refl _ _).drew)
    have HB0' : Hid (Below w.heap.size w V2.drew) := HB2.out.drew
    have hS : V2.drew.cell? ⟨B, 0, none⟩ = some (.int .i64 m) ∧ V2.drew.cell? ⟨B, 1, none⟩ = some (.slice a2 K c2) ∧ V2.drew.cell? ⟨w.heap.size + 1, 0, none⟩ = some (.int .i64 k0) ∧ V2.drew.cell? ⟨w.heap.size + 1, 1, none⟩ = some (.int .i64 k1) := ⟨g0, g1, x0, x1⟩
    have HSS : Hid (∀ X, Below V2.drew.heap.size V2.drew X → X.cell? ⟨B, 0, none⟩ = some (.int .i64 m) ∧ X.cell? ⟨B, 1, none⟩ = some (.slice a2 K c2) ∧ X.cell? ⟨w.heap.size + 1, 0, none⟩ = some (.int .i64 k0) ∧ X.cell? ⟨w.heap.size + 1, 1, none⟩ = some (.int .i64 k1)) := fun X h =>
      ⟨(h.cell (block_lt_of_cell hS.1)).trans hS.1, (h.cell (block_lt_of_cell hS.2.1)).trans hS.2.1, (h.cell (block_lt_of_cell hS.2.2.1)).trans hS.2.2.1, (h.cell (block_lt_of_cell hS.2.2.2)).trans hS.2.2.2⟩
    clear g0 g1 x0 x1 HE2 HG2 HB2 HIQ
    go_wp2_with fail
    refine wp_region_held_drew (S := (fun X => X.cell? ⟨B, 0, none⟩ = some (.int .i64 m) ∧ X.cell? ⟨B, 1, none⟩ = some (.slice a2 K c2) ∧ X.cell? ⟨w.heap.size + 1, 0, none⟩ = some (.int .i64 k0) ∧ X.cell? ⟨w.heap.size + 1, 1, none⟩ = some (.int .i64 k1))) (by kernel_rfl) hS (fun hHeld => ?_)
    (refine takeW (i := 0) (dst := some 17) (v := ?_) rfl rfl (by kernel_rfl) (by kernel_rfl) (by kernel_rfl) (fun _ _ _ h => h) (Or.inl ⟨by rfl, ?_⟩) hHeld ?_; rotate_left; focus (intro w hSw; (try dsimp only at hSw); go_simp; (try with_reducible rfl); done))
    try simp only [Act.put, List.setIfInBounds_toArray, List.set_cons_zero, List.set_cons_succ]
    (refine takeW (i := 1) (dst := some 18) (v := ?_) rfl rfl (by kernel_rfl) (by kernel_rfl) (by kernel_rfl) (fun _ _ _ h => h) (Or.inl ⟨by rfl, ?_⟩) hHeld ?_; rotate_left; focus (intro w hSw; (try dsimp only at hSw); go_simp; (try with_reducible rfl); done))
    try simp only [Act.put, List.setIfInBounds_toArray, List.set_cons_zero, List.set_cons_succ]
    first | refine takeW (i := 2) (dst := some 19) (v := undef) rfl rfl (by kernel_rfl) (by kernel_rfl) (by kernel_rfl) (fun _ _ _ h => h) (Or.inr ⟨by rfl, rfl⟩) hHeld ?_ | (refine takeW (i := 2) (dst := some 19) (v := ?_) rfl rfl (by kernel_rfl) (by kernel_rfl) (by kernel_rfl) (fun _ _ _ h => h) (Or.inl ⟨by rfl, ?_⟩) hHeld ?_; rotate_left; focus (intro w hSw; (try dsimp only at hSw); go_simp; (try with_reducible rfl); done))
    try simp only [Act.put, List.setIfInBounds_toArray, List.set_cons_zero, List.set_cons_succ]
    first | refine takeW (i := 3) (dst := some 20) (v := undef) rfl rfl (by kernel_rfl) (by kernel_rfl) (by kernel_rfl) (fun _ _ _ h => h) (Or.inr ⟨by rfl, rfl⟩) hHeld ?_ | (refine takeW (i := 3) (dst := some 20) (v := ?_) rfl rfl (by kernel_rfl) (by kernel_rfl) (by kernel_rfl) (fun _ _ _ h => h) (Or.inl ⟨by rfl, ?_⟩) hHeld ?_; rotate_left; focus (intro w hSw; (try dsimp only at hSw); go_simp; (try with_reducible rfl); done))
    try simp only [Act.put, List.setIfInBounds_toArray, List.set_cons_zero, List.set_cons_succ]
    first | refine takeW (i := 4) (dst := some 21) (v := undef) rfl rfl (by kernel_rfl) (by kernel_rfl) (by kernel_rfl) (fun _ _ _ h => h) (Or.inr ⟨by rfl, rfl⟩) hHeld ?_ | (refine takeW (i := 4) (dst := some 21) (v := ?_) rfl rfl (by kernel_rfl) (by kernel_rfl) (by kernel_rfl) (fun _ _ _ h => h) (Or.inl ⟨by rfl, ?_⟩) hHeld ?_; rotate_left; focus (intro w hSw; (try dsimp only at hSw); go_simp; (try with_reducible rfl); done))
    try simp only [Act.put, List.setIfInBounds_toArray, List.set_cons_zero, List.set_cons_succ]
    first | refine takeW (i := 5) (dst := some 22) (v := undef) rfl rfl (by kernel_rfl) (by kernel_rfl) (by kernel_rfl) (fun _ _ _ h => h) (Or.inr ⟨by rfl, rfl⟩) hHeld ?_ | (refine takeW (i := 5) (dst := some 22) (v := ?_) rfl rfl (by kernel_rfl) (by kernel_rfl) (by kernel_rfl) (fun _ _ _ h => h) (Or.inl ⟨by rfl, ?_⟩) hHeld ?_; rotate_left; focus (intro w hSw; (try dsimp only at hSw); go_simp; (try with_reducible rfl); done))
    try simp only [Act.put, List.setIfInBounds_toArray, List.set_cons_zero, List.set_cons_succ]
    first | refine takeW (i := 6) (dst := some 23) (v := undef) rfl rfl (by kernel_rfl) (by kernel_rfl) (by kernel_rfl) (fun _ _ _ h => h) (Or.inr ⟨by rfl, rfl⟩) hHeld ?_ | (refine takeW (i := 6) (dst := some 23) (v := ?_) rfl rfl (by kernel_rfl) (by kernel_rfl) (by kernel_rfl) (fun _ _ _ h => h) (Or.inl ⟨by rfl, ?_⟩) hHeld ?_; rotate_left; focus (intro w hSw; (try dsimp only at hSw); go_simp; (try with_reducible rfl); done))
    try simp only [Act.put, List.setIfInBounds_toArray, List.set_cons_zero, List.set_cons_succ]
    first | refine takeW (i := 7) (dst := some 24) (v := undef) rfl rfl (by kernel_rfl) (by kernel_rfl) (by kernel_rfl) (fun _ _ _ h => h) (Or.inr ⟨by rfl, rfl⟩) hHeld ?_ | (refine takeW (i := 7) (dst := some 24) (v := ?_) rfl rfl (by kernel_rfl) (by kernel_rfl) (by kernel_rfl) (fun _ _ _ h => h) (Or.inl ⟨by rfl, ?_⟩) hHeld ?_; rotate_left; focus (intro w hSw; (try dsimp only at hSw); go_simp; (try with_reducible rfl); done))
    try simp only [Act.put, List.setIfInBounds_toArray, List.set_cons_zero, List.set_cons_succ]
    first | refine takeW (i := 9) (dst := some 26) (v := undef) rfl rfl (by kernel_rfl) (by kernel_rfl) (by kernel_rfl) (fun _ _ _ h => h) (Or.inr ⟨by rfl, rfl⟩) hHeld ?_ | (refine takeW (i := 9) (dst := some 26) (v := ?_) rfl rfl (by kernel_rfl) (by kernel_rfl) (by kernel_rfl) (fun _ _ _ h => h) (Or.inl ⟨by rfl, ?_⟩) hHeld ?_; rotate_left; focus (intro w hSw; (try dsimp only at hSw); go_simp; (try with_reducible rfl); done))
    try simp only [Act.put, List.setIfInBounds_toArray, List.set_cons_zero, List.set_cons_succ]
    first | refine takeW (i := 10) (dst := some 27) (v := undef) rfl rfl (by kernel_rfl) (by kernel_rfl) (by kernel_rfl) (fun _ _ _ h => h) (Or.inr ⟨by rfl, rfl⟩) hHeld ?_ | (refine takeW (i := 10) (dst := some 27) (v := ?_) rfl rfl (by kernel_rfl) (by kernel_rfl) (by kernel_rfl) (fun _ _ _ h => h) (Or.inl ⟨by rfl, ?_⟩) hHeld ?_; rotate_left; focus (intro w hSw; (try dsimp only at hSw); go_simp; (try with_reducible rfl); done))
    try simp only [Act.put, List.setIfInBounds_toArray, List.set_cons_zero, List.set_cons_succ]
    first | refine takeW (i := 11) (dst := some 28) (v := undef) rfl rfl (by kernel_rfl) (by kernel_rfl) (by kernel_rfl) (fun _ _ _ h => h) (Or.inr ⟨by rfl, rfl⟩) hHeld ?_ | (refine takeW (i := 11) (dst := some 28) (v := ?_) rfl rfl (by kernel_rfl) (by kernel_rfl) (by kernel_rfl) (fun _ _ _ h => h) (Or.inl ⟨by rfl, ?_⟩) hHeld ?_; rotate_left; focus (intro w hSw; (try dsimp only at hSw); go_simp; (try with_reducible rfl); done))
    try simp only [Act.put, List.setIfInBounds_toArray, List.set_cons_zero, List.set_cons_succ]
    first | refine takeW (i := 12) (dst := some 29) (v := undef) rfl rfl (by kernel_rfl) (by kernel_rfl) (by kernel_rfl) (fun _ _ _ h => h) (Or.inr ⟨by rfl, rfl⟩) hHeld ?_ | (refine takeW (i := 12) (dst := some 29) (v := ?_) rfl rfl (by kernel_rfl) (by kernel_rfl) (by kernel_rfl) (fun _ _ _ h => h) (Or.inl ⟨by rfl, ?_⟩) hHeld ?_; rotate_left; focus (intro w hSw; (try dsimp only at hSw); go_simp; (try with_reducible rfl); done))
    try simp only [Act.put, List.setIfInBounds_toArray, List.set_cons_zero, List.set_cons_succ]
    first | refine takeW (i := 13) (dst := some 30) (v := undef) rfl rfl (by kernel_rfl) (by kernel_rfl) (by kernel_rfl) (fun _ _ _ h => h) (Or.inr ⟨by rfl, rfl⟩) hHeld ?_ | (refine takeW (i := 13) (dst := some 30) (v := ?_) rfl rfl (by kernel_rfl) (by kernel_rfl) (by kernel_rfl) (fun _ _ _ h => h) (Or.inl ⟨by rfl, ?_⟩) hHeld ?_; rotate_left; focus (intro w hSw; (try dsimp only at hSw); go_simp; (try with_reducible rfl); done))
    try simp only [Act.put, List.setIfInBounds_toArray, List.set_cons_zero, List.set_cons_succ]
    first | refine takeW (i := 14) (dst := some 31) (v := undef) rfl rfl (by kernel_rfl) (by kernel_rfl) (by kernel_rfl) (fun _ _ _ h => h) (Or.inr ⟨by rfl, rfl⟩) hHeld ?_ | (refine takeW (i := 14) (dst := some 31) (v := ?_) rfl rfl (by kernel_rfl) (by kernel_rfl) (by kernel_rfl) (fun _ _ _ h => h) (Or.inl ⟨by rfl, ?_⟩) hHeld ?_; rotate_left; focus (intro w hSw; (try dsimp only at hSw); go_simp; (try with_reducible rfl); done))
    try simp only [Act.put, List.setIfInBounds_toArray, List.set_cons_zero, List.set_cons_succ]
    refine wpAnyH_ready (rs := [8]) (by kernel_rfl) (by simp) ?_
    refine AllReadyH.cons (o := _) rfl (fun KK hK => ?_) AllReadyH.nil
    go_simp
    refine (C1.out _ HG0.out HI0.out).mono ?_
    rintro e y1 ⟨v1, rfl, a8, c8, L, rfl, hRG, _, hI8, hb⟩
    have HG1 := hid (HG0.out.on hb)
    have HI1 := hid (HI0.out.below hb)
    have HB1' : Hid (Below w.heap.size w y1) := HB0'.out.trans (hb.mono HB0'.out.size)
    have HI8 := hid hI8
    have HRG := hid hRG
    have hS1 := HSS.out y1 hb
    clear hb hI8 hRG HG0 HI0 HB0'
    refine hK.out _ _ hS1 (fun hHeld => ?_)
    clear hK KK
    try simp only [Act.put]
    try simp only [List.setIfInBounds_toArray]
    try simp only [List.set_cons_succ]
    try simp only [List.set_cons_zero]
    refine wpAnyH_ready (rs := [15]) (by kernel_rfl) (by simp) ?_
    refine AllReadyH.cons (o := _) rfl (fun KK hK => ?_) AllReadyH.nil
    go_simp
    refine (C2.out _ HG1.out HI1.out).mono ?_
    rintro e y2 ⟨v2, rfl, a9, c9, L2, rfl, hRG2, _, hI9, hb⟩
    obtain rfl : L = L2 := HRG.out.one hRG2
    have HB2' : Hid (Below w.heap.size w y2) := HB1'.out.trans (hb.mono HB1'.out.size)
    have HI8' := hid (HI8.out.below hb)
    have HI9 := hid hI9
    have hS2 : y2.cell? ⟨B, 0, none⟩ = some (.int .i64 m) ∧ y2.cell? ⟨B, 1, none⟩ = some (.slice a2 K c2) ∧ y2.cell? ⟨w.heap.size + 1, 0, none⟩ = some (.int .i64 k0) ∧ y2.cell? ⟨w.heap.size + 1, 1, none⟩ = some (.int .i64 k1) := ⟨(hb.cell (block_lt_of_cell hS1.1)).trans hS1.1, (hb.cell (block_lt_of_cell hS1.2.1)).trans hS1.2.1, (hb.cell (block_lt_of_cell hS1.2.2.1)).trans hS1.2.2.1, (hb.cell (block_lt_of_cell hS1.2.2.2)).trans hS1.2.2.2⟩
    have CS := hid (same_any a8 a9 c8 c9 L L true y2 (HLN.out L HRG.out) HI8'.out HI9.out ⟨fun _ => rfl, fun _ => rfl⟩)
    clear hb hI9 hRG2 HI8 HG1 HI1 HB1'
    refine hK.out _ _ hS2 (fun hHeld => ?_)
    clear hK KK
    try simp only [Act.put]
    try simp only [List.setIfInBounds_toArray]
    try simp only [List.set_cons_succ]
    try simp only [List.set_cons_zero]
    refine wpAnyH_ready (rs := [16]) (by kernel_rfl) (by simp) ?_
    refine AllReadyH.cons (o := _) rfl (fun KK hK => ?_) AllReadyH.nil
    go_simp
    refine CS.out.mono ?_
    rintro e y3 ⟨rfl, hb⟩
    have HB3' : Hid (Below w.heap.size w y3) := HB2'.out.trans (hb.mono HB2'.out.size)
    have hS3 : y3.cell? ⟨B, 0, none⟩ = some (.int .i64 m) ∧ y3.cell? ⟨B, 1, none⟩ = some (.slice a2 K c2) ∧ y3.cell? ⟨w.heap.size + 1, 0, none⟩ = some (.int .i64 k0) ∧ y3.cell? ⟨w.heap.size + 1, 1, none⟩ = some (.int .i64 k1) := ⟨(hb.cell (block_lt_of_cell hS2.1)).trans hS2.1, (hb.cell (block_lt_of_cell hS2.2.1)).trans hS2.2.1, (hb.cell (block_lt_of_cell hS2.2.2.1)).trans hS2.2.2.1, (hb.cell (block_lt_of_cell hS2.2.2.2)).trans hS2.2.2.2⟩
    clear hb CS
    refine hK.out _ _ hS3 (fun hHeld => ?_)
    clear hK KK
    try simp only [Act.put]
    try simp only [List.setIfInBounds_toArray]
    try simp only [List.set_cons_succ]
    try simp only [List.set_cons_zero]
    (refine takeW (i := 17) (dst := some 34) (v := ?_) rfl rfl (by kernel_rfl) (by kernel_rfl) (by kernel_rfl) (fun _ _ _ h => h) (Or.inl ⟨by rfl, ?_⟩) hHeld ?_; rotate_left; focus (intro w hSw; (try dsimp only at hSw); go_simp; (try with_reducible rfl); done))
    try simp only [Act.put, List.setIfInBounds_toArray, List.set_cons_zero, List.set_cons_succ]
    (refine takeW (i := 18) (dst := some 6) (v := ?_) rfl rfl (by kernel_rfl) (by kernel_rfl) (by kernel_rfl) (fun _ _ _ h => h) (Or.inl ⟨by rfl, ?_⟩) hHeld ?_; rotate_left; focus (intro w hSw; (try dsimp only at hSw); go_simp; (try with_reducible rfl); done))
    try simp only [Act.put]
    try simp only [List.setIfInBounds_toArray]
    try simp only [List.set_cons_succ]
    try simp only [List.set_cons_zero]
    refine wpAnyH_done (by kernel_rfl) ?_ _
    clear hHeld
    go_wp2
    go_ret
    exact ⟨rfl, HB3'.out⟩
end Go.Proofs.Ytccbheijfnodjaa
