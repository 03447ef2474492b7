/-
  The law TopoBack.
-/
import Derived.Test.YtckcbaegehfkoaaA23
import Derived.Test.YtckcbaegehfkoaaA06
namespace Go.Proofs.Ytckcbaegehfkoaa
open Go.RowKit Go.Lib

theorem len_le_subP {a b : List (Int × Int)} (h : a.Nodup) (hs : ∀ e ∈ a, e ∈ b) : a.length ≤ b.length := by
  induction a generalizing b with
  | nil => simp
  | cons x a ih =>
    have hx : x ∈ b := hs x (by simp)
    obtain ⟨h1, h2⟩ := List.nodup_cons.1 h
    have := ih (b := b.erase x) h2 (fun e he => (List.mem_erase_of_ne (fun e' => h1 (by rw [← e']; exact he))).2 (hs e (List.mem_cons_of_mem _ he)))
    rw [List.length_erase_of_mem hx] at this
    have := List.length_pos_of_mem hx
    simp; omega
theorem pe_adj {n : Int} {es : List (Int × Int)} (hR : RightG n es) {p : List Int} (hl : Links es p) {x : Int × Int} (h : x ∈ peL p) : x ∈ es := by
  unfold peL peTo at h
  obtain ⟨i, hi, rfl⟩ := List.mem_map.1 h
  have hi : i < p.length - 1 := by simpa using hi
  have ha := hl i (by omega)
  have e1 : p.getD i 0 = p[i]'(by omega) := by simp [show i < p.length by omega]
  have e2 : p.getD (i + 1) 0 = p[i + 1]'(by omega) := by simp [show i + 1 < p.length by omega]
  rw [e1, e2]
  rcases ha with ha | ha
  · have := hR.2.2.2.1 _ ha
    simp only at this
    rw [show min (p[i]'(by omega)) (p[i + 1]'(by omega)) = p[i]'(by omega) by omega, show max (p[i]'(by omega)) (p[i + 1]'(by omega)) = p[i + 1]'(by omega) by omega]
    exact ha
  · have := hR.2.2.2.1 _ ha
    simp only at this
    rw [show min (p[i]'(by omega)) (p[i + 1]'(by omega)) = p[i + 1]'(by omega) by omega, show max (p[i]'(by omega)) (p[i + 1]'(by omega)) = p[i]'(by omega) by omega]
    exact ha
/-- Where all edges are there, they are just the graph's. -/
theorem cover_eq {m : Nat} {es : List (Int × Int)} {kd : Int} {T : List Int} {LL : List (List Int)} (hS : SubL m es kd T LL) (hC : Covers es LL) {E : List (Int × Int)} (hR : Rises E) (hm : ∀ x, x ∈ E ↔ x ∈ LL.flatMap peL) : E = es := by
  obtain ⟨E', h1, h2, h3⟩ := hC
  have e : E = E' := rises_one hR h1 (fun x => (hm x).trans (h2 x).symm)
  subst e
  have hsub : ∀ x ∈ E, x ∈ es := fun x hx => by
    obtain ⟨L, hL, hx⟩ := List.mem_flatMap.1 ((hm x).1 hx)
    obtain ⟨k, hk, rfl⟩ := List.getElem_of_mem hL
    exact pe_adj hS.right (hS.path k hk).1.lk hx
  refine rises_one hR hS.right.2.2.2.2 (fun x => ⟨hsub x, fun hx => ?_⟩)
  refine Classical.byContradiction fun hn => ?_
  have := len_le_subP (a := x :: E) (List.nodup_cons.2 ⟨hn, rises_nodup hR⟩) (fun y hy => by
    rcases List.mem_cons.1 hy with rfl | hy
    · exact hx
    · exact hsub y hy)
  simp at this
  omega
theorem fork_rise (m : Nat) (es : List (Int × Int)) : (forkL m es).Pairwise (· < ·) := by
  unfold forkL
  rw [List.pairwise_map]
  refine List.Pairwise.imp (fun {a b} h => ?_) (List.Pairwise.filter _ List.pairwise_lt_range)
  exact Int.ofNat_lt.2 h

set_option maxHeartbeats 8000000 in
set_option maxRecDepth 100000 in
theorem topoBack_law (n : Int) (a : Option Addr) (len cap : Nat) (l : List (Int × Int)) (w : World) (hl : len = l.length) (hE : EAt w a l) :
    Calls Try.prog 6 #[.agg #[.int .i64 n, .slice a len cap]] w fun e w' => e = .returned (.bool true) ∧ Below w.heap.size w w' := by
  obtain ⟨b, hbb⟩ := ex_eq w.heap.size
  obtain ⟨W0, hW0⟩ := ex_eq (w.alloc (.cells #[.int .i64 n, .slice a len cap] 24))
  have hB0 : Below w.heap.size w W0 := by rw [hW0]; exact below_one _ _
  have hO0 := heap_alloc_new w (.cells #[.int .i64 n, .slice a len cap] 24)
  rw [← hW0, ← hbb] at hO0
  have HK0 : Hid (∀ X, Below W0.heap.size W0 X → (X.cell? ⟨b, 0, none⟩ = some (.int .i64 n) ∧ X.cell? ⟨b, 1, none⟩ = some (.slice a len cap)) ∧ EAt X a l ∧ Below w.heap.size w X) := fun X hX => by
    have o0 := (hX.block b (Array.getElem?_eq_some_iff.1 hO0).1).trans hO0
    have hbx : Below w.heap.size w X := hB0.trans (hX.mono hB0.size)
    exact ⟨⟨cell_of_heap o0 0, cell_of_heap o0 1⟩, hE.below hbx, hbx⟩
  have HL := hid hl
  have HW0 := hid hW0
  have HBB := hid hbb
  clear hl hE hW0 hB0 hO0 hbb
  go_enter Try.func6, Try.ntmps6
  go_wp2_with fail
  rw [← HW0.out, ← HBB.out]
  refine (yshown_any _).mono ?_
  rintro e w1 ⟨rfl, hb1⟩
  obtain ⟨⟨x0, x1⟩, hE1, _⟩ := HK0.out w1 hb1
  have CA := hid (net_any n a len cap l 30 w1 (by omega) HL.out hE1)
  have HB1 := hid hb1
  clear hb1 HW0 hE1
  go_wp2_with fail
  refine CA.out.mono ?_
  rintro e w2 ⟨m, ys, a2, c2, rfl, hm30, hR, hys, hsl, hE2, hb2⟩
  obtain ⟨K, hK⟩ := ex_eq ys.length
  rw [← hK]
  obtain ⟨B, hBB⟩ := ex_eq w2.heap.size
  obtain ⟨V2, hV2⟩ := ex_eq (w2.alloc (.cells #[.int .i64 m, .slice a2 K c2] 30))
  have HG2 : Hid (GC V2 B m a2 K c2 ys) := by
    show GC V2 _ _ _ _ _ _
    rw [hV2, hBB]; exact gc_new8 hE2
  have HX2 : Hid (Below W0.heap.size W0 V2) := by
    have h1 : Below w2.heap.size w2 V2 := by rw [hV2]; exact below_one _ _
    have h2 : Below W0.heap.size W0 w2 := HB1.out.trans (hb2.mono HB1.out.size)
    exact h2.trans (h1.mono h2.size)
  have CR := hid (read_any m a2 c2 ys true V2 (by omega) HG2.out.at_ ⟨fun _ => hR, fun _ => rfl⟩)
  rw [← hK] at CR
  have HK := hid hK
  have HV2 := hid hV2
  have HBB2 := hid hBB
  have HR := hid hR
  have hK3 : K ≤ 300 := by omega
  obtain ⟨g0, g1⟩ := HG2.out.cells
  clear hK hV2 hE2 hb2 hR hys hsl CA x0 x1 HB1 hBB
  go_upto_region 3 with fail
  rw [← HV2.out, ← HBB2.out]
  clear HV2 HBB2
  go_wp2_with fail
  refine CR.out.mono ?_
  rintro e w3 ⟨v, rfl, kd, ta, tc, T, pa, pc, LL, ok, rfl, hIT, hLS, hb3, hyes⟩
  obtain ⟨NT, hNT⟩ := ex_eq T.length
  obtain ⟨NL, hNL⟩ := ex_eq LL.length
  rw [← hNT, ← hNL]
  obtain ⟨S0, hS0⟩ := ex_eq w3.heap.size
  obtain ⟨V3, hV3⟩ := ex_eq (w3.alloc (.cells #[.int .i64 kd, .slice ta NT tc, .slice pa NL pc] 32))
  have hb33 : Below w3.heap.size w3 V3 := by rw [hV3]; exact below_one _ _
  have hSC : SC V3 S0 kd ta NT tc T pa NL pc LL := by rw [hV3, hS0]; exact sc_new hIT (lls_llat hLS)
  have hb23 : Below V2.heap.size V2 V3 := hb3.trans (hb33.mono hb3.size)
  have hX3 : Below W0.heap.size W0 V3 := HX2.out.trans (hb23.mono HX2.out.size)
  have HKP : Hid (∀ X, Below V3.heap.size V3 X → GC X B m a2 K c2 ys ∧ SC X S0 kd ta NT tc T pa NL pc LL ∧ Below w.heap.size w X) := fun X hX => ⟨HG2.out.on (hb23.trans (hX.mono hb23.size)), hSC.on hX, (HK0.out X (hX3.trans (hX.mono hX3.size))).2.2⟩
  have HYES := hid hyes
  have HV3 := hid hV3
  have HS0 := hid hS0
  have HNT := hid hNT
  have HNL := hid hNL
  clear CR hV3 hS0 hb33 hSC hb23 hX3 hIT hLS hb3 hyes g0 g1 hNT hNL
  obtain ⟨_, ⟨s0, s1, s2, _, _⟩, _⟩ := HKP.out V3 (Below.refl _ _)
  rcases HYES.out with ⟨rfl, hy⟩ | ⟨rfl, rfl, rfl, rfl, _⟩
  · have hy' : ReadYes m ys kd T LL := hy
    have HY := hid hy'
    have hLl : LL.length ≤ 6 := by
      rw [hy'.sub.pl]; split <;> omega
    have HRISE : Hid (T.Pairwise (· < ·)) := by show List.Pairwise _ _; rw [hy'.tops]; exact fork_rise m ys
    have hT4 : NT ≤ 4 := by
      have := hy'.sub.tl
      rw [HNT.out, this]; split <;> omega
    clear hy hy' HYES
    go_upto_region 4 with fail
    rw [← HV3.out, ← HS0.out]
    clear HV3 HS0
    go_wp2
    clear s0 s1 s2
    go_loopw [7] (fun i wz => ∃ j k : Nat, i = .int .i64 k ∧ Hid (k = j + 1) ∧ k ≤ NT + 1 ∧ Hid (Below V3.heap.size V3 wz)) (fun i _ => NT + 1 - (RowKit.intOf i).toNat)
    case atStart => exact ⟨0, 1, rfl, rfl, by omega, Below.refl _ _⟩
    case round =>
      obtain ⟨j, k, rfl, hjk, hk1, hbz⟩ := hrel
      obtain ⟨hg, ⟨s0, s1, s2, hI, hL⟩, _⟩ := HKP.out wr hbz.out
      by_cases hlt : k < NT
      · have hkT : k < T.length := by rw [← HNT.out]; exact hlt
        have hjk' := hjk.out
        have hjT : j < T.length := by omega
        obtain ⟨gt, ot, rfl, _, hct⟩ := hI (by omega)
        have d0 := hct k hkT
        have d1 := hct j hjT
        obtain ⟨x, hx⟩ := ex_eq T[k]
        obtain ⟨y, hy⟩ := ex_eq T[j]
        rw [← hx] at d0
        rw [← hy] at d1
        have hyx : y < x := by
          have h := HRISE.out
          rw [List.pairwise_iff_getElem] at h
          rw [hx, hy]; exact h j k hjT hkT (by omega)
        have b1 : decide (x ≤ y) = false := decide_eq_false (by omega)
        have q1 : (k : Int) - 1 = (j : Int) := by omega
        have q2 : IntKind.i64.wrap (j : Int) = (j : Int) := by rw [IntKind.wrap_i64]; omega
        have q3 : (k : Int) < (NT : Int) := by omega
        have q4 : (j : Int) < (NT : Int) := by omega
        have q5 : (0 : Int) ≤ (k : Int) := by omega
        have q6 : (0 : Int) ≤ (j : Int) := by omega
        have q7 : j < NT := by omega
        have q8 : ¬ x ≤ y := by omega
        have HBN : Hid (∀ q, Below V3.heap.size V3 (wr.drewN q)) := fun q => below_drewN hbz.out q
        clear hct hx hy hjk' hg hL hI hkT hjT hbz hjk hyx
        go_wp2_with fail
        go_quiet (fail)
        go_wp2
        go_roundw
        case rel => exact ⟨k, k + 1, by go_num, rfl, by omega, HBN.out _⟩
        case measure => simp [RowKit.intOf]; omega
      · have q3 : ¬ (k : Int) < (NT : Int) := by omega
        obtain ⟨r1, hr1⟩ := boolR_of (SubL m ys kd T LL)
        have hr1t : r1 = true := hr1.2 HY.out.sub
        subst hr1t
        have hPl : ∀ L ∈ LL, L.length ≤ 31 ∧ ∀ x ∈ L, 0 ≤ x ∧ x < m := fun L hL => by
          obtain ⟨i, hi, rfl⟩ := List.getElem_of_mem hL
          have h1 := (HY.out.sub.path i hi).1
          have h2 := len_le_subI h1.nd (b := (List.range m).map (fun v : Nat => (v : Int))) (fun x hx => by
            have := h1.inn x hx
            rw [List.mem_map]
            exact ⟨x.toNat, by rw [List.mem_range]; omega, by omega⟩)
          rw [List.length_map, List.length_range] at h2
          exact ⟨by omega, h1.inn⟩
        have hflat : LL.flatten.length ≤ 1000000 := by
          have h1 := flat_len (K := 31) (fun L hL => (hPl L hL).1)
          omega
        have hwf : WfR LL := fun L hL x hx => WalkArith.wf_i64 (by have := (hPl L hL).2 x hx; omega)
        have HBZ := hid hbz.out
        have HKQ : Hid (∀ X, Below wr.drew.heap.size wr.drew X → Below V3.heap.size V3 X) := fun X hX => (HBZ.out.drew).trans (hX.mono HBZ.out.size)
        have CK : Hid (Calls Try.prog 14 #[.agg #[.int .i64 m, .slice a2 K c2], .agg #[.int .i64 kd, .slice ta NT tc, .slice pa NL pc]] wr.drew fun e w' => e = .returned (.bool true) ∧ Below wr.drew.heap.size wr.drew w') := by
          obtain ⟨g, s, _⟩ := HKP.out wr.drew HBZ.out.drew
          have h := tcheck_any m a2 c2 ys true kd ta tc T pa pc LL true wr.drew (by rw [← HK.out]; omega) g.at_ ⟨fun _ => HR.out, fun _ => rfl⟩ s.ts (by omega) (fun L hL => by have := (hPl L hL).1; omega) s.at_ hwf hr1
          rw [← HK.out, ← HNT.out, ← HNL.out] at h
          exact h
        have CE : Hid (∀ X, Below V3.heap.size V3 X → Calls Try.prog 22 #[.agg #[.int .i64 kd, .slice ta NT tc, .slice pa NL pc]] X fun e w' => ∃ a' c', e = .returned (.slice a' K c') ∧ EAt w' a' ys ∧ Below X.heap.size X w') := fun X hX => by
          obtain ⟨_, s, _⟩ := HKP.out X hX
          rw [HNL.out]
          refine (tedges_any kd ta NT tc pa pc LL X hflat (by omega) s.at_).mono ?_
          rintro e w' ⟨a', c', es', rfl, _, hE', hR', hm', hb'⟩
          have e7 := cover_eq HY.out.sub HY.out.cov hR' hm'
          subst e7
          exact ⟨a', c', by rw [HK.out], hE', hb'⟩
        have CS : Hid (∀ X a' c', Below V3.heap.size V3 X → EAt X a' ys → Calls Try.prog 21 #[.slice a' K c', .slice a2 K c2] X fun e w' => e = .returned (.bool true) ∧ Below X.heap.size X w') := fun X a' c' hX hE' => by
          have h := sameEdges_any a' a2 c' c2 ys ys true X (by rw [← HK.out]; omega) hE' (HKP.out X hX).1.at_ ⟨fun _ => rfl, fun _ => rfl⟩
          rw [← HK.out] at h
          exact h
        have HSX : Hid (∀ X, Below V3.heap.size V3 X → X.cell? ⟨B, 0, none⟩ = some (.int .i64 m) ∧ X.cell? ⟨B, 1, none⟩ = some (.slice a2 K c2) ∧ X.cell? ⟨S0, 0, none⟩ = some (.int .i64 kd) ∧ X.cell? ⟨S0, 1, none⟩ = some (.slice ta NT tc) ∧ X.cell? ⟨S0, 2, none⟩ = some (.slice pa NL pc)) := fun X hX => by
          obtain ⟨g, s, _⟩ := HKP.out X hX
          exact ⟨g.n0, g.e0, s.c0, s.c1, s.c2⟩
        have hS := HSX.out wr.drew HBZ.out.drew
        clear hr1 hPl hflat hwf hg hI hL hbz hjk
        go_wp2_with fail
        refine wp_region_held_drew (S := (fun X : World => X.cell? ⟨B, 0, none⟩ = some (.int .i64 m) ∧ X.cell? ⟨B, 1, none⟩ = some (.slice a2 K c2) ∧ X.cell? ⟨S0, 0, none⟩ = some (.int .i64 kd) ∧ X.cell? ⟨S0, 1, none⟩ = some (.slice ta NT tc) ∧ X.cell? ⟨S0, 2, none⟩ = some (.slice pa NL pc))) (by kernel_rfl) hS (fun hHeld => ?_)
        (refine takeW (i := 0) (dst := some 53) (v := ?_) rfl rfl (by kernel_rfl) (by kernel_rfl) (by kernel_rfl) (fun _ _ _ h => h) (Or.inl ⟨by rfl, ?_⟩) hHeld ?_; rotate_left; focus (intro w hSw; (try dsimp only at hSw); go_simp; (try with_reducible rfl); done))
        try simp only [Act.put, List.setIfInBounds_toArray, List.set_cons_zero, List.set_cons_succ]
        (refine takeW (i := 1) (dst := some 54) (v := ?_) rfl rfl (by kernel_rfl) (by kernel_rfl) (by kernel_rfl) (fun _ _ _ h => h) (Or.inl ⟨by rfl, ?_⟩) hHeld ?_; rotate_left; focus (intro w hSw; (try dsimp only at hSw); go_simp; (try with_reducible rfl); done))
        try simp only [Act.put, List.setIfInBounds_toArray, List.set_cons_zero, List.set_cons_succ]
        first | refine takeW (i := 2) (dst := some 55) (v := undef) rfl rfl (by kernel_rfl) (by kernel_rfl) (by kernel_rfl) (fun _ _ _ h => h) (Or.inr ⟨by rfl, rfl⟩) hHeld ?_ | (refine takeW (i := 2) (dst := some 55) (v := ?_) rfl rfl (by kernel_rfl) (by kernel_rfl) (by kernel_rfl) (fun _ _ _ h => h) (Or.inl ⟨by rfl, ?_⟩) hHeld ?_; rotate_left; focus (intro w hSw; (try dsimp only at hSw); go_simp; (try with_reducible rfl); done))
        try simp only [Act.put, List.setIfInBounds_toArray, List.set_cons_zero, List.set_cons_succ]
        first | refine takeW (i := 3) (dst := some 56) (v := undef) rfl rfl (by kernel_rfl) (by kernel_rfl) (by kernel_rfl) (fun _ _ _ h => h) (Or.inr ⟨by rfl, rfl⟩) hHeld ?_ | (refine takeW (i := 3) (dst := some 56) (v := ?_) rfl rfl (by kernel_rfl) (by kernel_rfl) (by kernel_rfl) (fun _ _ _ h => h) (Or.inl ⟨by rfl, ?_⟩) hHeld ?_; rotate_left; focus (intro w hSw; (try dsimp only at hSw); go_simp; (try with_reducible rfl); done))
        try simp only [Act.put, List.setIfInBounds_toArray, List.set_cons_zero, List.set_cons_succ]
        refine wpAnyH_ready (rs := [4]) (by kernel_rfl) (by simp) ?_
        refine AllReadyH.cons (o := _) rfl (fun KK hK => ?_) AllReadyH.nil
        go_simp
        refine CK.out.mono ?_
        rintro e y1' ⟨rfl, hb7⟩
        have HY1 := hid (HKQ.out y1' hb7)
        have hS1 := HSX.out y1' HY1.out
        clear hb7
        refine hK.out _ _ hS1 (fun hHeld => ?_)
        clear hK KK
        try simp only [Act.put]
        try simp only [List.setIfInBounds_toArray]
        try simp only [List.set_cons_succ]
        try simp only [List.set_cons_zero]
        (refine takeW (i := 5) (dst := some 58) (v := ?_) rfl rfl (by kernel_rfl) (by kernel_rfl) (by kernel_rfl) (fun _ _ _ h => h) (Or.inl ⟨by rfl, ?_⟩) hHeld ?_; rotate_left; focus (intro w hSw; (try dsimp only at hSw); go_simp; (try with_reducible rfl); done))
        try simp only [Act.put, List.setIfInBounds_toArray, List.set_cons_zero, List.set_cons_succ]
        (refine takeW (i := 6) (dst := some 59) (v := ?_) rfl rfl (by kernel_rfl) (by kernel_rfl) (by kernel_rfl) (fun _ _ _ h => h) (Or.inl ⟨by rfl, ?_⟩) hHeld ?_; rotate_left; focus (intro w hSw; (try dsimp only at hSw); go_simp; (try with_reducible rfl); done))
        try simp only [Act.put, List.setIfInBounds_toArray, List.set_cons_zero, List.set_cons_succ]
        first | refine takeW (i := 7) (dst := some 60) (v := undef) rfl rfl (by kernel_rfl) (by kernel_rfl) (by kernel_rfl) (fun _ _ _ h => h) (Or.inr ⟨by rfl, rfl⟩) hHeld ?_ | (refine takeW (i := 7) (dst := some 60) (v := ?_) rfl rfl (by kernel_rfl) (by kernel_rfl) (by kernel_rfl) (fun _ _ _ h => h) (Or.inl ⟨by rfl, ?_⟩) hHeld ?_; rotate_left; focus (intro w hSw; (try dsimp only at hSw); go_simp; (try with_reducible rfl); done))
        try simp only [Act.put, List.setIfInBounds_toArray, List.set_cons_zero, List.set_cons_succ]
        first | refine takeW (i := 9) (dst := some 62) (v := undef) rfl rfl (by kernel_rfl) (by kernel_rfl) (by kernel_rfl) (fun _ _ _ h => h) (Or.inr ⟨by rfl, rfl⟩) hHeld ?_ | (refine takeW (i := 9) (dst := some 62) (v := ?_) rfl rfl (by kernel_rfl) (by kernel_rfl) (by kernel_rfl) (fun _ _ _ h => h) (Or.inl ⟨by rfl, ?_⟩) hHeld ?_; rotate_left; focus (intro w hSw; (try dsimp only at hSw); go_simp; (try with_reducible rfl); done))
        try simp only [Act.put, List.setIfInBounds_toArray, List.set_cons_zero, List.set_cons_succ]
        first | refine takeW (i := 10) (dst := some 63) (v := undef) rfl rfl (by kernel_rfl) (by kernel_rfl) (by kernel_rfl) (fun _ _ _ h => h) (Or.inr ⟨by rfl, rfl⟩) hHeld ?_ | (refine takeW (i := 10) (dst := some 63) (v := ?_) rfl rfl (by kernel_rfl) (by kernel_rfl) (by kernel_rfl) (fun _ _ _ h => h) (Or.inl ⟨by rfl, ?_⟩) hHeld ?_; rotate_left; focus (intro w hSw; (try dsimp only at hSw); go_simp; (try with_reducible rfl); done))
        try simp only [Act.put, List.setIfInBounds_toArray, List.set_cons_zero, List.set_cons_succ]
        refine wpAnyH_ready (rs := [8]) (by kernel_rfl) (by simp) ?_
        refine AllReadyH.cons (o := _) rfl (fun KK hK => ?_) AllReadyH.nil
        go_simp
        refine (CE.out y1' HY1.out).mono ?_
        rintro e y2' ⟨a9, c9, rfl, hE9, hb9⟩
        have HY2 : Hid (Below V3.heap.size V3 y2') := HY1.out.trans (hb9.mono HY1.out.size)
        have HE9 := hid hE9
        have hS2 := HSX.out y2' HY2.out
        clear hb9 hE9
        refine hK.out _ _ hS2 (fun hHeld => ?_)
        clear hK KK
        try simp only [Act.put]
        try simp only [List.setIfInBounds_toArray]
        try simp only [List.set_cons_succ]
        try simp only [List.set_cons_zero]
        refine wpAnyH_ready (rs := [11]) (by kernel_rfl) (by simp) ?_
        refine AllReadyH.cons (o := _) rfl (fun KK hK => ?_) AllReadyH.nil
        go_simp
        refine (CS.out y2' a9 c9 HY2.out HE9.out).mono ?_
        rintro e y3' ⟨rfl, hb9⟩
        have HY3 : Hid (Below V3.heap.size V3 y3') := HY2.out.trans (hb9.mono HY2.out.size)
        have hS3 := HSX.out y3' HY3.out
        clear hb9
        refine hK.out _ _ hS3 (fun hHeld => ?_)
        clear hK KK
        try simp only [Act.put]
        try simp only [List.setIfInBounds_toArray]
        try simp only [List.set_cons_succ]
        try simp only [List.set_cons_zero]
        (refine takeW (i := 12) (dst := some 65) (v := ?_) rfl rfl (by kernel_rfl) (by kernel_rfl) (by kernel_rfl) (fun _ _ _ h => h) (Or.inl ⟨by rfl, ?_⟩) hHeld ?_; rotate_left; focus (intro w hSw; (try dsimp only at hSw); go_simp; (try with_reducible rfl); done))
        try simp only [Act.put, List.setIfInBounds_toArray, List.set_cons_zero, List.set_cons_succ]
        (refine takeW (i := 13) (dst := some 2) (v := ?_) rfl rfl (by kernel_rfl) (by kernel_rfl) (by kernel_rfl) (fun _ _ _ h => h) (Or.inl ⟨by rfl, ?_⟩) hHeld ?_; rotate_left; focus (intro w hSw; (try dsimp only at hSw); go_simp; (try with_reducible rfl); done))
        try simp only [Act.put]
        try simp only [List.setIfInBounds_toArray]
        try simp only [List.set_cons_succ]
        try simp only [List.set_cons_zero]
        refine wpAnyH_done (by kernel_rfl) ?_ _
        have HF := hid (HKP.out y3' HY3.out).2.2
        clear hHeld hS hS1 hS2 hS3 CK CE CS s0 s1 s2
        go_wp2
        go_ret
        exact ⟨rfl, HF.out⟩
  · have e0 : NT = 0 := HNT.out
    have e1 : NL = 0 := HNL.out
    subst e0
    subst e1
    have HF := hid (HKP.out V3 (Below.refl _ _)).2.2
    clear HYES
    go_upto_region 4 with fail
    rw [← HV3.out, ← HS0.out]
    clear HV3 HS0
    go_wp2
    go_ret
    exact ⟨rfl, HF.out⟩
end Go.Proofs.Ytckcbaegehfkoaa
