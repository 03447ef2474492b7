/-
  The law TopoCheck.
-/
import Derived.Test.YtckcbaegehfkoaaC29
import Derived.Test.YtckcbaegehfkoaaC30
namespace Go.Proofs.Ytckcbaegehfkoaa
open Go.RowKit Go.Lib

set_option maxHeartbeats 8000000 in
set_option maxRecDepth 100000 in
theorem topoCheck_law (n : Int) (a : Option Addr) (len cap : Nat) (l : List (Int × Int)) (kk : Int) (ta : Option Addr) (tl tc : Nat) (tt : List Int) (am : Option Addr) (lm cm : Nat) (LM : List (List Int)) (w : World) (hl : len = l.length) (hE : EAt w a l) (hI : CameI w ta tl tc tt) (hM : CameR w am lm cm LM) :
    Calls Try.prog 3 #[.agg #[.int .i64 n, .slice a len cap], .agg #[.int .i64 kk, .slice ta tl tc, .slice am lm cm]] w fun e w' => e = .returned (.bool true) ∧ Below w.heap.size w w' := by
  obtain ⟨b, hbb⟩ := ex_eq w.heap.size
  obtain ⟨W0, hW0, hs0, hO0, hO1, hB0⟩ := new_two w (.cells #[.int .i64 n, .slice a len cap] 24) (.cells #[.int .i64 kk, .slice ta tl tc, .slice am lm cm] 28)
  rw [← hbb] at hs0 hO0 hO1 hB0
  have HBB0 := hid hbb
  have HK0 : Hid (∀ X, Below W0.heap.size W0 X → (X.cell? ⟨b, 0, none⟩ = some (.int .i64 n) ∧ X.cell? ⟨b, 1, none⟩ = some (.slice a len cap)) ∧ (X.cell? ⟨b + 1, 0, none⟩ = some (.int .i64 kk) ∧ X.cell? ⟨b + 1, 1, none⟩ = some (.slice ta tl tc) ∧ X.cell? ⟨b + 1, 2, none⟩ = some (.slice am lm cm)) ∧ (CameI X ta tl tc tt ∧ CameR X am lm cm LM) ∧ EAt X a l ∧ Below w.heap.size w X) := fun X hX => by
    have o0 := (hX.block b (by omega)).trans hO0
    have o1 := (hX.block (b + 1) (by omega)).trans hO1
    have hbx : Below b w X := hB0.trans (hX.mono (by omega))
    have hbx' : Below w.heap.size w X := by rw [← hbb]; exact hbx
    exact ⟨⟨cell_of_heap o0 0, cell_of_heap o0 1⟩, ⟨cell_of_heap o1 0, cell_of_heap o1 1, cell_of_heap o1 2⟩, ⟨hI.belowM hbx', hM.belowM hbx'⟩, hE.below hbx', hbx'⟩
  have HL := hid hl
  have HW0 := hid hW0
  clear hl hE hI hM hW0 hB0 hO0 hO1 hbb hs0
  go_enter Try.func3, Try.ntmps3
  go_wp2_with fail
  rw [← HW0.out]
  refine (yshown_any _).mono ?_
  rintro e w1 ⟨rfl, hb1⟩
  rw [← HBB0.out]
  obtain ⟨⟨x0, x1⟩, _, _, hE1, _⟩ := HK0.out w1 hb1
  have CA := hid (net_any n a len cap l 20 w1 (by omega) HL.out hE1)
  have HB1 := hid hb1
  clear hb1 HW0 hE1
  go_wp2_with fail
  refine CA.out.mono ?_
  rintro e w2 ⟨m, ys, a2, c2, rfl, hm20, hR, hys, hsl, hE2, hb2⟩
  obtain ⟨K, hK⟩ := ex_eq ys.length
  rw [← hK]
  have HK := hid hK
  obtain ⟨B, hBB⟩ := ex_eq w2.heap.size
  obtain ⟨V2, hV2⟩ := ex_eq (w2.alloc (.cells #[.int .i64 m, .slice a2 K c2] 30))
  have HG2 : Hid (GC V2 B m a2 K c2 ys) := by
    show GC V2 _ _ _ _ _ _
    rw [hV2, hBB]; exact gc_new8 hE2
  have HX2 : Hid (Below W0.heap.size W0 V2) := by
    have h1 : Below w2.heap.size w2 V2 := by rw [hV2]; exact below_one _ _
    have h2 : Below W0.heap.size W0 w2 := HB1.out.trans (hb2.mono HB1.out.size)
    exact h2.trans (h1.mono h2.size)
  have HV2 := hid hV2
  have HBB := hid hBB
  have HR := hid hR
  have HSL := hid hsl
  have hK3 : K ≤ 300 := by omega
  clear hK hV2 hE2 hb2 hR hys hsl CA x0 x1 HB1 hBB
  go_upto_region 3 with fail
  rw [← HV2.out, ← HBB.out]
  clear HV2 HBB
  have CS := hid (ysmall_any kk ta tl tc tt am lm cm LM V2 (HK0.out V2 HX2.out).2.2.1.1 (HK0.out V2 HX2.out).2.2.1.2)
  obtain ⟨_, ⟨m0, m1, m2⟩, ⟨_, hcr⟩, _, _⟩ := HK0.out V2 HX2.out
  have HWF := hid (wf_cut8 hcr)
  clear hcr
  go_wp2_with fail
  refine CS.out.mono ?_
  rintro e w5 ⟨v5, rfl, a1, c1, a5, c5, rfl, hI5, hL5, hb5⟩
  have hP8 := cut8_len LM
  have HEA := hid (@cut8_each LM)
  obtain ⟨P, hPe⟩ := ex_eq (cut8 LM)
  obtain ⟨T, hTe⟩ := ex_eq (tt.take 6)
  rw [← hPe] at hL5 hP8 HEA HWF ⊢
  rw [← hTe] at hI5 ⊢
  have HNT6 : Hid (T.length ≤ 1000000) := by show _ ≤ _; rw [hTe, List.length_take]; omega
  obtain ⟨NT, hNT⟩ := ex_eq T.length
  obtain ⟨NP, hNP⟩ := ex_eq P.length
  rw [← hNT, ← hNP]
  have HNT := hid hNT
  have HNP := hid hNP
  obtain ⟨B5, hB5⟩ := ex_eq w5.heap.size
  obtain ⟨V5, hV5⟩ := ex_eq (w5.alloc (.cells #[.int .i64 kk, .slice a1 NT c1, .slice a5 NP c5] 32))
  have hb55 : Below w5.heap.size w5 V5 := by rw [hV5]; exact below_one _ _
  have hSC5 : SC V5 B5 kk a1 NT c1 T a5 NP c5 P := by rw [hV5, hB5]; exact sc_new hI5 (lls_llat hL5)
  have hLS5 := hL5.below hb55
  have hbV : Below V2.heap.size V2 V5 := hb5.trans (hb55.mono hb5.size)
  have hX5 : Below W0.heap.size W0 V5 := HX2.out.trans (hbV.mono HX2.out.size)
  have HKP : Hid (∀ X, Below V5.heap.size V5 X → GC X B m a2 K c2 ys ∧ SC X B5 kk a1 NT c1 T a5 NP c5 P ∧ LLS X a5 P ∧ Below w.heap.size w X) := fun X hX => ⟨HG2.out.on (hbV.trans (hX.mono hbV.size)), hSC5.on hX, hLS5.below hX, (HK0.out X (hX5.trans (hX.mono hX5.size))).2.2.2.2⟩
  have HV5 := hid hV5
  have HB5 := hid hB5
  obtain ⟨rc, hrc⟩ := boolR_of (SubL m ys kk T P)
  have CK : Hid (∀ X, Below V5.heap.size V5 X → Calls Try.prog 14 #[.agg #[.int .i64 m, .slice a2 K c2], .agg #[.int .i64 kk, .slice a1 NT c1, .slice a5 NP c5]] X fun e w' => e = .returned (.bool rc) ∧ Below X.heap.size X w') := fun X hX => by
    obtain ⟨g, s, ls, _⟩ := HKP.out X hX
    have h := tcheck_any m a2 c2 ys true kk a1 c1 T a5 c5 P rc X (by rw [← HK.out]; omega) g.at_ ⟨fun _ => HR.out, fun _ => rfl⟩ s.ts (by omega) (fun L hL => by have := HEA.out L hL; omega) s.at_ HWF.out hrc
    rw [← HK.out, ← HNT.out, ← HNP.out] at h
    exact h
  have HRC := hid hrc
  clear hPe hTe hNT hNP hB5 hV5 hI5 hL5 hb5 hb55 hSC5 hLS5 hbV hX5 hrc CS m0 m1 m2
  have HSX : Hid (∀ X, Below V5.heap.size V5 X → (fun X : World => X.cell? ⟨B, 0, none⟩ = some (.int .i64 m) ∧ X.cell? ⟨B, 1, none⟩ = some (.slice a2 K c2) ∧ X.cell? ⟨B5, 0, none⟩ = some (.int .i64 kk) ∧ X.cell? ⟨B5, 1, none⟩ = some (.slice a1 NT c1) ∧ X.cell? ⟨B5, 2, none⟩ = some (.slice a5 NP c5)) X) := fun X hX => by
    obtain ⟨g, s, _⟩ := HKP.out X hX
    exact ⟨g.n0, g.e0, s.c0, s.c1, s.c2⟩
  have CR : Hid (∀ X, Below V5.heap.size V5 X → Calls Try.prog 15 #[.agg #[.int .i64 m, .slice a2 K c2], .agg #[.int .i64 kk, .slice a1 NT c1, .slice a5 NP c5]] X fun e w' => e = .returned (.bool rc) ∧ Below X.heap.size X w') := fun X hX => by
    obtain ⟨g, s, ls, _⟩ := HKP.out X hX
    have h := rcheck9_any m a2 c2 ys true kk a1 c1 T a5 c5 P rc X (by rw [← HK.out]; omega) g.at_ ⟨fun _ => HR.out, fun _ => rfl⟩ s.ts (HNT6.out) (by omega) (fun L hL => by have := HEA.out L hL; omega) s.at_ HRC.out
    rw [← HK.out, ← HNT.out, ← HNP.out] at h
    exact h
  have HD5 : Hid (Below V5.heap.size V5 V5.drew) := (Below.refl _ _).drew
  have hS := HSX.out V5.drew HD5.out
  clear HRC
  go_upto_region 4 with fail
  rw [← HV5.out, ← HB5.out]
  cases rc with
  | false =>
    refine wp_region_held_drew (S := (fun X : World => X.cell? ⟨B, 0, none⟩ = some (.int .i64 m) ∧ X.cell? ⟨B, 1, none⟩ = some (.slice a2 K c2) ∧ X.cell? ⟨B5, 0, none⟩ = some (.int .i64 kk) ∧ X.cell? ⟨B5, 1, none⟩ = some (.slice a1 NT c1) ∧ X.cell? ⟨B5, 2, none⟩ = some (.slice a5 NP c5))) (by kernel_rfl) hS (fun hHeld => ?_)
    (refine takeW (i := 0) (dst := some 13) (v := ?_) rfl rfl (by kernel_rfl) (by kernel_rfl) (by kernel_rfl) (fun _ _ _ h => h) (Or.inl ⟨by rfl, ?_⟩) hHeld ?_; rotate_left; focus (intro w hSw; (try dsimp only at hSw); go_simp; (try with_reducible rfl); done))
    try simp only [Act.put, List.setIfInBounds_toArray, List.set_cons_zero, List.set_cons_succ]
    (refine takeW (i := 1) (dst := some 14) (v := ?_) rfl rfl (by kernel_rfl) (by kernel_rfl) (by kernel_rfl) (fun _ _ _ h => h) (Or.inl ⟨by rfl, ?_⟩) hHeld ?_; rotate_left; focus (intro w hSw; (try dsimp only at hSw); go_simp; (try with_reducible rfl); done))
    try simp only [Act.put, List.setIfInBounds_toArray, List.set_cons_zero, List.set_cons_succ]
    first | refine takeW (i := 2) (dst := some 15) (v := undef) rfl rfl (by kernel_rfl) (by kernel_rfl) (by kernel_rfl) (fun _ _ _ h => h) (Or.inr ⟨by rfl, rfl⟩) hHeld ?_ | (refine takeW (i := 2) (dst := some 15) (v := ?_) rfl rfl (by kernel_rfl) (by kernel_rfl) (by kernel_rfl) (fun _ _ _ h => h) (Or.inl ⟨by rfl, ?_⟩) hHeld ?_; rotate_left; focus (intro w hSw; (try dsimp only at hSw); go_simp; (try with_reducible rfl); done))
    try simp only [Act.put, List.setIfInBounds_toArray, List.set_cons_zero, List.set_cons_succ]
    first | refine takeW (i := 3) (dst := some 16) (v := undef) rfl rfl (by kernel_rfl) (by kernel_rfl) (by kernel_rfl) (fun _ _ _ h => h) (Or.inr ⟨by rfl, rfl⟩) hHeld ?_ | (refine takeW (i := 3) (dst := some 16) (v := ?_) rfl rfl (by kernel_rfl) (by kernel_rfl) (by kernel_rfl) (fun _ _ _ h => h) (Or.inl ⟨by rfl, ?_⟩) hHeld ?_; rotate_left; focus (intro w hSw; (try dsimp only at hSw); go_simp; (try with_reducible rfl); done))
    try simp only [Act.put, List.setIfInBounds_toArray, List.set_cons_zero, List.set_cons_succ]
    first | refine takeW (i := 5) (dst := some 18) (v := undef) rfl rfl (by kernel_rfl) (by kernel_rfl) (by kernel_rfl) (fun _ _ _ h => h) (Or.inr ⟨by rfl, rfl⟩) hHeld ?_ | (refine takeW (i := 5) (dst := some 18) (v := ?_) rfl rfl (by kernel_rfl) (by kernel_rfl) (by kernel_rfl) (fun _ _ _ h => h) (Or.inl ⟨by rfl, ?_⟩) hHeld ?_; rotate_left; focus (intro w hSw; (try dsimp only at hSw); go_simp; (try with_reducible rfl); done))
    try simp only [Act.put, List.setIfInBounds_toArray, List.set_cons_zero, List.set_cons_succ]
    first | refine takeW (i := 6) (dst := some 19) (v := undef) rfl rfl (by kernel_rfl) (by kernel_rfl) (by kernel_rfl) (fun _ _ _ h => h) (Or.inr ⟨by rfl, rfl⟩) hHeld ?_ | (refine takeW (i := 6) (dst := some 19) (v := ?_) rfl rfl (by kernel_rfl) (by kernel_rfl) (by kernel_rfl) (fun _ _ _ h => h) (Or.inl ⟨by rfl, ?_⟩) hHeld ?_; rotate_left; focus (intro w hSw; (try dsimp only at hSw); go_simp; (try with_reducible rfl); done))
    try simp only [Act.put, List.setIfInBounds_toArray, List.set_cons_zero, List.set_cons_succ]
    refine wpAnyH_ready (rs := [4]) (by kernel_rfl) (by simp) ?_
    refine AllReadyH.cons (o := _) rfl (fun KK hK => ?_) AllReadyH.nil
    go_simp
    refine (CK.out _ HD5.out).mono ?_
    rintro e y1' ⟨rfl, hb7⟩
    have HY1 : Hid (Below V5.heap.size V5 y1') := HD5.out.trans (hb7.mono (Nat.le_refl _))
    have hS1 := HSX.out y1' HY1.out
    clear hb7
    refine hK.out _ _ hS1 (fun hHeld => ?_)
    clear hK KK
    try simp only [Act.put]
    try simp only [List.setIfInBounds_toArray]
    try simp only [List.set_cons_succ]
    try simp only [List.set_cons_zero]
    refine wpAnyH_ready (rs := [7]) (by kernel_rfl) (by simp) ?_
    refine AllReadyH.cons (o := _) rfl (fun KK hK => ?_) AllReadyH.nil
    go_simp
    refine (CR.out y1' HY1.out).mono ?_
    rintro e y2' ⟨rfl, hb9⟩
    have HY2 : Hid (Below V5.heap.size V5 y2') := HY1.out.trans (hb9.mono HY1.out.size)
    have hS2 := HSX.out y2' HY2.out
    clear hb9
    refine hK.out _ _ hS2 (fun hHeld => ?_)
    clear hK KK
    try simp only [Act.put]
    try simp only [List.setIfInBounds_toArray]
    try simp only [List.set_cons_succ]
    try simp only [List.set_cons_zero]
    first | refine takeW (i := 8) (dst := some 21) (v := undef) rfl rfl (by kernel_rfl) (by kernel_rfl) (by kernel_rfl) (fun _ _ _ h => h) (Or.inr ⟨by rfl, rfl⟩) hHeld ?_ | (refine takeW (i := 8) (dst := some 21) (v := ?_) rfl rfl (by kernel_rfl) (by kernel_rfl) (by kernel_rfl) (fun _ _ _ h => h) (Or.inl ⟨by rfl, ?_⟩) hHeld ?_; rotate_left; focus (intro w hSw; (try dsimp only at hSw); go_simp; (try with_reducible rfl); done))
    try simp only [Act.put, List.setIfInBounds_toArray, List.set_cons_zero, List.set_cons_succ]
    (refine takeW (i := 9) (dst := some 22) (v := ?_) rfl rfl (by kernel_rfl) (by kernel_rfl) (by kernel_rfl) (fun _ _ _ h => h) (Or.inl ⟨by rfl, ?_⟩) hHeld ?_; rotate_left; focus (intro w hSw; (try dsimp only at hSw); go_simp; (try with_reducible rfl); done))
    try simp only [Act.put, List.setIfInBounds_toArray, List.set_cons_zero, List.set_cons_succ]
    (refine takeW (i := 10) (dst := some 4) (v := ?_) rfl rfl (by kernel_rfl) (by kernel_rfl) (by kernel_rfl) (fun _ _ _ h => h) (Or.inl ⟨by rfl, ?_⟩) hHeld ?_; rotate_left; focus (intro w hSw; (try dsimp only at hSw); go_simp; (try with_reducible rfl); done))
    try simp only [Act.put]
    try simp only [List.setIfInBounds_toArray]
    try simp only [List.set_cons_succ]
    try simp only [List.set_cons_zero]
    refine wpAnyH_done (by kernel_rfl) ?_ _
    have HF := hid (HKP.out y2' HY2.out).2.2.2
    clear hHeld hS hS1 hS2 CK CR
    go_wp2
    go_ret
    exact ⟨rfl, HF.out⟩
  | true =>
    refine wp_region_held_drew (S := (fun X : World => X.cell? ⟨B, 0, none⟩ = some (.int .i64 m) ∧ X.cell? ⟨B, 1, none⟩ = some (.slice a2 K c2) ∧ X.cell? ⟨B5, 0, none⟩ = some (.int .i64 kk) ∧ X.cell? ⟨B5, 1, none⟩ = some (.slice a1 NT c1) ∧ X.cell? ⟨B5, 2, none⟩ = some (.slice a5 NP c5))) (by kernel_rfl) hS (fun hHeld => ?_)
    (refine takeW (i := 0) (dst := some 13) (v := ?_) rfl rfl (by kernel_rfl) (by kernel_rfl) (by kernel_rfl) (fun _ _ _ h => h) (Or.inl ⟨by rfl, ?_⟩) hHeld ?_; rotate_left; focus (intro w hSw; (try dsimp only at hSw); go_simp; (try with_reducible rfl); done))
    try simp only [Act.put, List.setIfInBounds_toArray, List.set_cons_zero, List.set_cons_succ]
    (refine takeW (i := 1) (dst := some 14) (v := ?_) rfl rfl (by kernel_rfl) (by kernel_rfl) (by kernel_rfl) (fun _ _ _ h => h) (Or.inl ⟨by rfl, ?_⟩) hHeld ?_; rotate_left; focus (intro w hSw; (try dsimp only at hSw); go_simp; (try with_reducible rfl); done))
    try simp only [Act.put, List.setIfInBounds_toArray, List.set_cons_zero, List.set_cons_succ]
    first | refine takeW (i := 2) (dst := some 15) (v := undef) rfl rfl (by kernel_rfl) (by kernel_rfl) (by kernel_rfl) (fun _ _ _ h => h) (Or.inr ⟨by rfl, rfl⟩) hHeld ?_ | (refine takeW (i := 2) (dst := some 15) (v := ?_) rfl rfl (by kernel_rfl) (by kernel_rfl) (by kernel_rfl) (fun _ _ _ h => h) (Or.inl ⟨by rfl, ?_⟩) hHeld ?_; rotate_left; focus (intro w hSw; (try dsimp only at hSw); go_simp; (try with_reducible rfl); done))
    try simp only [Act.put, List.setIfInBounds_toArray, List.set_cons_zero, List.set_cons_succ]
    first | refine takeW (i := 3) (dst := some 16) (v := undef) rfl rfl (by kernel_rfl) (by kernel_rfl) (by kernel_rfl) (fun _ _ _ h => h) (Or.inr ⟨by rfl, rfl⟩) hHeld ?_ | (refine takeW (i := 3) (dst := some 16) (v := ?_) rfl rfl (by kernel_rfl) (by kernel_rfl) (by kernel_rfl) (fun _ _ _ h => h) (Or.inl ⟨by rfl, ?_⟩) hHeld ?_; rotate_left; focus (intro w hSw; (try dsimp only at hSw); go_simp; (try with_reducible rfl); done))
    try simp only [Act.put, List.setIfInBounds_toArray, List.set_cons_zero, List.set_cons_succ]
    first | refine takeW (i := 5) (dst := some 18) (v := undef) rfl rfl (by kernel_rfl) (by kernel_rfl) (by kernel_rfl) (fun _ _ _ h => h) (Or.inr ⟨by rfl, rfl⟩) hHeld ?_ | (refine takeW (i := 5) (dst := some 18) (v := ?_) rfl rfl (by kernel_rfl) (by kernel_rfl) (by kernel_rfl) (fun _ _ _ h => h) (Or.inl ⟨by rfl, ?_⟩) hHeld ?_; rotate_left; focus (intro w hSw; (try dsimp only at hSw); go_simp; (try with_reducible rfl); done))
    try simp only [Act.put, List.setIfInBounds_toArray, List.set_cons_zero, List.set_cons_succ]
    first | refine takeW (i := 6) (dst := some 19) (v := undef) rfl rfl (by kernel_rfl) (by kernel_rfl) (by kernel_rfl) (fun _ _ _ h => h) (Or.inr ⟨by rfl, rfl⟩) hHeld ?_ | (refine takeW (i := 6) (dst := some 19) (v := ?_) rfl rfl (by kernel_rfl) (by kernel_rfl) (by kernel_rfl) (fun _ _ _ h => h) (Or.inl ⟨by rfl, ?_⟩) hHeld ?_; rotate_left; focus (intro w hSw; (try dsimp only at hSw); go_simp; (try with_reducible rfl); done))
    try simp only [Act.put, List.setIfInBounds_toArray, List.set_cons_zero, List.set_cons_succ]
    refine wpAnyH_ready (rs := [4]) (by kernel_rfl) (by simp) ?_
    refine AllReadyH.cons (o := _) rfl (fun KK hK => ?_) AllReadyH.nil
    go_simp
    refine (CK.out _ HD5.out).mono ?_
    rintro e y1' ⟨rfl, hb7⟩
    have HY1 : Hid (Below V5.heap.size V5 y1') := HD5.out.trans (hb7.mono (Nat.le_refl _))
    have hS1 := HSX.out y1' HY1.out
    clear hb7
    refine hK.out _ _ hS1 (fun hHeld => ?_)
    clear hK KK
    try simp only [Act.put]
    try simp only [List.setIfInBounds_toArray]
    try simp only [List.set_cons_succ]
    try simp only [List.set_cons_zero]
    refine wpAnyH_ready (rs := [7]) (by kernel_rfl) (by simp) ?_
    refine AllReadyH.cons (o := _) rfl (fun KK hK => ?_) AllReadyH.nil
    go_simp
    refine (CR.out y1' HY1.out).mono ?_
    rintro e y2' ⟨rfl, hb9⟩
    have HY2 : Hid (Below V5.heap.size V5 y2') := HY1.out.trans (hb9.mono HY1.out.size)
    have hS2 := HSX.out y2' HY2.out
    clear hb9
    refine hK.out _ _ hS2 (fun hHeld => ?_)
    clear hK KK
    try simp only [Act.put]
    try simp only [List.setIfInBounds_toArray]
    try simp only [List.set_cons_succ]
    try simp only [List.set_cons_zero]
    first | refine takeW (i := 8) (dst := some 21) (v := undef) rfl rfl (by kernel_rfl) (by kernel_rfl) (by kernel_rfl) (fun _ _ _ h => h) (Or.inr ⟨by rfl, rfl⟩) hHeld ?_ | (refine takeW (i := 8) (dst := some 21) (v := ?_) rfl rfl (by kernel_rfl) (by kernel_rfl) (by kernel_rfl) (fun _ _ _ h => h) (Or.inl ⟨by rfl, ?_⟩) hHeld ?_; rotate_left; focus (intro w hSw; (try dsimp only at hSw); go_simp; (try with_reducible rfl); done))
    try simp only [Act.put, List.setIfInBounds_toArray, List.set_cons_zero, List.set_cons_succ]
    (refine takeW (i := 9) (dst := some 22) (v := ?_) rfl rfl (by kernel_rfl) (by kernel_rfl) (by kernel_rfl) (fun _ _ _ h => h) (Or.inl ⟨by rfl, ?_⟩) hHeld ?_; rotate_left; focus (intro w hSw; (try dsimp only at hSw); go_simp; (try with_reducible rfl); done))
    try simp only [Act.put, List.setIfInBounds_toArray, List.set_cons_zero, List.set_cons_succ]
    (refine takeW (i := 10) (dst := some 4) (v := ?_) rfl rfl (by kernel_rfl) (by kernel_rfl) (by kernel_rfl) (fun _ _ _ h => h) (Or.inl ⟨by rfl, ?_⟩) hHeld ?_; rotate_left; focus (intro w hSw; (try dsimp only at hSw); go_simp; (try with_reducible rfl); done))
    try simp only [Act.put]
    try simp only [List.setIfInBounds_toArray]
    try simp only [List.set_cons_succ]
    try simp only [List.set_cons_zero]
    refine wpAnyH_done (by kernel_rfl) ?_ _
    have HF := hid (HKP.out y2' HY2.out).2.2.2
    clear hHeld hS hS1 hS2 CK CR
    go_wp2
    go_ret
    exact ⟨rfl, HF.out⟩
end Go.Proofs.Ytckcbaegehfkoaa
