/-
  The law MinorNone.
  What the laws of layer 4 ask of the program's parts: a row of contracts over any way in which a part may lie in memory.
  carcanetlaw04.PartTells answers true, for any part that keeps the contracts.
  carcanetlaw04.PartOrder answers true, for any part that keeps the contracts.
  The document's components (Of of layer 4).
  carcanetlaw04.PartCounts answers true, for any part that keeps the contracts: the walk.
  carcanetlaw04.PartBridge answers true, for any part that keeps the contracts, and any Add that keeps its own.
  The law MinorGrows.
  The document's Induced (layer 6).
-/
import Derived.Test.YtlebimolgienkaaM23
import Derived.Lib.Walk
import Derived.Test.YtlebimolgienkaaM14
import Derived.Test.YtlebimolgienkaaM11
import Derived.Test.YtlebimolgienkaaM12
import Derived.Test.YtlebimolgienkaaM03
import Derived.Test.YtlebimolgienkaaM09
import Derived.BigQuiet
import Derived.Test.YtlebimolgienkaaM06
import Derived.Test.YtlebimolgienkaaM05
import Derived.Test.YtlebimolgienkaaM02
import Derived.Deep.LoopGhost
import Derived.Test.YtlebimolgienkaaM13
import Derived.Test.YtlebimolgienkaaM10
namespace Go.Proofs.Ytlebimolgienkaa
open Go.RowKit Go.Lib

set_option maxHeartbeats 8000000 in
set_option maxRecDepth 100000 in
theorem minorNone_law (n : Int) (a : Option Addr) (len cap : Nat) (l : List (Int × Int)) (kk : Int) (am : Option Addr) (lm cm : Nat) (LM : List (List Int)) (w : World) (hl : len = l.length) (hE : EAt w a l) (hM : CameR w am lm cm LM) :
    Calls Try.prog 11 #[.agg #[.int .i64 n, .slice a len cap], .agg #[.int .i64 kk, .slice am lm cm]] w fun e w' => e = .returned (.bool true) ∧ Below w.heap.size w w' := by
  obtain ⟨b, hbb⟩ := ex_eq w.heap.size
  obtain ⟨W0, hW0, hs0, hO0, hO1, hB0⟩ := new_two w (.cells #[.int .i64 n, .slice a len cap] 24) (.cells #[.int .i64 kk, .slice am lm cm] 39)
  rw [← hbb] at hs0 hO0 hO1 hB0
  have HBB0 := hid hbb
  have HK0 : Hid (∀ X, Below W0.heap.size W0 X → (X.cell? ⟨b, 0, none⟩ = some (.int .i64 n) ∧ X.cell? ⟨b, 1, none⟩ = some (.slice a len cap)) ∧ (X.cell? ⟨b + 1, 0, none⟩ = some (.int .i64 kk) ∧ X.cell? ⟨b + 1, 1, none⟩ = some (.slice am lm cm)) ∧ CameR X am lm cm LM ∧ EAt X a l ∧ Below b w X) := fun X hX => by
    have o0 := (hX.block b (by omega)).trans hO0
    have o1 := (hX.block (b + 1) (by omega)).trans hO1
    have hbx : Below b w X := hB0.trans (hX.mono (by omega))
    have hbx' : Below w.heap.size w X := by rw [← hbb]; exact hbx
    exact ⟨⟨cell_of_heap o0 0, cell_of_heap o0 1⟩, ⟨cell_of_heap o1 0, cell_of_heap o1 1⟩, hM.belowM hbx', hE.below hbx', hbx⟩
  have HL := hid hl
  have HW0 := hid hW0
  have hz0 : w.heap.size ≤ W0.heap.size := by omega
  clear hl hE hM hW0 hB0 hO0 hO1 hbb hz0
  go_enter Try.func11, Try.ntmps11
  go_wp2_with fail
  rw [← HW0.out]
  refine (mshown_any _).mono ?_
  rintro e w1 ⟨rfl, hb1⟩
  rw [← HBB0.out]
  obtain ⟨⟨x0, x1⟩, _, _, hE1, _⟩ := HK0.out w1 hb1
  have CA := hid (net_any n a len cap l 20 w1 (by omega) HL.out hE1)
  have HB1 := hid hb1
  clear hb1 HW0 hE1
  go_wp2_with fail
  refine CA.out.mono ?_
  rintro e w2 ⟨m, ys, a2, c2, rfl, hm20, hR, hys, hsl, hE2, hb2⟩
  obtain ⟨K, hK⟩ := ex_eq ys.length
  rw [← hK]
  have HK := hid hK
  obtain ⟨B, hBB⟩ := ex_eq w2.heap.size
  obtain ⟨V2, hV2⟩ := ex_eq (w2.alloc (.cells #[.int .i64 m, .slice a2 K c2] 26))
  have HG2 : Hid (GC V2 B m a2 K c2 ys) := by
    show GC V2 _ _ _ _ _ _
    rw [hV2, hBB]; exact gc_new8 hE2
  have HX2 : Hid (Below W0.heap.size W0 V2) := by
    have h1 : Below w2.heap.size w2 V2 := by rw [hV2]; exact below_one _ _
    have h2 : Below W0.heap.size W0 w2 := HB1.out.trans (hb2.mono HB1.out.size)
    exact h2.trans (h1.mono h2.size)
  have HV2 := hid hV2
  have HBB := hid hBB
  have HR := hid hR
  have HSL := hid hsl
  have hK3 : K ≤ 300 := by omega
  clear hK hV2 hE2 hb2 hR hys hsl CA x0 x1 HB1 hBB
  go_upto_region 3 with fail
  rw [← HV2.out, ← HBB.out]
  clear HV2 HBB
  obtain ⟨g0, g1⟩ := HG2.out.cells
  have hsB : B < V2.heap.size := block_lt_of_cell g0
  obtain ⟨K5, hK5⟩ := ex_eq (min K 5)
  obtain ⟨V3, hV3⟩ := ex_eq (V2.alloc (.cells #[.int .i64 m, .slice a2 K5 c2] 26))
  obtain ⟨F3, hF3⟩ := ex_eq V2.heap.size
  have hbV3 : Below V2.heap.size V2 V3 := by rw [hV3]; exact below_one _ _
  have HG3 : Hid (GC V3 F3 m a2 K5 c2 (ys.take 5)) := by
    show GC V3 _ _ _ _ _ _
    rw [hV3, hF3]; exact gc_new8 (eat_take HG2.out.at_ 5)
  have HK5 : Hid (K5 = (ys.take 5).length) := by show _ = _; rw [List.length_take, hK5, HK.out]; omega
  have HX3 : Hid (Below W0.heap.size W0 V3) := HX2.out.trans (hbV3.mono HX2.out.size)
  have HV3 := hid hV3
  have HF3 := hid hF3
  have kmin : min (K : Int) 5 = (K5 : Int) := by omega
  have k0 : (0 : Int) ≤ (K5 : Int) := by omega
  have k9 : (K5 : Int) ≤ (K : Int) := by omega
  have kc : (K5 : Int) ≤ (c2 : Int) := by have := HSL.out.1; rw [← HK.out] at this; omega
  have HNIL : Hid (a2 = none → K = 0 ∧ c2 = 0) := fun e => by have h1 := HSL.out.2.1 e; have h2 := HSL.out.1; rw [← HK.out] at h2; exact ⟨by omega, h1⟩
  clear hV3 hbV3 hF3 hK5
  have HGO : Hid (∀ P : Prop, P → P) := fun _ h => h
  cases a2 with
  | none =>
    obtain ⟨rfl, rfl⟩ := HNIL.out rfl
    obtain rfl : K5 = 0 := by omega
    clear kmin k0 k9 kc
    have kmin : min (0 : Int) 5 = 0 := by decide
    go_upto_region 5 with fail
    rw [← HV3.out, ← HF3.out]
    clear kmin HV3 HF3 g0 g1
    have CS := hid (small_any kk am lm cm LM V3 (HK0.out V3 HX3.out).2.2.1)
    obtain ⟨_, ⟨m0, m1⟩, _, _, _⟩ := HK0.out V3 HX3.out
    go_wp2_with fail
    refine CS.out.mono ?_
    rintro e w5 ⟨v5, rfl, ht5⟩
    obtain ⟨a5, c5, rfl, hL5, hb5⟩ := ht5.at
    have hl6 := smallR_len LM
    have HEA := hid (@smallR_each LM)
    obtain ⟨Ss, hSs⟩ := ex_eq (smallR LM)
    rw [← hSs] at hL5 hl6 HEA ⊢
    obtain ⟨M5, hM5⟩ := ex_eq Ss.length
    rw [← hM5] at hl6 ⊢
    have HM5 := hid hM5
    obtain ⟨B5, hB5⟩ := ex_eq w5.heap.size
    obtain ⟨V5, hV5⟩ := ex_eq (w5.alloc (.cells #[.int .i64 kk, .slice a5 M5 c5] 40))
    have HMC5 : Hid (MC V5 B5 kk a5 M5 c5 Ss) := by
      show MC V5 _ _ _ _ _ _
      rw [hV5, hB5]; exact mc_new hL5
    have hbV : Below V3.heap.size V3 V5 := by
      have h1 : Below w5.heap.size w5 V5 := by rw [hV5]; exact below_one _ _
      exact hb5.trans (h1.mono hb5.size)
    have HXV := hid hbV
    have HX5 : Hid (Below W0.heap.size W0 V5) := HX3.out.trans (hbV.mono HX3.out.size)
    have HV5 := hid hV5
    have HB5 := hid hB5
    clear ht5 hL5 hb5 hSs hM5 hB5 hV5 hbV CS m0 m1
    go_upto_region 6 with fail
    rw [← HV5.out, ← HB5.out]
    clear HV5 HB5
    have CK := hid (check_any m none 0 (ys.take 5) true kk a5 c5 Ss false V5 (by rw [List.length_take]; omega) (HG3.out.at_.below HXV.out) ⟨fun _ => HR.out.takeM 5, fun _ => rfl⟩ (by rw [← HM5.out]; omega) (fun S hS => Nat.le_trans (HEA.out S hS) (by decide)) HMC5.out.at_ ⟨fun h => (by cases h), fun h => by have h1 := model_edges h; rw [List.length_take] at h1; omega⟩)
    rw [← HK5.out, ← HM5.out] at CK
    obtain ⟨k0, k1⟩ := (HG3.out.on HXV.out).cells
    have m0 := HMC5.out.c0
    have m1 := HMC5.out.c1
    go_wp2_with fail
    refine CK.out.mono ?_
    rintro e w6 ⟨rfl, hb6⟩
    have HX6 : Hid (Below W0.heap.size W0 w6) := HX5.out.trans (hb6.mono HX5.out.size)
    have HY6 := hid hb6
    obtain ⟨⟨x0, x1⟩, _, _, hE6, _⟩ := HK0.out w6 HX6.out
    have CA := hid (net_any n a len cap l 4 w6 (by omega) HL.out hE6)
    clear CK hb6 k0 k1 m0 m1 hE6
    go_wp2_with fail
    refine CA.out.mono ?_
    rintro e w7 ⟨m4, zs, a7, c7, rfl, hm4, hR7, _, _, hE7, hb7⟩
    obtain ⟨K7, hK7⟩ := ex_eq zs.length
    rw [← hK7]
    obtain ⟨V8, hV8⟩ := ex_eq (w7.alloc (.cells #[.int .i64 m4, .slice a7 K7 c7] 26))
    obtain ⟨B8, hB8⟩ := ex_eq w7.heap.size
    have HG8 : Hid (GC V8 B8 m4 a7 K7 c7 zs) := by
      show GC V8 _ _ _ _ _ _
      rw [hV8, hB8]; exact gc_new8 hE7
    have hb68 : Below w6.heap.size w6 V8 := by
      have h1 : Below w7.heap.size w7 V8 := by rw [hV8]; exact below_one _ _
      exact hb7.trans (h1.mono hb7.size)
    have hb58 : Below V5.heap.size V5 V8 := HY6.out.trans (hb68.mono HY6.out.size)
    have HMC8 := hid (HMC5.out.on hb58)
    have HX8 : Hid (Below W0.heap.size W0 V8) := HX6.out.trans (hb68.mono HX6.out.size)
    have HK7 := hid hK7
    have HV8 := hid hV8
    have HB8 := hid hB8
    have HR7 := hid hR7
    have HF8 : Hid (∀ X, Below V8.heap.size V8 X → Below w.heap.size w X) := fun X hX => by
      rw [← HBB0.out]; exact (HK0.out X (HX8.out.trans (hX.mono HX8.out.size))).2.2.2.2
    obtain ⟨r4, hr4⟩ := boolR_of (ModelL m4 zs kk Ss)
    have CT := hid (check_any m4 a7 c7 zs true kk a5 c5 Ss r4 V8 (by have := hR7.2.2.1; omega) HG8.out.at_ ⟨fun _ => HR7.out, fun _ => rfl⟩ (by rw [← HM5.out]; omega) (fun S hS => Nat.le_trans (HEA.out S hS) (by decide)) HMC8.out.at_ hr4)
    rw [← HK7.out, ← HM5.out] at CT
    have HR4 := hid hr4
    clear hK7 hV8 hB8 hE7 hb7 hb68 hb58 hR7 CA x0 x1 hr4
    go_upto_region 9 with fail
    rw [← HV8.out, ← HB8.out]
    clear HV8 HB8
    obtain ⟨k0, k1⟩ := HG8.out.cells
    have m0 := HMC8.out.c0
    have m1 := HMC8.out.c1
    by_cases h4 : m4 = 4
    · subst h4
      by_cases hk1 : kk = 1
      · subst hk1
        go_wp2_with fail
        refine CT.out.mono ?_
        rintro e w9 ⟨rfl, hb9⟩
        have HB9 := hid (HF8.out w9 hb9)
        have t0 := (hb9.cell (p := ⟨B8, 1, none⟩) (block_lt_of_cell k1)).trans k1
        clear CT hb9 k0 k1 m0 m1
        cases r4 with
        | false =>
          go_wp2
          go_ret
          exact ⟨rfl, HB9.out⟩
        | true =>
          have hM := HR4.out.1 rfl
          have h1 := model_edges hM
          have h2 := four_edges HR7.out
          obtain rfl : K7 = 6 := by rw [HK7.out]; omega
          clear hM h1 h2
          go_wp2
          go_ret
          exact ⟨rfl, HB9.out⟩
      · obtain rfl : r4 = false := b_false HR4.out (fun hM => by
          have h1 := model_verts hM
          rcases hM.kind with e | e
          · exact hk1 e
          · rw [e] at h1
            have : patN 2 = 5 := by decide
            omega)
        have q3 : (kk == 1) = false := by simp [hk1]
        clear HR4
        go_wp2_with fail
        refine CT.out.mono ?_
        rintro e w9 ⟨rfl, hb9⟩
        have HB9 := hid (HF8.out w9 hb9)
        clear CT hb9 k0 k1 m0 m1
        go_wp2
        go_ret
        exact ⟨rfl, HB9.out⟩
    · obtain rfl : r4 = false := b_false HR4.out (fun hM => by
        have h1 := model_verts hM
        rcases hM.kind with e | e
        · rw [e] at h1
          have : patN 1 = 4 := by decide
          omega
        · rw [e] at h1
          have : patN 2 = 5 := by decide
          omega)
      have q1 : ((m4 : Int) == 4) = false := by simp; omega
      have q2 : ¬ (m4 : Int) = 4 := by omega
      clear HR4 h4
      go_wp2_with fail
      refine CT.out.mono ?_
      rintro e w9 ⟨rfl, hb9⟩
      have HB9 := hid (HF8.out w9 hb9)
      clear CT hb9 k0 k1 m0 m1
      go_wp2
      go_ret
      exact ⟨rfl, HB9.out⟩
  | some ad =>
    go_upto_region 5 with fail
    rw [← HV3.out, ← HF3.out]
    clear HV3 HF3 g0 g1 kmin k0 k9 kc
    have CS := hid (small_any kk am lm cm LM V3 (HK0.out V3 HX3.out).2.2.1)
    obtain ⟨_, ⟨m0, m1⟩, _, _, _⟩ := HK0.out V3 HX3.out
    go_wp2_with fail
    refine CS.out.mono ?_
    rintro e w5 ⟨v5, rfl, ht5⟩
    obtain ⟨a5, c5, rfl, hL5, hb5⟩ := ht5.at
    have hl6 := smallR_len LM
    have HEA := hid (@smallR_each LM)
    obtain ⟨Ss, hSs⟩ := ex_eq (smallR LM)
    rw [← hSs] at hL5 hl6 HEA ⊢
    obtain ⟨M5, hM5⟩ := ex_eq Ss.length
    rw [← hM5] at hl6 ⊢
    have HM5 := hid hM5
    obtain ⟨B5, hB5⟩ := ex_eq w5.heap.size
    obtain ⟨V5, hV5⟩ := ex_eq (w5.alloc (.cells #[.int .i64 kk, .slice a5 M5 c5] 40))
    have HMC5 : Hid (MC V5 B5 kk a5 M5 c5 Ss) := by
      show MC V5 _ _ _ _ _ _
      rw [hV5, hB5]; exact mc_new hL5
    have hbV : Below V3.heap.size V3 V5 := by
      have h1 : Below w5.heap.size w5 V5 := by rw [hV5]; exact below_one _ _
      exact hb5.trans (h1.mono hb5.size)
    have HXV := hid hbV
    have HX5 : Hid (Below W0.heap.size W0 V5) := HX3.out.trans (hbV.mono HX3.out.size)
    have HV5 := hid hV5
    have HB5 := hid hB5
    clear ht5 hL5 hb5 hSs hM5 hB5 hV5 hbV CS m0 m1
    go_upto_region 6 with fail
    rw [← HV5.out, ← HB5.out]
    clear HV5 HB5
    have CK := hid (check_any m (some ad) c2 (ys.take 5) true kk a5 c5 Ss false V5 (by rw [List.length_take]; omega) (HG3.out.at_.below HXV.out) ⟨fun _ => HR.out.takeM 5, fun _ => rfl⟩ (by rw [← HM5.out]; omega) (fun S hS => Nat.le_trans (HEA.out S hS) (by decide)) HMC5.out.at_ ⟨fun h => (by cases h), fun h => by have h1 := model_edges h; rw [List.length_take] at h1; omega⟩)
    rw [← HK5.out, ← HM5.out] at CK
    obtain ⟨k0, k1⟩ := (HG3.out.on HXV.out).cells
    have m0 := HMC5.out.c0
    have m1 := HMC5.out.c1
    go_wp2_with fail
    refine CK.out.mono ?_
    rintro e w6 ⟨rfl, hb6⟩
    have HX6 : Hid (Below W0.heap.size W0 w6) := HX5.out.trans (hb6.mono HX5.out.size)
    have HY6 := hid hb6
    obtain ⟨⟨x0, x1⟩, _, _, hE6, _⟩ := HK0.out w6 HX6.out
    have CA := hid (net_any n a len cap l 4 w6 (by omega) HL.out hE6)
    clear CK hb6 k0 k1 m0 m1 hE6
    go_wp2_with fail
    refine CA.out.mono ?_
    rintro e w7 ⟨m4, zs, a7, c7, rfl, hm4, hR7, _, _, hE7, hb7⟩
    obtain ⟨K7, hK7⟩ := ex_eq zs.length
    rw [← hK7]
    obtain ⟨V8, hV8⟩ := ex_eq (w7.alloc (.cells #[.int .i64 m4, .slice a7 K7 c7] 26))
    obtain ⟨B8, hB8⟩ := ex_eq w7.heap.size
    have HG8 : Hid (GC V8 B8 m4 a7 K7 c7 zs) := by
      show GC V8 _ _ _ _ _ _
      rw [hV8, hB8]; exact gc_new8 hE7
    have hb68 : Below w6.heap.size w6 V8 := by
      have h1 : Below w7.heap.size w7 V8 := by rw [hV8]; exact below_one _ _
      exact hb7.trans (h1.mono hb7.size)
    have hb58 : Below V5.heap.size V5 V8 := HY6.out.trans (hb68.mono HY6.out.size)
    have HMC8 := hid (HMC5.out.on hb58)
    have HX8 : Hid (Below W0.heap.size W0 V8) := HX6.out.trans (hb68.mono HX6.out.size)
    have HK7 := hid hK7
    have HV8 := hid hV8
    have HB8 := hid hB8
    have HR7 := hid hR7
    have HF8 : Hid (∀ X, Below V8.heap.size V8 X → Below w.heap.size w X) := fun X hX => by
      rw [← HBB0.out]; exact (HK0.out X (HX8.out.trans (hX.mono HX8.out.size))).2.2.2.2
    obtain ⟨r4, hr4⟩ := boolR_of (ModelL m4 zs kk Ss)
    have CT := hid (check_any m4 a7 c7 zs true kk a5 c5 Ss r4 V8 (by have := hR7.2.2.1; omega) HG8.out.at_ ⟨fun _ => HR7.out, fun _ => rfl⟩ (by rw [← HM5.out]; omega) (fun S hS => Nat.le_trans (HEA.out S hS) (by decide)) HMC8.out.at_ hr4)
    rw [← HK7.out, ← HM5.out] at CT
    have HR4 := hid hr4
    clear hK7 hV8 hB8 hE7 hb7 hb68 hb58 hR7 CA x0 x1 hr4
    go_upto_region 9 with fail
    rw [← HV8.out, ← HB8.out]
    clear HV8 HB8
    obtain ⟨k0, k1⟩ := HG8.out.cells
    have m0 := HMC8.out.c0
    have m1 := HMC8.out.c1
    by_cases h4 : m4 = 4
    · subst h4
      by_cases hk1 : kk = 1
      · subst hk1
        go_wp2_with fail
        refine CT.out.mono ?_
        rintro e w9 ⟨rfl, hb9⟩
        have HB9 := hid (HF8.out w9 hb9)
        have t0 := (hb9.cell (p := ⟨B8, 1, none⟩) (block_lt_of_cell k1)).trans k1
        clear CT hb9 k0 k1 m0 m1
        cases r4 with
        | false =>
          go_wp2
          go_ret
          exact ⟨rfl, HB9.out⟩
        | true =>
          have hM := HR4.out.1 rfl
          have h1 := model_edges hM
          have h2 := four_edges HR7.out
          obtain rfl : K7 = 6 := by rw [HK7.out]; omega
          clear hM h1 h2
          go_wp2
          go_ret
          exact ⟨rfl, HB9.out⟩
      · obtain rfl : r4 = false := b_false HR4.out (fun hM => by
          have h1 := model_verts hM
          rcases hM.kind with e | e
          · exact hk1 e
          · rw [e] at h1
            have : patN 2 = 5 := by decide
            omega)
        have q3 : (kk == 1) = false := by simp [hk1]
        clear HR4
        go_wp2_with fail
        refine CT.out.mono ?_
        rintro e w9 ⟨rfl, hb9⟩
        have HB9 := hid (HF8.out w9 hb9)
        clear CT hb9 k0 k1 m0 m1
        go_wp2
        go_ret
        exact ⟨rfl, HB9.out⟩
    · obtain rfl : r4 = false := b_false HR4.out (fun hM => by
        have h1 := model_verts hM
        rcases hM.kind with e | e
        · rw [e] at h1
          have : patN 1 = 4 := by decide
          omega
        · rw [e] at h1
          have : patN 2 = 5 := by decide
          omega)
      have q1 : ((m4 : Int) == 4) = false := by simp; omega
      have q2 : ¬ (m4 : Int) = 4 := by omega
      clear HR4 h4
      go_wp2_with fail
      refine CT.out.mono ?_
      rintro e w9 ⟨rfl, hb9⟩
      have HB9 := hid (HF8.out w9 hb9)
      clear CT hb9 k0 k1 m0 m1
      go_wp2
      go_ret
      exact ⟨rfl, HB9.out⟩
end Go.Proofs.Ytlebimolgienkaa
namespace Go.Proofs.Ytlebimolgienkaa
open Go.RowKit Go.Lib

/-- A list of rows in memory, all of them in blocks of A. -/
def LLIn (w : World) (A : Nat → Prop) (a : Option Addr) (LL : List (List Int)) : Prop :=
  0 < LL.length → ∃ g off, a = some ⟨g, off, none⟩ ∧ g < w.heap.size ∧ A g ∧ ∀ k (hk : k < LL.length), ∃ ak ck, w.cell? ⟨g, off + k, none⟩ = some (.slice ak LL[k].length ck) ∧ IAt w ak LL[k] ∧ ∀ g off, ak = some ⟨g, off, none⟩ → 0 < LL[k].length → A g
theorem LLIn.at {w : World} {A : Nat → Prop} {a : Option Addr} {LL : List (List Int)} (h : LLIn w A a LL) : LLAt w a LL := fun h0 => by
  obtain ⟨g, off, ha, hg, _, hc⟩ := h h0
  exact ⟨g, off, ha, hg, fun k hk => by obtain ⟨ak, ck, h1, h2, _⟩ := hc k hk; exact ⟨ak, ck, h1, h2⟩⟩
theorem LLIn.kept {w w' : World} {A T : Nat → Prop} {a : Option Addr} {LL : List (List Int)} (h : LLIn w A a LL) (hk : KeptBut T w w') (hs : ∀ k, A k → k < w.heap.size → ¬ T k) : LLIn w' A a LL := fun h0 => by
  obtain ⟨g, off, ha, hg, hA, hc⟩ := h h0
  refine ⟨g, off, ha, Nat.lt_of_lt_of_le hg hk.size, hA, fun k hk' => ?_⟩
  obtain ⟨ak, ck, h1, h2, h3⟩ := hc k hk'
  refine ⟨ak, ck, (hk.cell (p := ⟨g, off + k, none⟩) hg (hs g hA hg)).trans h1, h2.kept hk (fun g' off' e h0' => hs g' (h3 g' off' e h0') ?_), h3⟩
  obtain ⟨g2, off2, e2, hg2, _⟩ := h2 h0'
  rw [e] at e2
  cases e2
  exact hg2
theorem LLIn.below {w w' : World} {A : Nat → Prop} {a : Option Addr} {LL : List (List Int)} (h : LLIn w A a LL) (hb : Below w.heap.size w w') : LLIn w' A a LL := h.kept (KeptBut.of_whole (fun _ => False) hb) (fun _ _ _ e => e)
theorem LLIn.mono {w : World} {A A' : Nat → Prop} {a : Option Addr} {LL : List (List Int)} (h : LLIn w A a LL) (hA : ∀ k, A k → A' k) : LLIn w A' a LL := fun h0 => by
  obtain ⟨g, off, ha, hg, hAg, hc⟩ := h h0
  refine ⟨g, off, ha, hg, hA g hAg, fun k hk => ?_⟩
  obtain ⟨ak, ck, h1, h2, h3⟩ := hc k hk
  exact ⟨ak, ck, h1, h2, fun g off e h0 => hA g (h3 g off e h0)⟩
theorem LLOwn.in {w : World} {base : Nat} {A : Nat → Prop} {v : Value} {us : List Value} {LL : List (List Int)} (h : LLOwn w base A v us LL) : ∃ a cap, v = .slice a LL.length cap ∧ LLIn w A a LL := by
  obtain ⟨a, cap, hv, hsl⟩ := sl_own h.1
  refine ⟨a, cap, hv, fun h0 => ?_⟩
  obtain ⟨g, cap', hv', hb, hg, hc, hcs⟩ := own_row h.1 h0
  rw [hv] at hv'
  simp only [Value.slice.injEq, true_and] at hv'
  refine ⟨g, 0, hv'.1, hg, h.2.2.1 g (by rw [hv, hv'.1]; rfl), fun k hk => ?_⟩
  obtain ⟨ak, ck, h1, h2, h3⟩ := h.2.2.2 k hk
  exact ⟨ak, ck, by rw [Nat.zero_add]; exact hcs k _ h1, h2, fun g off e h0 => (h3 g off e h0).1⟩

/-- What a call on a part leaves: the part with its classes f, in blocks that it had or that are new; all else as it was. -/
def PNext (PA : World → Addr → Nat → (Nat → Nat) → (Nat → Prop) → Prop) (S : Nat → Prop) (w w' : World) (p : Addr) (n : Nat) (f : Nat → Nat) : Prop :=
  ∃ S', PA w' p n f S' ∧ (∀ k, S' k → S k ∨ w.heap.size ≤ k) ∧ KeptBut S w w'
theorem LLIn.cell {w : World} {A : Nat → Prop} {a : Option Addr} {LL : List (List Int)} (h : LLIn w A a LL) {k : Nat} (hk : k < LL.length) : ∃ g off ak ck, a = some ⟨g, off, none⟩ ∧ w.cell? ⟨g, off + k, none⟩ = some (.slice ak LL[k].length ck) ∧ IAt w ak LL[k] := h.at.at hk
/-- What a call on a part leaves, over the world of the law. -/
theorem PNext.step {PA : World → Addr → Nat → (Nat → Nat) → (Nat → Prop) → Prop} {S : Nat → Prop} {u w w' : World} {p : Addr} {n b0 : Nat} {f : Nat → Nat} (h : PNext PA S w w' p n f) (hS : ∀ k, S k → b0 ≤ k) (hb : Below b0 u w) (h0 : b0 ≤ w.heap.size) :
    ∃ S', PA w' p n f S' ∧ (∀ k, S' k → b0 ≤ k) ∧ Below b0 u w' ∧ KeptBut S w w' ∧ (∀ k, S' k → S k ∨ w.heap.size ≤ k) := by
  obtain ⟨S', h1, h2, h3⟩ := h
  exact ⟨S', h1, fun k hk => (h2 k hk).elim (hS k) (fun e => by omega), hb.trans (h3.below h0 (fun k _ e => hS k e)), h3, h2⟩

end Go.Proofs.Ytlebimolgienkaa
namespace Go.Proofs.Ytlebimolgienkaa
open Go.RowKit Go.Lib

/-- Both parts, side by side. -/
structure TwoP (PA : World → Addr → Nat → (Nat → Nat) → (Nat → Prop) → Prop) (u w : World) (b0 : Nat) (p : Addr) (b g : Nat) (a : Option Addr) (n cap : Nat) (f : Nat → Nat) (S : Nat → Prop) : Prop where
  pa : PA w p n f S
  ge : ∀ k, S k → b0 ≤ k
  nb : ¬ S b
  ng : 0 < n → ¬ S g
  qa : QAt w b g a n cap f
  qb : b0 ≤ b
  qg : b0 ≤ g
  bel : Below b0 u w
theorem TwoP.next {PA : World → Addr → Nat → (Nat → Nat) → (Nat → Prop) → Prop} {u w w' : World} {b0 : Nat} {p : Addr} {b g : Nat} {a : Option Addr} {n cap : Nat} {f f' : Nat → Nat} {S : Nat → Prop} (h : TwoP PA u w b0 p b g a n cap f S) (hN : PNext PA S w w' p n f') (h0 : b0 ≤ u.heap.size) :
    ∃ S', PA w' p n f' S' ∧ (∀ k, S' k → b0 ≤ k) ∧ ¬ S' b ∧ (0 < n → ¬ S' g) ∧ QAt w' b g a n cap f ∧ Below b0 u w' := by
  obtain ⟨S', h1, h2, h3, h4, h5⟩ := hN.step h.ge h.bel (Nat.le_trans h0 h.bel.size)
  have hbl := block_lt_of_cell h.qa.box
  refine ⟨S', h1, h2, fun e => (h5 b e).elim h.nb (fun e => by simp at hbl; omega), fun hn e => (h5 g e).elim (h.ng hn) (fun e => by have := (h.qa.row hn).2.1; omega), h.qa.kept h4 h.nb h.ng, h3⟩
theorem TwoP.same {PA : World → Addr → Nat → (Nat → Nat) → (Nat → Prop) → Prop} {u w w' : World} {b0 : Nat} {p : Addr} {b g : Nat} {a : Option Addr} {n cap : Nat} {f : Nat → Nat} {S : Nat → Prop} (h : TwoP PA u w b0 p b g a n cap f S) (hN : PNext PA S w w' p n f) (h0 : b0 ≤ u.heap.size) : ∃ S', TwoP PA u w' b0 p b g a n cap f S' := by
  obtain ⟨S', h1, h2, h3, h4, h5, h6⟩ := h.next hN h0
  exact ⟨S', h1, h2, h3, h4, h5, h.qb, h.qg, h6⟩
end Go.Proofs.Ytlebimolgienkaa
namespace Go.Proofs.Ytlebimolgienkaa
open Go.RowKit Go.Lib

/-- Two parts, side by side. -/
structure PPr (PA : World → Addr → Nat → (Nat → Nat) → (Nat → Prop) → Prop) (u w : World) (b0 : Nat) (p q : Addr) (m : Nat) (f h : Nat → Nat) (S T : Nat → Prop) : Prop where
  pa : PA w p m f S
  qa : PA w q m h T
  sep : ∀ k, S k → ¬ T k
  geS : ∀ k, S k → b0 ≤ k
  geT : ∀ k, T k → b0 ≤ k
  bel : Below b0 u w
theorem PPr.turn {PA : World → Addr → Nat → (Nat → Nat) → (Nat → Prop) → Prop} {u w : World} {b0 : Nat} {p q : Addr} {m : Nat} {f h : Nat → Nat} {S T : Nat → Prop} (H : PPr PA u w b0 p q m f h S T) : PPr PA u w b0 q p m h f T S := ⟨H.qa, H.pa, fun k hk e => H.sep k e hk, H.geT, H.geS, H.bel⟩
end Go.Proofs.Ytlebimolgienkaa
namespace Go.Proofs.Ytlebimolgienkaa
open Go.RowKit Go.Lib

theorem RowB.kept {S : Nat → Prop} {w w' : World} {g n : Nat} {c : Nat → Bool} (h : RowB w g n c) (hk : KeptBut S w w') (hs : ¬ S g) : RowB w' g n c :=
  ⟨Nat.lt_of_lt_of_le h.1 hk.size, fun j hj => ⟨(hk.cell (p := ⟨g, j, none⟩) h.1 hs).trans (h.2 j hj).1, (hk.frozen (p := ⟨g, j, none⟩) h.1 hs).trans (h.2 j hj).2⟩⟩
end Go.Proofs.Ytlebimolgienkaa
namespace Go.Proofs.Ytlebimolgienkaa
open Go.RowKit Go.Lib

/-- A part, and what lies beside it. -/
structure POne (PA : World → Addr → Nat → (Nat → Nat) → (Nat → Prop) → Prop) (u w : World) (b0 : Nat) (p : Addr) (m : Nat) (f : Nat → Nat) (S : Nat → Prop) : Prop where
  pa : PA w p m f S
  ge : ∀ k, S k → b0 ≤ k
  bel : Below b0 u w
theorem POne.next {PA : World → Addr → Nat → (Nat → Nat) → (Nat → Prop) → Prop} {u w w' : World} {b0 : Nat} {p : Addr} {m : Nat} {f f' : Nat → Nat} {S : Nat → Prop} (H : POne PA u w b0 p m f S) (hN : PNext PA S w w' p m f') (h0 : b0 ≤ u.heap.size) :
    ∃ S', POne PA u w' b0 p m f' S' ∧ KeptBut S w w' ∧ ∀ k, S' k → S k ∨ w.heap.size ≤ k := by
  obtain ⟨S', h1, h2, h3, h4, h5⟩ := hN.step H.ge H.bel (Nat.le_trans h0 H.bel.size)
  exact ⟨S', ⟨h1, h2, h3⟩, h4, h5⟩
end Go.Proofs.Ytlebimolgienkaa
namespace Go.Proofs.Ytlebimolgienkaa
open Go.RowKit Go.Lib

theorem add_right {m p q er : Int} {ys zs : List (Int × Int)} (h : AddE m ys p q er zs) (hR : RightG m ys) (hp : 0 ≤ p ∧ p < m) (hq : 0 ≤ q ∧ q < m) (hne : p ≠ q) (hl : ys.length ≤ 300) :
    er = 0 ∧ RightG m zs ∧ ∀ e, e ∈ zs ↔ e ∈ ys ∨ e = (min p q, max p q) := by
  rcases h with ⟨h1, _⟩ | ⟨_, h2, _⟩ | ⟨h1, h2, ⟨h3, _⟩ | ⟨h3, h4, rfl, rfl⟩ | ⟨h3, h4, h5, _⟩ | ⟨h3, h4, h5, rfl, h6, h7, h8⟩⟩
  · exact absurd hR h1
  · exact absurd ⟨hp, hq⟩ h2
  · exact absurd h3 hne
  · exact ⟨rfl, hR, fun e => ⟨Or.inl, fun h => h.elim id (fun h => by rw [h]; exact h4)⟩⟩
  · omega
  · refine ⟨rfl, ⟨hR.1, hR.2.1, by omega, fun e he => ?_, h6⟩, h8⟩
    rcases (h8 e).1 he with he | rfl
    · exact hR.2.2.2.1 e he
    · simp only; omega
theorem next_ne {m p t : Nat} (hm : 2 ≤ m) (hp : p < m) (ht : t < m - 1) : ∃ q : Nat, ((p : Int) + 1 + t).tmod m = q ∧ q < m ∧ q ≠ p := by
  refine ⟨(p + 1 + t) % m, ?_, Nat.mod_lt _ (by omega), fun e => ?_⟩
  · have e : (p : Int) + 1 + t = ((p + 1 + t : Nat) : Int) := by omega
    rw [Int.tmod_eq_emod_of_nonneg (by omega), e]
    exact (Int.natCast_emod (p + 1 + t) m).symm
  · by_cases h : p + 1 + t < m
    · rw [Nat.mod_eq_of_lt h] at e; omega
    · rw [Nat.mod_eq_sub_mod (by omega), Nat.mod_eq_of_lt (by omega)] at e; omega

end Go.Proofs.Ytlebimolgienkaa
namespace Go.Proofs.Ytlebimolgienkaa
open Go.RowKit Go.Lib

set_option maxHeartbeats 8000000 in
set_option maxRecDepth 100000 in
theorem minorGrows_law (n : Int) (a : Option Addr) (len cap : Nat) (l : List (Int × Int)) (x y : Int) (kk : Int) (am : Option Addr) (lm cm : Nat) (LM : List (List Int)) (w : World) (hl : len = l.length) (hE : EAt w a l) (hM : CameR w am lm cm LM) :
    Calls Try.prog 10 #[.agg #[.int .i64 n, .slice a len cap], .agg #[.int .i64 x, .int .i64 y], .agg #[.int .i64 kk, .slice am lm cm]] w fun e w' => e = .returned (.bool true) ∧ Below w.heap.size w w' := by
  obtain ⟨b, hbb⟩ := ex_eq w.heap.size
  obtain ⟨W0, hW0, hs0, hO0, hO1, hO2, hB0⟩ := new_threeM w (.cells #[.int .i64 n, .slice a len cap] 24) (.cells #[.int .i64 x, .int .i64 y] 62) (.cells #[.int .i64 kk, .slice am lm cm] 39)
  rw [← hbb] at hs0 hO0 hO1 hO2 hB0
  have HBB0 := hid hbb
  have HK0 : Hid (∀ X, Below W0.heap.size W0 X → (X.cell? ⟨b, 0, none⟩ = some (.int .i64 n) ∧ X.cell? ⟨b, 1, none⟩ = some (.slice a len cap)) ∧ (X.cell? ⟨b + 2, 0, none⟩ = some (.int .i64 kk) ∧ X.cell? ⟨b + 2, 1, none⟩ = some (.slice am lm cm)) ∧ CameR X am lm cm LM ∧ EAt X a l ∧ Below b w X) := fun X hX => by
    have o0 := (hX.block b (by omega)).trans hO0
    have o1 := (hX.block (b + 2) (by omega)).trans hO2
    have hbx : Below b w X := hB0.trans (hX.mono (by omega))
    have hbx' : Below w.heap.size w X := by rw [← hbb]; exact hbx
    exact ⟨⟨cell_of_heap o0 0, cell_of_heap o0 1⟩, ⟨cell_of_heap o1 0, cell_of_heap o1 1⟩, hM.belowM hbx', hE.below hbx', hbx⟩
  have HKE : Hid (∀ X, Below W0.heap.size W0 X → X.cell? ⟨b + 1, 0, none⟩ = some (.int .i64 x) ∧ X.cell? ⟨b + 1, 1, none⟩ = some (.int .i64 y)) := fun X hX => by
    have o0 := (hX.block (b + 1) (by omega)).trans hO1
    exact ⟨cell_of_heap o0 0, cell_of_heap o0 1⟩
  have HL := hid hl
  have HW0 := hid hW0
  have hz0 : w.heap.size ≤ W0.heap.size := by omega
  clear hl hE hM hW0 hB0 hO0 hO1 hO2 hbb hz0
  go_enter Try.func10, Try.ntmps10
  go_wp2_with fail
  rw [← HW0.out]
  refine (mshown_any _).mono ?_
  rintro e w1 ⟨rfl, hb1⟩
  rw [← HBB0.out]
  obtain ⟨⟨x0, x1⟩, _, _, hE1, _⟩ := HK0.out w1 hb1
  have CA := hid (net_any n a len cap l 20 w1 (by omega) HL.out hE1)
  have HB1 := hid hb1
  clear hb1 HW0 hE1
  go_wp2_with fail
  refine CA.out.mono ?_
  rintro e w2 ⟨m, ys, a2, c2, rfl, hm20, hR, hys, hsl, hE2, hb2⟩
  obtain ⟨K, hK⟩ := ex_eq ys.length
  rw [← hK]
  have HK := hid hK
  obtain ⟨B, hBB⟩ := ex_eq w2.heap.size
  obtain ⟨V2, hV2⟩ := ex_eq (w2.alloc (.cells #[.int .i64 m, .slice a2 K c2] 26))
  have HG2 : Hid (GC V2 B m a2 K c2 ys) := by
    show GC V2 _ _ _ _ _ _
    rw [hV2, hBB]; exact gc_new8 hE2
  have HX2 : Hid (Below W0.heap.size W0 V2) := by
    have h1 : Below w2.heap.size w2 V2 := by rw [hV2]; exact below_one _ _
    have h2 : Below W0.heap.size W0 w2 := HB1.out.trans (hb2.mono HB1.out.size)
    exact h2.trans (h1.mono h2.size)
  have HV2 := hid hV2
  have HBB := hid hBB
  have HR := hid hR
  have HSL := hid hsl
  have hK3 : K ≤ 300 := by omega
  clear hK hV2 hE2 hb2 hR hys hsl CA x0 x1 HB1 hBB
  go_upto_region 3 with fail
  rw [← HV2.out, ← HBB.out]
  clear HV2 HBB
  obtain ⟨g0, g1⟩ := HG2.out.cells
  have hsB : B < V2.heap.size := block_lt_of_cell g0
  obtain ⟨t0, t1⟩ := HKE.out V2 HX2.out
  have HF8 : Hid (∀ X, Below V2.heap.size V2 X → Below w.heap.size w X) := fun X hX => by
    rw [← HBB0.out]; exact (HK0.out X (HX2.out.trans (hX.mono (HX2.out.size)))).2.2.2.2
  by_cases hm2 : m < 2
  · have hm3 : (m : Int) < 2 := by omega
    go_wp2
    go_ret
    exact ⟨rfl, HF8.out V2 (Below.refl _ _)⟩
  have hm3 : ¬ (m : Int) < 2 := by omega
  have hm4 : ¬ m = 0 := by omega
  have hm5 : ¬ (m : Int) = 0 := by omega
  obtain ⟨p, hp, hpm⟩ := rnd_of x (m := m) (by omega)
  obtain ⟨m1, hm1⟩ : ∃ m1 : Nat, m = m1 + 1 := ⟨m - 1, by omega⟩
  obtain ⟨t, ht, htm⟩ := rnd_of y (m := m1) (by omega)
  obtain ⟨q, hq, hqm, hqp⟩ := next_ne (m := m) (by omega) hpm (show t < m - 1 by omega)
  have hm6 : (m : Int) - 1 = (m1 : Int) := by omega
  have hm7 : ¬ (m1 : Int) = 0 := by omega
  have hm8 : ¬ m1 = 0 := by omega
  have r1 : IntKind.i64.wrap (m1 : Int) = (m1 : Int) := by rw [IntKind.wrap_i64]; omega
  have r2 : IntKind.i64.wrap ((p : Int) + 1) = (p : Int) + 1 := by rw [IntKind.wrap_i64]; omega
  have r3 : IntKind.i64.wrap ((p : Int) + 1 + (t : Int)) = (p : Int) + 1 + (t : Int) := by rw [IntKind.wrap_i64]; omega
  have HM1 := hid hm1
  clear hm1
  go_wp2_with fail
  go_quiet (fail)
  obtain ⟨V3', hV3⟩ := ex_eq (V2.drewN nq)
  rw [← hV3]
  have hb3 : Below V2.heap.size V2 V3' := by rw [hV3]; exact below_drewN (Below.refl _ _) _
  have HG3' := hid (HG2.out.on hb3)
  have HY3 := hid hb3
  obtain ⟨b0, b1⟩ := HG3'.out.cells
  have C4 := hid (add_any m a2 c2 ys p q true V3' (by rw [← HK.out]; omega) HG3'.out.at_ HSL.out ⟨fun _ => HR.out, fun _ => rfl⟩)
  rw [← HK.out] at C4
  clear hV3 hb3 g0 g1 hp ht hq r1 r2 r3 hm5 hm6 hm7 hm8 t0 t1 hsB
  go_wp2_with fail
  refine C4.out.mono ?_
  rintro e w4 ⟨er, zs, ea, ec, rfl, hadd, hsl5, hE5, hb5⟩
  obtain ⟨rfl, hRz, hzs⟩ := add_right hadd HR.out (by omega) (by omega) (by omega) (by rw [← HK.out]; exact hK3)
  obtain ⟨Z, hZ⟩ := ex_eq zs.length
  rw [← hZ]
  have hnn : nOf' (m : Int) 0 = m := by unfold nOf'; rw [if_pos rfl]
  rw [hnn]
  have HZ := hid hZ
  have HRZ := hid hRz
  have HSUB : Hid (∀ e ∈ ys, e ∈ zs) := fun e he => (hzs e).2 (Or.inl he)
  have hZ3 : Z ≤ 4000 := by rw [hZ]; exact hRz.2.2.1
  obtain ⟨V4, hV4⟩ := ex_eq (w4.alloc (.cells #[.int .i64 m, .slice ea Z ec] 26))
  obtain ⟨H4, hH4⟩ := ex_eq w4.heap.size
  have HG4 : Hid (GC V4 H4 m ea Z ec zs) := by
    show GC _ _ _ _ _ _ _
    rw [hV4, hH4]; exact gc_new8 hE5
  have hb24 : Below V2.heap.size V2 V4 := by rw [hV4]; exact HY3.out.trans ((hb5.alloc hb5.size _).mono HY3.out.size)
  have HG24 := hid (HG2.out.on hb24)
  have HX4 : Hid (Below W0.heap.size W0 V4) := HX2.out.trans (hb24.mono HX2.out.size)
  have HY4 := hid hb24
  have HV4 := hid hV4
  have HH4 := hid hH4
  clear hZ hnn hadd hsl5 hE5 hb5 hRz hzs hV4 hH4 C4 b0 b1 hb24 HG3' HY3
  go_upto_region 8 with fail
  rw [← HV4.out, ← HH4.out]
  clear HV4 HH4
  have CS := hid (small_any kk am lm cm LM V4 (HK0.out V4 HX4.out).2.2.1)
  obtain ⟨_, ⟨m0, m1⟩, _, _, _⟩ := HK0.out V4 HX4.out
  go_wp2_with fail
  refine CS.out.mono ?_
  rintro e w5 ⟨v5, rfl, ht5⟩
  obtain ⟨a5, c5, rfl, hL5, hb5⟩ := ht5.at
  have hl6 := smallR_len LM
  have HEA := hid (@smallR_each LM)
  obtain ⟨Ss, hSs⟩ := ex_eq (smallR LM)
  rw [← hSs] at hL5 hl6 HEA ⊢
  obtain ⟨M5, hM5⟩ := ex_eq Ss.length
  rw [← hM5] at hl6 ⊢
  have HM5 := hid hM5
  obtain ⟨B5, hB5⟩ := ex_eq w5.heap.size
  obtain ⟨V5, hV5⟩ := ex_eq (w5.alloc (.cells #[.int .i64 kk, .slice a5 M5 c5] 40))
  have HMC5 : Hid (MC V5 B5 kk a5 M5 c5 Ss) := by
    show MC V5 _ _ _ _ _ _
    rw [hV5, hB5]; exact mc_new hL5
  have hbV : Below V4.heap.size V4 V5 := by
    have h1 : Below w5.heap.size w5 V5 := by rw [hV5]; exact below_one _ _
    exact hb5.trans (h1.mono hb5.size)
  have HXV := hid hbV
  have HX5 : Hid (Below W0.heap.size W0 V5) := HX4.out.trans (hbV.mono HX4.out.size)
  have HV5 := hid hV5
  have HB5 := hid hB5
  clear ht5 hL5 hb5 hSs hM5 hB5 hV5 hbV CS m0 m1
  go_upto_region 9 with fail
  rw [← HV5.out, ← HB5.out]
  clear HV5 HB5
  have HG5 := hid (HG24.out.on HXV.out)
  have HG6 := hid (HG4.out.on HXV.out)
  obtain ⟨k0, k1⟩ := HG5.out.cells
  obtain ⟨e0, e1⟩ := HG6.out.cells
  have m0 := HMC5.out.c0
  have m1' := HMC5.out.c1
  have HY5 : Hid (Below V2.heap.size V2 V5) := HY4.out.trans (HXV.out.mono HY4.out.size)
  obtain ⟨r4, hr4⟩ := boolR_of (ModelL m ys kk Ss)
  have CT := hid (check_any m a2 c2 ys true kk a5 c5 Ss r4 V5 (by rw [← HK.out]; omega) HG5.out.at_ ⟨fun _ => HR.out, fun _ => rfl⟩ (by rw [← HM5.out]; omega) (fun S hS => Nat.le_trans (HEA.out S hS) (by decide)) HMC5.out.at_ hr4)
  rw [← HK.out, ← HM5.out] at CT
  have HR4 := hid hr4
  clear hr4
  go_wp2_with fail
  refine CT.out.mono ?_
  rintro e w9 ⟨rfl, hb9⟩
  have HB9 := hid hb9
  have hy9 := HY5.out.trans (hb9.mono HY5.out.size)
  have HF9 := hid (HF8.out w9 hy9)
  clear CT hb9 k0 k1 e0 e1 m0 m1'
  cases r4 with
  | false =>
    go_wp2
    go_ret
    exact ⟨rfl, HF9.out⟩
  | true =>
    have HG9 := hid (HG6.out.on HB9.out)
    have HMC9 := hid (HMC5.out.on HB9.out)
    obtain ⟨e0, e1⟩ := HG9.out.cells
    have m0 := HMC9.out.c0
    have m1' := HMC9.out.c1
    have CU := hid (check_any m ea ec zs true kk a5 c5 Ss true w9 (by rw [← HZ.out]; omega) HG9.out.at_ ⟨fun _ => HRZ.out, fun _ => rfl⟩ (by rw [← HM5.out]; omega) (fun S hS => Nat.le_trans (HEA.out S hS) (by decide)) HMC9.out.at_ ⟨fun _ => (HR4.out.1 rfl).more HRZ.out HSUB.out, fun _ => rfl⟩)
    rw [← HZ.out, ← HM5.out] at CU
    go_wp2_with fail
    refine CU.out.mono ?_
    rintro e w10 ⟨rfl, hb10⟩
    have HF10 := hid (HF8.out w10 (hy9.trans (hb10.mono hy9.size)))
    clear CU hb10 e0 e1 m0 m1'
    go_wp2
    go_ret
    exact ⟨rfl, HF10.out⟩
end Go.Proofs.Ytlebimolgienkaa
namespace Go.Proofs.Ytlebimolgienkaa
open Go.RowKit Go.Lib

/-- What a call of layer 6 tells. -/
def SubTold (S : Int → Int → List (Int × Int) → Prop) (w w' : World) (v : Value) : Prop := ∃ er N E a' cap', v = .tuple #[.agg #[.int .i64 N, .slice a' E.length cap'], .int .i64 er] ∧ S er N E ∧ Sl a' cap' E.length ∧ EAt w' a' E ∧ Below w.heap.size w w'
theorem subTold_none {S : Int → Int → List (Int × Int) → Prop} {w w' : World} {er : Int} (h : S er 0 []) (hb : Below w.heap.size w w') : SubTold S w w' (.tuple #[.agg #[.int .i64 0, .slice none 0 0], .int .i64 er]) := ⟨er, 0, [], none, 0, rfl, h, sl_nil, eat_nil _ _, hb⟩
/-- A graph's edges are put behind each other in its variable. -/
structure EAcc (w : World) (B : Nat) (m : Int) (sv : Value) (es : List (Int × Int)) : Prop where
  box : w.heap[B]? = some (.cells #[.int .i64 m, sv] 26 (0, 0))
  own : w.ownsRow (B + 1) 56 2 sv es.length (cellsE es)
theorem EAcc.below {w w' : World} {B : Nat} {m : Int} {sv : Value} {es : List (Int × Int)} (h : EAcc w B m sv es) (hb : Below w.heap.size w w') : EAcc w' B m sv es :=
  ⟨(hb.block B (Array.getElem?_eq_some_iff.1 h.box).1).trans h.box, own_below h.own hb⟩
theorem EAcc.put {w w4 : World} {B : Nat} {m p q : Int} {sv sv' : Value} {es : List (Int × Int)} {o : Obj} (h : EAcc w B m sv es) (hg : (w.alloc o).grownBy w4 sv.ownBlock) (hown : w4.ownsRow (B + 1) 56 2 sv' (es.length + 1) (cellsE es ++ [.int .i64 p, .int .i64 q])) : EAcc (w4.setCell ⟨B, 1, none⟩ sv') B m sv' (es ++ [(p, q)]) ∧ w4.cell? ⟨B, 1, none⟩ = some sv ∧ w4.frozen? ⟨B, 1, none⟩ = false := by
  have hB : B < w.heap.size := (Array.getElem?_eq_some_iff.1 h.box).1
  have hb4 : w4.heap[B]? = some (.cells #[.int .i64 m, sv] 26 (0, 0)) := by
    rw [hg.block B (by simp; omega) (fun e => by have := (h.own.lt B e.symm).1; omega), Below.heap_alloc w _ _ hB]
    exact h.box
  refine ⟨⟨box_put hb4, ?_⟩, cell_of_heap hb4 1, frozen_of_heap hb4 1⟩
  refine own_set ?_ (by simp) _
  rw [cellsE_append, List.length_append]
  exact hown

end Go.Proofs.Ytlebimolgienkaa
