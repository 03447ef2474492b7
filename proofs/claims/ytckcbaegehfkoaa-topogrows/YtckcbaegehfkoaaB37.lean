/-
  The law TopoGrows.
-/
import Derived.Test.YtckcbaegehfkoaaB31
import Derived.Test.YtckcbaegehfkoaaB03
import Derived.Test.YtckcbaegehfkoaaB36
import Derived.BigQuiet
namespace Go.Proofs.Ytckcbaegehfkoaa
open Go.RowKit Go.Lib

set_option maxHeartbeats 8000000 in
set_option maxRecDepth 100000 in
theorem topoGrows_law (n : Int) (a : Option Addr) (len cap : Nat) (l : List (Int × Int)) (x y : Int) (kk : Int) (ta : Option Addr) (tl tc : Nat) (tt : List Int) (am : Option Addr) (lm cm : Nat) (LM : List (List Int)) (w : World) (hl : len = l.length) (hE : EAt w a l) (hI : CameI w ta tl tc tt) (hM : CameR w am lm cm LM) :
    Calls Try.prog 9 #[.agg #[.int .i64 n, .slice a len cap], .agg #[.int .i64 x, .int .i64 y], .agg #[.int .i64 kk, .slice ta tl tc, .slice am lm cm]] w fun e w' => e = .returned (.bool true) ∧ Below w.heap.size w w' := by
  obtain ⟨b, hbb⟩ := ex_eq w.heap.size
  obtain ⟨W0, hW0, hs0, hO0, hO1, hO2, hB0⟩ := new_threeM w (.cells #[.int .i64 n, .slice a len cap] 24) (.cells #[.int .i64 x, .int .i64 y] 66) (.cells #[.int .i64 kk, .slice ta tl tc, .slice am lm cm] 28)
  rw [← hbb] at hO2
  rw [← hbb] at hs0 hO0 hO1 hB0
  have HBB0 := hid hbb
  have HK0 : Hid (∀ X, Below W0.heap.size W0 X → (X.cell? ⟨b, 0, none⟩ = some (.int .i64 n) ∧ X.cell? ⟨b, 1, none⟩ = some (.slice a len cap)) ∧ (X.cell? ⟨b + 2, 0, none⟩ = some (.int .i64 kk) ∧ X.cell? ⟨b + 2, 1, none⟩ = some (.slice ta tl tc) ∧ X.cell? ⟨b + 2, 2, none⟩ = some (.slice am lm cm)) ∧ (CameI X ta tl tc tt ∧ CameR X am lm cm LM) ∧ EAt X a l ∧ Below w.heap.size w X) := fun X hX => by
    have o0 := (hX.block b (by omega)).trans hO0
    have o1 := (hX.block (b + 2) (by omega)).trans hO2
    have hbx : Below b w X := hB0.trans (hX.mono (by omega))
    have hbx' : Below w.heap.size w X := by rw [← hbb]; exact hbx
    exact ⟨⟨cell_of_heap o0 0, cell_of_heap o0 1⟩, ⟨cell_of_heap o1 0, cell_of_heap o1 1, cell_of_heap o1 2⟩, ⟨hI.belowM hbx', hM.belowM hbx'⟩, hE.below hbx', hbx'⟩
  have HKE : Hid (∀ X, Below W0.heap.size W0 X → X.cell? ⟨b + 1, 0, none⟩ = some (.int .i64 x) ∧ X.cell? ⟨b + 1, 1, none⟩ = some (.int .i64 y)) := fun X hX => by
    have o0 := (hX.block (b + 1) (by omega)).trans hO1
    exact ⟨cell_of_heap o0 0, cell_of_heap o0 1⟩
  have HL := hid hl
  have HW0 := hid hW0
  clear hl hE hI hM hW0 hB0 hO0 hO1 hO2 hbb hs0
  go_enter Try.func9, Try.ntmps9
  go_wp2_with fail
  rw [← HW0.out]
  refine (yshown_any _).mono ?_
  rintro e w1 ⟨rfl, hb1⟩
  rw [← HBB0.out]
  obtain ⟨⟨x0, x1⟩, _, _, hE1, _⟩ := HK0.out w1 hb1
  have CA := hid (net_any n a len cap l 20 w1 (by omega) HL.out hE1)
  have HB1 := hid hb1
  clear hb1 HW0 hE1
  go_wp2_with fail
  refine CA.out.mono ?_
  rintro e w2 ⟨m, ys, a2, c2, rfl, hm20, hR, hys, hsl, hE2, hb2⟩
  obtain ⟨K, hK⟩ := ex_eq ys.length
  rw [← hK]
  have HK := hid hK
  obtain ⟨B, hBB⟩ := ex_eq w2.heap.size
  obtain ⟨V2, hV2⟩ := ex_eq (w2.alloc (.cells #[.int .i64 m, .slice a2 K c2] 30))
  have HG2 : Hid (GC V2 B m a2 K c2 ys) := by
    show GC V2 _ _ _ _ _ _
    rw [hV2, hBB]; exact gc_new8 hE2
  have HX2 : Hid (Below W0.heap.size W0 V2) := by
    have h1 : Below w2.heap.size w2 V2 := by rw [hV2]; exact below_one _ _
    have h2 : Below W0.heap.size W0 w2 := HB1.out.trans (hb2.mono HB1.out.size)
    exact h2.trans (h1.mono h2.size)
  have HV2 := hid hV2
  have HBB := hid hBB
  have HR := hid hR
  have HSL := hid hsl
  have hK3 : K ≤ 300 := by omega
  clear hK hV2 hE2 hb2 hR hys hsl CA x0 x1 HB1 hBB
  go_upto_region 3 with fail
  rw [← HV2.out, ← HBB.out]
  clear HV2 HBB
  obtain ⟨g0, g1⟩ := HG2.out.cells
  have hsB : B < V2.heap.size := block_lt_of_cell g0
  obtain ⟨t0, t1⟩ := HKE.out V2 HX2.out
  have HF8 : Hid (∀ X, Below V2.heap.size V2 X → Below w.heap.size w X) := fun X hX => by
    exact (HK0.out X (HX2.out.trans (hX.mono (HX2.out.size)))).2.2.2.2
  by_cases hm2 : m < 2
  · have hm3 : (m : Int) < 2 := by omega
    go_wp2
    go_ret
    exact ⟨rfl, HF8.out V2 (Below.refl _ _)⟩
  have hm3 : ¬ (m : Int) < 2 := by omega
  have hm4 : ¬ m = 0 := by omega
  have hm5 : ¬ (m : Int) = 0 := by omega
  obtain ⟨p, hp, hpm⟩ := rnd_of x (m := m) (by omega)
  obtain ⟨m1, hm1⟩ : ∃ m1 : Nat, m = m1 + 1 := ⟨m - 1, by omega⟩
  obtain ⟨t, ht, htm⟩ := rnd_of y (m := m1) (by omega)
  obtain ⟨q, hq, hqm, hqp⟩ := next_ne (m := m) (by omega) hpm (show t < m - 1 by omega)
  have hm6 : (m : Int) - 1 = (m1 : Int) := by omega
  have hm7 : ¬ (m1 : Int) = 0 := by omega
  have hm8 : ¬ m1 = 0 := by omega
  have r1 : IntKind.i64.wrap (m1 : Int) = (m1 : Int) := by rw [IntKind.wrap_i64]; omega
  have r2 : IntKind.i64.wrap ((p : Int) + 1) = (p : Int) + 1 := by rw [IntKind.wrap_i64]; omega
  have r3 : IntKind.i64.wrap ((p : Int) + 1 + (t : Int)) = (p : Int) + 1 + (t : Int) := by rw [IntKind.wrap_i64]; omega
  have HM1 := hid hm1
  clear hm1
  go_wp2_with fail
  go_quiet (fail)
  obtain ⟨V3', hV3⟩ := ex_eq (V2.drewN nq)
  rw [← hV3]
  have hb3 : Below V2.heap.size V2 V3' := by rw [hV3]; exact below_drewN (Below.refl _ _) _
  have HG3' := hid (HG2.out.on hb3)
  have HY3 := hid hb3
  obtain ⟨b0, b1⟩ := HG3'.out.cells
  have C4 := hid (add_any m a2 c2 ys p q true V3' (by rw [← HK.out]; omega) HG3'.out.at_ HSL.out ⟨fun _ => HR.out, fun _ => rfl⟩)
  rw [← HK.out] at C4
  clear hV3 hb3 g0 g1 hp ht hq r1 r2 r3 hm5 hm6 hm7 hm8 t0 t1 hsB
  go_wp2_with fail
  refine C4.out.mono ?_
  rintro e w4 ⟨er, zs, ea, ec, rfl, hadd, hsl5, hE5, hb5⟩
  obtain ⟨rfl, hRz, hzs⟩ := add_right hadd HR.out (by omega) (by omega) (by omega) (by rw [← HK.out]; exact hK3)
  obtain ⟨Z, hZ⟩ := ex_eq zs.length
  rw [← hZ]
  have hnn : nOf' (m : Int) 0 = m := by unfold nOf'; rw [if_pos rfl]
  rw [hnn]
  have HZ := hid hZ
  have HRZ := hid hRz
  have HSUB : Hid (∀ e ∈ ys, e ∈ zs) := fun e he => (hzs e).2 (Or.inl he)
  have hZ3 : Z ≤ 4000 := by rw [hZ]; exact hRz.2.2.1
  obtain ⟨V4, hV4⟩ := ex_eq (w4.alloc (.cells #[.int .i64 m, .slice ea Z ec] 30))
  obtain ⟨H4, hH4⟩ := ex_eq w4.heap.size
  have HG4 : Hid (GC V4 H4 m ea Z ec zs) := by
    show GC _ _ _ _ _ _ _
    rw [hV4, hH4]; exact gc_new8 hE5
  have hb24 : Below V2.heap.size V2 V4 := by rw [hV4]; exact HY3.out.trans ((hb5.alloc hb5.size _).mono HY3.out.size)
  have HG24 := hid (HG2.out.on hb24)
  have HX4 : Hid (Below W0.heap.size W0 V4) := HX2.out.trans (hb24.mono HX2.out.size)
  have HY4 := hid hb24
  have HV4 := hid hV4
  have HH4 := hid hH4
  clear hZ hnn hadd hsl5 hE5 hb5 hRz hzs hV4 hH4 C4 b0 b1 hb24 HG3' HY3
  go_upto_region 8 with fail
  rw [← HV4.out, ← HH4.out]
  clear HV4 HH4
  have CS := hid (ysmall_any kk ta tl tc tt am lm cm LM V4 (HK0.out V4 HX4.out).2.2.1.1 (HK0.out V4 HX4.out).2.2.1.2)
  obtain ⟨_, ⟨m0, m1, m2⟩, ⟨_, hcr⟩, _, _⟩ := HK0.out V4 HX4.out
  have HWF := hid (wf_cut8 hcr)
  clear hcr
  go_wp2_with fail
  refine CS.out.mono ?_
  rintro e w5 ⟨v5, rfl, a1, c1, a5, c5, rfl, hI5, hL5, hb5⟩
  have hP8 := cut8_len LM
  have HEA := hid (@cut8_each LM)
  obtain ⟨P, hPe⟩ := ex_eq (cut8 LM)
  obtain ⟨T, hTe⟩ := ex_eq (tt.take 6)
  rw [← hPe] at hL5 hP8 HEA HWF ⊢
  rw [← hTe] at hI5 ⊢
  obtain ⟨NT, hNT⟩ := ex_eq T.length
  obtain ⟨NP, hNP⟩ := ex_eq P.length
  rw [← hNT, ← hNP]
  have HNT := hid hNT
  have HNP := hid hNP
  obtain ⟨B5, hB5⟩ := ex_eq w5.heap.size
  obtain ⟨V5, hV5⟩ := ex_eq (w5.alloc (.cells #[.int .i64 kk, .slice a1 NT c1, .slice a5 NP c5] 32))
  have hb55 : Below w5.heap.size w5 V5 := by rw [hV5]; exact below_one _ _
  have hSC5 : SC V5 B5 kk a1 NT c1 T a5 NP c5 P := by rw [hV5, hB5]; exact sc_new hI5 (lls_llat hL5)
  have hLS5 := hL5.below hb55
  have hbV : Below V4.heap.size V4 V5 := hb5.trans (hb55.mono hb5.size)
  have hX5 : Below W0.heap.size W0 V5 := HX4.out.trans (hbV.mono HX4.out.size)
  have HKP : Hid (∀ X, Below V5.heap.size V5 X → GC X B m a2 K c2 ys ∧ GC X H4 m ea Z ec zs ∧ SC X B5 kk a1 NT c1 T a5 NP c5 P ∧ LLS X a5 P ∧ Below w.heap.size w X) := fun X hX => ⟨HG24.out.on (hbV.trans (hX.mono hbV.size)), HG4.out.on (hbV.trans (hX.mono hbV.size)), hSC5.on hX, hLS5.below hX, (HK0.out X (hX5.trans (hX.mono hX5.size))).2.2.2.2⟩
  have HV5 := hid hV5
  have HB5 := hid hB5
  obtain ⟨rc, hrc⟩ := boolR_of (SubL m ys kk T P)
  have CK : Hid (∀ X, Below V5.heap.size V5 X → Calls Try.prog 14 #[.agg #[.int .i64 m, .slice a2 K c2], .agg #[.int .i64 kk, .slice a1 NT c1, .slice a5 NP c5]] X fun e w' => e = .returned (.bool rc) ∧ Below X.heap.size X w') := fun X hX => by
    obtain ⟨g, _, s, ls, _⟩ := HKP.out X hX
    have h := tcheck_any m a2 c2 ys true kk a1 c1 T a5 c5 P rc X (by rw [← HK.out]; omega) g.at_ ⟨fun _ => HR.out, fun _ => rfl⟩ s.ts (by omega) (fun L hL => by have := HEA.out L hL; omega) s.at_ HWF.out hrc
    rw [← HK.out, ← HNT.out, ← HNP.out] at h
    exact h
  have HRC := hid hrc
  clear hPe hTe hNT hNP hB5 hV5 hI5 hL5 hb5 hb55 hSC5 hLS5 hbV hX5 hrc CS m0 m1 m2
  have HSX : Hid (∀ X, Below V5.heap.size V5 X → (fun X : World => X.cell? ⟨B, 0, none⟩ = some (.int .i64 m) ∧ X.cell? ⟨B, 1, none⟩ = some (.slice a2 K c2) ∧ X.cell? ⟨H4, 0, none⟩ = some (.int .i64 m) ∧ X.cell? ⟨H4, 1, none⟩ = some (.slice ea Z ec) ∧ X.cell? ⟨B5, 0, none⟩ = some (.int .i64 kk) ∧ X.cell? ⟨B5, 1, none⟩ = some (.slice a1 NT c1) ∧ X.cell? ⟨B5, 2, none⟩ = some (.slice a5 NP c5)) X) := fun X hX => by
    obtain ⟨g, g', s, _⟩ := HKP.out X hX
    exact ⟨g.n0, g.e0, g'.n0, g'.e0, s.c0, s.c1, s.c2⟩
  have CH : Hid (∀ X, Below V5.heap.size V5 X → SubL m ys kk T P → Calls Try.prog 14 #[.agg #[.int .i64 m, .slice ea Z ec], .agg #[.int .i64 kk, .slice a1 NT c1, .slice a5 NP c5]] X fun e w' => e = .returned (.bool true) ∧ Below X.heap.size X w') := fun X hX hs => by
    obtain ⟨_, g, s, ls, _⟩ := HKP.out X hX
    have h := tcheck_any m ea ec zs true kk a1 c1 T a5 c5 P true X (by rw [← HZ.out]; omega) g.at_ ⟨fun _ => HRZ.out, fun _ => rfl⟩ s.ts (by omega) (fun L hL => by have := HEA.out L hL; omega) s.at_ HWF.out ⟨fun _ => hs.more HRZ.out HSUB.out, fun _ => rfl⟩
    rw [← HZ.out, ← HNT.out, ← HNP.out] at h
    exact h
  have HD5 : Hid (Below V5.heap.size V5 V5.drew) := (Below.refl _ _).drew
  have hS := HSX.out V5.drew HD5.out
  obtain ⟨g0, g1, n0, n1, s0, s1, s2⟩ := HSX.out V5 (Below.refl _ _)
  cases rc with
  | false =>
    clear CH
    have CK5 := hid (CK.out V5 (Below.refl _ _))
    go_upto_region 9 with fail
    rw [← HV5.out, ← HB5.out]
    go_wp2_with fail
    refine CK5.out.mono ?_
    rintro e w6 ⟨rfl, hb6⟩
    have HF := hid (HKP.out w6 hb6).2.2.2.2
    clear hb6 CK5 g0 g1 n0 n1 s0 s1 s2 hS HRC
    go_wp2
    go_ret
    exact ⟨rfl, HF.out⟩
  | true =>
    have HSUBL := hid (HRC.out.1 rfl)
    clear HRC
    have CK5 := hid (CK.out V5 (Below.refl _ _))
    go_upto_region 9 with fail
    rw [← HV5.out, ← HB5.out]
    go_wp2_with fail
    refine CK5.out.mono ?_
    rintro e w6 ⟨rfl, hb6⟩
    have HB6 := hid hb6
    have CH6 := hid (CH.out w6 hb6 HSUBL.out)
    clear g0 g1 n0 n1 s0 s1 s2 hS CK5 CH
    obtain ⟨g0, g1, n0, n1, s0, s1, s2⟩ := HSX.out w6 hb6
    clear hb6
    go_wp2_with fail
    refine CH6.out.mono ?_
    rintro e w7 ⟨rfl, hb7⟩
    have HF := hid (HKP.out w7 (HB6.out.trans (hb7.mono HB6.out.size))).2.2.2.2
    clear hb7 CH6 g0 g1 n0 n1 s0 s1 s2
    go_wp2
    go_ret
    exact ⟨rfl, HF.out⟩
end Go.Proofs.Ytckcbaegehfkoaa
