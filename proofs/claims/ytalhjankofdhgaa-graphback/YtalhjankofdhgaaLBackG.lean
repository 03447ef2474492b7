/-
  carcanetlaw03.GraphBack answers true.
-/
import Derived.Test.YtalhjankofdhgaaRAny
import Derived.Test.YtalhjankofdhgaaRHas
import Derived.Test.YtalhjankofdhgaaGHas
namespace Go.Proofs.Ytalhjankofdhgaa
open Go.RowKit Go.Lib

theorem bool_of (p : Prop) : ∃ r : Bool, r = true ↔ p := by
  by_cases h : p
  · exact ⟨true, ⟨fun _ => h, fun _ => rfl⟩⟩
  · exact ⟨false, ⟨fun h' => (by cases h'), fun h' => absurd h' h⟩⟩
theorem hpair {n x y : Int} {es : List (Int × Int)} (hR : RightG n es) : ((x, y) ∈ es ∨ (y, x) ∈ es) ↔ (min x y, max x y) ∈ es := by
  constructor
  · rintro (h | h)
    · have h' := hR.2.2.2.1 _ h
      simp only at h'
      rw [show min x y = x by omega, show max x y = y by omega]; exact h
    · have h' := hR.2.2.2.1 _ h
      simp only at h'
      rw [show min x y = y by omega, show max x y = x by omega]; exact h
  · intro h
    by_cases hxy : x ≤ y
    · left; rwa [show min x y = x by omega, show max x y = y by omega] at h
    · right; rwa [show min x y = y by omega, show max x y = x by omega] at h
theorem back_add {m p q er : Int} {ys zs : List (Int × Int)} {r : Bool} (h : AddE m ys p q er zs) (hR : RightG m ys) (hp : 0 ≤ p ∧ p < m) (hq : 0 ≤ q ∧ q < m) (hne : p ≠ q) (hl : ys.length ≤ 300) (hr : r = true ↔ (min p q, max p q) ∈ ys) :
    er = 0 ∧ RightG m zs ∧ (min p q, max p q) ∈ zs ∧ zs.length ≤ 301 ∧ (r = true → zs = ys) ∧ (r = false → zs.length = ys.length + 1) ∧ ∀ e, e ∈ zs ↔ e ∈ ys ∨ e = (min p q, max p q) := by
  rcases h with ⟨h1, _⟩ | ⟨_, h2, _⟩ | ⟨h1, h2, ⟨h3, _⟩ | ⟨h3, h4, rfl, rfl⟩ | ⟨h3, h4, h5, _⟩ | ⟨h3, h4, h5, rfl, h6, h7, h8⟩⟩
  · exact absurd hR h1
  · exact absurd ⟨hp, hq⟩ h2
  · exact absurd h3 hne
  · refine ⟨rfl, hR, h4, by omega, fun _ => rfl, fun h => ?_, fun e => ⟨Or.inl, fun h => h.elim id (fun h => by rw [h]; exact h4)⟩⟩
    rw [hr.2 h4] at h; cases h
  · omega
  · refine ⟨rfl, ⟨hR.1, hR.2.1, by omega, fun e he => ?_, h6⟩, (h8 _).2 (Or.inr rfl), by omega, fun h => absurd (hr.1 h) h4, fun _ => h7, h8⟩
    rcases (h8 e).1 he with he | rfl
    · exact hR.2.2.2.1 e he
    · simp only; omega
theorem back_wo {m p q er : Int} {zs us : List (Int × Int)} (h : WithoutE m zs p q er us) (hR : RightG m zs) (hm : (min p q, max p q) ∈ zs) :
    er = 0 ∧ RightG m us ∧ ∀ e, e ∈ us ↔ e ∈ zs ∧ e ≠ (min p q, max p q) := by
  rcases h with ⟨h1, _⟩ | ⟨_, h2, _⟩ | ⟨h1, h2, rfl, h6, h7, h8⟩
  · exact absurd hR h1
  · exact absurd hm h2
  · exact ⟨rfl, ⟨hR.1, hR.2.1, by have := hR.2.2.1; omega, fun e he => hR.2.2.2.1 e ((h8 e).1 he).1, h6⟩, h8⟩
theorem back_wo2 {m p q er : Int} {zs us : List (Int × Int)} (h : WithoutE m zs p q er us) (hR : RightG m zs) (hm : (min p q, max p q) ∉ zs) : er = 6 ∧ us = [] := by
  rcases h with ⟨h1, _⟩ | ⟨_, h2, h3, h4⟩ | ⟨h1, h2, _⟩
  · exact absurd hR h1
  · exact ⟨h3, h4⟩
  · exact absurd h2 hm
theorem has_right (n : Int) (a : Option Addr) (cap : Nat) (es : List (Int × Int)) (x y : Int) (r : Bool) (w : World) (hR : RightG n es) (hE : EAt w a es) (hr : r = true ↔ (min x y, max x y) ∈ es) :
    Calls Try.prog 16 #[.agg #[.int .i64 n, .slice a es.length cap], .int .i64 x, .int .i64 y] w fun e w' => e = .returned (.bool r) ∧ Below w.heap.size w w' := by
  have hl := hR.2.2.1
  have hd : decide (y ∈ nbL x es) = r := by
    have h1 : y ∈ nbL x es ↔ r = true := by rw [nbL_right hR, hpair hR, hr]
    cases r with
    | true => exact decide_eq_true (h1.2 rfl)
    | false => exact decide_eq_false (fun h => by have := h1.1 h; cases this)
  rw [← hd]
  exact has_any n a cap es x y true (nbL x es) w (by omega) hE ⟨fun _ => hR, fun _ => rfl⟩ rfl
theorem rhas_right (n : Int) (a : Option Addr) (cap : Nat) (es : List (Int × Int)) (x y : Int) (r : Bool) (w : World) (hR : RightG n es) (hE : EAt w a es) (hr : r = true ↔ (min x y, max x y) ∈ es) :
    Calls Try.prog 17 #[.agg #[.int .i64 n, .slice a es.length cap], .int .i64 x, .int .i64 y] w fun e w' => e = .returned (.bool r) ∧ Below w.heap.size w w' := by
  have hl := hR.2.2.1
  exact rhas_any n a cap es x y true r w (by omega) hE ⟨fun _ => hR, fun _ => rfl⟩ (by rw [hr, hpair hR]; exact ⟨fun h => ⟨hR, h⟩, fun h => h.2⟩)

set_option maxHeartbeats 4000000 in
set_option maxRecDepth 100000 in
theorem back_law (n : Int) (a : Option Addr) (len cap : Nat) (l : List (Int × Int)) (k0 k1 : Int) (w : World) (hl : len = l.length) (hE : EAt w a l) :
    Calls Try.prog 8 #[.int .i64 n, .slice a len cap, .agg #[.int .i64 k0, .int .i64 k1]] w fun e w' => e = .returned (.bool true) ∧ Below w.heap.size w w' := by
  obtain ⟨i0, hi, hz0, hz1, hz2⟩ := info_parts Try.info39
  have HL := hid hl
  obtain ⟨W0, hW0⟩ := ex_eq (w.alloc (.cells #[.int .i64 k0, .int .i64 k1] 41))
  have hB0 : Below w.heap.size w W0 := by rw [hW0]; exact below_new _ _
  have hs0 : W0.heap.size = w.heap.size + 1 := by rw [hW0]; simp
  have HO0 : Hid (W0.heap[w.heap.size]? = some (.cells #[.int .i64 k0, .int .i64 k1] 41)) := by
    show _ = _
    rw [hW0]; exact heap_alloc_new _ _
  have HW0 := hid hW0
  have HE := hid hE
  clear hl hE hW0
  go_enter Try.func8, Try.ntmps8
  go_wp2_with fail
  rw [← HW0.out]
  clear HW0
  refine (shown_any _).mono ?_
  rintro e w1 ⟨rfl, hb1⟩
  have hBw1 : Below w.heap.size w w1 := hB0.trans (hb1.mono hB0.size)
  have HO1 : Hid (w1.heap[w.heap.size]? = some (.cells #[.int .i64 k0, .int .i64 k1] 41)) := (hb1.block _ (by omega)).trans HO0.out
  have hs1 := hb1.size
  rw [hs0] at hs1
  clear hb1 HO0 hs0 hB0
  have CA := hid (any_any n a len cap l 40 w1 (by omega) HL.out (HE.out.below hBw1))
  go_wp2_with fail
  refine CA.out.mono ?_
  rintro e w2 ⟨m, ys, a2, c2, rfl, hm40, hR, hys, hsl, hE2, hb2⟩
  obtain ⟨K, hK⟩ := ex_eq ys.length
  rw [← hK]
  have HK := hid hK
  obtain ⟨V2, hV2⟩ := ex_eq (w2.alloc (.cells #[.int .i64 m, .slice a2 K c2] 25))
  obtain ⟨B, hB⟩ := ex_eq w2.heap.size
  have hbV2 : Below w2.heap.size w2 V2 := by rw [hV2]; exact below_new _ _
  have HG2 : Hid (GC V2 B m a2 K c2 ys) := by
    show GC V2 _ _ _ _ _ _
    rw [hV2, hB]; exact gc_new hE2
  have hBX2 : Below w1.heap.size w1 V2 := hb2.trans (hbV2.mono hb2.size)
  have HB2 : Hid (Below w.heap.size w V2) := hBw1.trans (hBX2.mono hBw1.size)
  have HO2 : Hid (V2.heap[w.heap.size]? = some (.cells #[.int .i64 k0, .int .i64 k1] 41)) := (hBX2.block _ (by omega)).trans HO1.out
  have HV2 := hid hV2
  have HBB := hid hB
  have HR := hid hR
  have HSL := hid hsl
  have hK3 : K ≤ 300 := by omega
  clear hK hV2 hbV2 hBX2 hE2 hb2 hR hys hsl CA HO1 hBw1 hs1 hB HE HL
  go_upto_region 3 with fail
  rw [← HV2.out, ← HBB.out]
  clear HV2
  obtain ⟨g0, g1⟩ := HG2.out.cells
  obtain ⟨x0, x1⟩ := two_cells HO2.out
  by_cases hm2 : m < 2
  · have hm3 : (m : Int) < 2 := by omega
    clear hi hz0 hz1 hz2
    go_wp2
    go_ret
    exact ⟨rfl, HB2.out⟩
  have hm3 : ¬ (m : Int) < 2 := by omega
  have hm4 : ¬ m = 0 := by omega
  obtain ⟨p, hp, hpm⟩ := rnd_of k0 (m := m) (by omega)
  obtain ⟨q, hq, hqm⟩ := rnd_of k1 (m := m) (by omega)
  obtain ⟨r, hr⟩ := bool_of ((min (p : Int) q, max (p : Int) q) ∈ ys)
  have HR2 := hid hr
  clear hr
  obtain ⟨E, hEo⟩ := ex_eq (Obj.cells #[] 39 (0, 0))
  have HOE : Hid ((V2.alloc E).ownsRow V2.heap.size 39 2 (.slice (some ⟨V2.heap.size, 0, none⟩) 0 0) 0 []) := own_empty E hEo
  have hBE : Below V2.heap.size V2 (V2.alloc E) := below_new _ _
  have HGE := hid (HG2.out.on hBE)
  obtain ⟨f0, f1⟩ := HGE.out.cells
  have hnil : a2 = none → K = 0 ∧ c2 = 0 := fun ha => by have h1 := HSL.out.2.1 ha; have h2 := HSL.out.1; rw [← HK.out] at h2; exact ⟨by omega, h1⟩
  have HNIL := hid hnil
  have HCL : Hid ((cellsE ys).length = K * 2) := by show (cellsE ys).length = K * 2; rw [cellsE_len, HK.out]
  have HNW := hid HGE.out.at_.newsO
  clear hnil
  subst hEo
  go_wp2_with (at_builtin; refine wpList_append_any _ rfl _ _ 22 rfl V2.heap.size 39 i0 _ 2 16 Try.underlying22 hi hz0 hz1 hz2 rfl (by decide) _ _ _ rfl HOE.out a2 K c2 (cellsE ys) rfl HNIL.out HCL.out HNW.out ?c2 ?c3 ?c4 ?c5 ?_)
  case c2 => exact cellsE_one ys
  case c3 => unfold maxLen; omega
  case c4 => omega
  intro v4 w4 hown4 hgrow _
  have hb4 : Below V2.heap.size V2 w4 := Below.grown hBE hgrow (by simp) (fun j hj => (HOE.out.lt j hj).1)
  rw [HK.out] at hown4
  obtain ⟨a4, c4, rfl, _, hE4⟩ := eat_own hown4
  rw [← HK.out]
  have HG4 := hid (HG2.out.on hb4)
  have HW4 := hid hE4
  have HB4 : Hid (Below w.heap.size w w4) := HB2.out.trans (hb4.mono HB2.out.size)
  have CH : Hid (Calls Try.prog 17 #[.agg #[.int .i64 m, .slice a2 K c2], .int .i64 p, .int .i64 q] w4 fun e w' => e = .returned (.bool r) ∧ Below w4.heap.size w4 w') := by
    show Calls _ _ _ _ _
    rw [HK.out]; exact rhas_right m a2 c2 ys p q r w4 HR.out HG4.out.at_ HR2.out
  clear hb4 hown4 hE4 hgrow HNW f0 f1 HGE hBE HOE HCL HNIL g0 g1 x0 x1 HO2 HG2 HB2 hi hz0 hz1 hz2 HBB
  obtain ⟨g0, g1⟩ := HG4.out.cells
  go_wp2_with fail
  refine CH.out.mono ?_
  rintro e w5 ⟨rfl, hb5⟩
  have HG5 := hid (HG4.out.on hb5)
  have HW5 := hid (HW4.out.below hb5)
  have HB5 : Hid (Below w.heap.size w w5) := HB4.out.trans (hb5.mono HB4.out.size)
  have CD : Hid (Calls Try.prog 23 #[.agg #[.int .i64 m, .slice a2 K c2], .int .i64 p, .int .i64 q] w5 fun e w' => ∃ er ys' a' cap', e = .returned (.tuple #[.agg #[.int .i64 (nOf' m er), .slice a' ys'.length cap'], .int .i64 er]) ∧ AddE m ys p q er ys' ∧ Sl a' cap' ys'.length ∧ EAt w' a' ys' ∧ Below w5.heap.size w5 w') := by
    show Calls _ _ _ _ _
    rw [HK.out]; exact add_any m a2 c2 ys p q true w5 (by have := HR.out.2.2.1; omega) HG5.out.at_ HSL.out ⟨fun _ => HR.out, fun _ => rfl⟩
  clear g0 g1 hb5 HG4 HW4 HB4 CH
  obtain ⟨g0, g1⟩ := HG5.out.cells
  go_wp2_with fail
  refine CD.out.mono ?_
  rintro e w6 ⟨er, zs, a6, c6, rfl, hA6, hs6, hE6, hb6⟩
  obtain ⟨n6, hn6⟩ := ex_eq (nOf' m er)
  obtain ⟨M, hM⟩ := ex_eq zs.length
  rw [← hn6, ← hM]
  obtain ⟨V6, hV6⟩ := ex_eq (w6.alloc (.cells #[.int .i64 n6, .slice a6 M c6] 25))
  obtain ⟨D, hD⟩ := ex_eq w6.heap.size
  have hbV6 : Below w6.heap.size w6 V6 := by rw [hV6]; exact below_new _ _
  have HH6 : Hid (GC V6 D n6 a6 M c6 zs) := by
    show GC V6 _ _ _ _ _ _
    rw [hV6, hD]; exact gc_new hE6
  have hBX6 : Below w5.heap.size w5 V6 := hb6.trans (hbV6.mono hb6.size)
  have HB6 : Hid (Below w.heap.size w V6) := HB5.out.trans (hBX6.mono HB5.out.size)
  have HG6 := hid (HG5.out.on hBX6)
  have HW6 := hid (HW5.out.below hBX6)
  have HV6 := hid hV6
  have HDD := hid hD
  have HA6 := hid hA6
  have HS6 := hid hs6
  have HM := hid hM
  have HN6 := hid hn6
  clear hn6 hM hV6 hD hbV6 hBX6 hb6 hE6 hA6 hs6 HG5 HW5 HB5 CD g0 g1
  go_upto_region 10 with fail
  rw [← HV6.out, ← HDD.out]
  clear HV6 HDD
  obtain ⟨g0, g1⟩ := HG6.out.cells
  obtain ⟨h0, h1⟩ := HH6.out.cells
  by_cases hpq : p = q
  · subst hpq
    obtain ⟨rfl, rfl⟩ : er = 1 ∧ zs = [] := by
      rcases HA6.out with ⟨h1, _⟩ | ⟨_, h2, _⟩ | ⟨_, _, ⟨_, h4, h5⟩ | ⟨h3, _⟩ | ⟨h3, _⟩ | ⟨h3, _⟩⟩
      · exact absurd HR.out h1
      · exact absurd ⟨⟨by omega, by omega⟩, by omega, by omega⟩ h2
      · exact ⟨h4, h5⟩
      · exact absurd rfl h3
      · exact absurd rfl h3
      · exact absurd rfl h3
    obtain rfl : M = 0 := HM.out
    clear hp hq
    go_wp2
    go_ret
    exact ⟨rfl, HB6.out⟩
  have hpq1 : ¬ (p : Int) = (q : Int) := by omega
  have hpq2 : ((p : Int) == (q : Int)) = false := beq_eq_false_iff_ne.2 hpq1
  obtain ⟨rfl, hRz, hmz, hlz, hz1, hz2, hz3⟩ := back_add HA6.out HR.out ⟨by omega, by omega⟩ ⟨by omega, by omega⟩ hpq1 (by rw [← HK.out]; exact hK3) HR2.out
  obtain rfl : n6 = m := HN6.out
  have HRz := hid hRz
  have HMz := hid hmz
  have HZ1 := hid hz1
  have HZ2 := hid hz2
  have HZ3 := hid hz3
  have hM3 : M ≤ 301 := by rw [HM.out]; exact hlz
  have hqp : (min (q : Int) p, max (q : Int) p) = (min (p : Int) q, max (p : Int) q) := by rw [Int.min_comm, Int.max_comm]
  have HQP := hid hqp
  clear hRz hmz hlz hz1 hz2 hz3 HA6 HN6 hqp hp hq
  have C1 : Hid (∀ W, GC W D m a6 M c6 zs → Calls Try.prog 16 #[.agg #[.int .i64 m, .slice a6 M c6], .int .i64 q, .int .i64 p] W fun e w' => e = .returned (.bool true) ∧ Below W.heap.size W w') := fun W h => by
    rw [HM.out]; exact has_right m a6 c6 zs q p true W HRz.out h.at_ ⟨fun _ => by rw [HQP.out]; exact HMz.out, fun _ => rfl⟩
  have C2 : Hid (∀ W, GC W D m a6 M c6 zs → Calls Try.prog 25 #[.agg #[.int .i64 m, .slice a6 M c6], .int .i64 q, .int .i64 p] W fun e w' => ∃ us a' cap', e = .returned (.tuple #[.agg #[.int .i64 m, .slice a' us.length cap'], .int .i64 0]) ∧ Hid (RightG m us ∧ ∀ e, e ∈ us ↔ e ∈ zs ∧ e ≠ (min (p : Int) q, max (p : Int) q)) ∧ Hid (Sl a' cap' us.length) ∧ EAt w' a' us ∧ Below W.heap.size W w') := fun W h => by
    rw [HM.out]
    exact (without_any m a6 c6 zs q p true W (by have := HRz.out.2.2.1; omega) h.at_ HS6.out ⟨fun _ => HRz.out, fun _ => rfl⟩).mono fun _ _ ⟨er, us, a', cap', h1, h2, h3, h4, h5⟩ => by
      obtain ⟨rfl, g1, g2⟩ := back_wo h2 HRz.out (by rw [HQP.out]; exact HMz.out)
      rw [HQP.out] at g2
      exact ⟨us, a', cap', h1, ⟨g1, g2⟩, h3, h4, h5⟩
  have C3 : Hid (∀ W us a7 c7, RightG m us → (min (p : Int) q, max (p : Int) q) ∉ us → Sl a7 c7 us.length → EAt W a7 us → Calls Try.prog 25 #[.agg #[.int .i64 m, .slice a7 us.length c7], .int .i64 p, .int .i64 q] W fun e w' => ∃ a' cap', e = .returned (.tuple #[.agg #[.int .i64 0, .slice a' 0 cap'], .int .i64 6]) ∧ EAt w' a' [] ∧ Below W.heap.size W w') := fun W us a7 c7 h1 h2 h3 h4 =>
    (without_any m a7 c7 us p q true W (by have := h1.2.2.1; omega) h4 h3 ⟨fun _ => h1, fun _ => rfl⟩).mono fun _ _ ⟨er, vs, a', cap', g1, g2, g3, g4, g5⟩ => by
      obtain ⟨rfl, rfl⟩ := back_wo2 g2 h1 h2
      exact ⟨a', cap', g1, g4, g5⟩
  have C4 : Hid (∀ W a7 c7 a8 c8, EAt W a7 ys → EAt W a8 ys → Calls Try.prog 28 #[.slice a7 K c7, .slice a8 K c8] W fun e w' => e = .returned (.bool true) ∧ Below W.heap.size W w') := fun W a7 c7 a8 c8 h1 h2 => by
    rw [HK.out]; exact sameEdges_any a7 a8 c7 c8 ys ys true W (by have := HR.out.2.2.1; omega) h1 h2 ⟨fun _ => rfl, fun _ => rfl⟩
  cases r with
  | true =>
    obtain rfl : zs = ys := HZ1.out rfl
    obtain rfl : M = K := by rw [HM.out, HK.out]
    have C5 : Hid (∀ W, GC W D m a6 M c6 zs → GC W B m a2 M c2 zs → Calls Try.prog 13 #[.agg #[.int .i64 m, .slice a6 M c6], .agg #[.int .i64 m, .slice a2 M c2]] W fun e w' => e = .returned (.bool true) ∧ Below W.heap.size W w') := fun W h h' => by
      rw [HM.out]; exact sameGraph_any m m a6 a2 c6 c2 zs zs true W (by have := HR.out.2.2.1; omega) h.at_ h'.at_ ⟨fun _ => ⟨rfl, rfl⟩, fun _ => rfl⟩
    go_wp2_with fail
    refine (C1.out _ HH6.out).mono ?_
    rintro e w7 ⟨rfl, hb7⟩
    have HG7 := hid (HG6.out.on hb7)
    have HH7 := hid (HH6.out.on hb7)
    have HW7 := hid (HW6.out.below hb7)
    have HB7 : Hid (Below w.heap.size w w7) := HB6.out.trans (hb7.mono HB6.out.size)
    clear g0 g1 h0 h1 hb7 HG6 HH6 HW6 HB6
    obtain ⟨g0, g1⟩ := HG7.out.cells
    obtain ⟨h0, h1⟩ := HH7.out.cells
    go_wp2_with fail
    refine (C5.out _ HH7.out HG7.out).mono ?_
    rintro e w8 ⟨rfl, hb8⟩
    have HG8 := hid (HG7.out.on hb8)
    have HH8 := hid (HH7.out.on hb8)
    have HW8 := hid (HW7.out.below hb8)
    have HB8 : Hid (Below w.heap.size w w8) := HB7.out.trans (hb8.mono HB7.out.size)
    clear g0 g1 h0 h1 hb8 HG7 HH7 HW7 HB7
    obtain ⟨g0, g1⟩ := HG8.out.cells
    obtain ⟨h0, h1⟩ := HH8.out.cells
    go_wp2_with fail
    refine (C2.out _ HH8.out).mono ?_
    rintro e w9 ⟨us, a9, c9, rfl, hU, hS9, hE9, hb9⟩
    obtain ⟨U, hU2⟩ := ex_eq us.length
    rw [← hU2]
    have HUL := hid hU2
    clear hU2
    obtain ⟨V9, hV9⟩ := ex_eq (w9.alloc (.cells #[.int .i64 m, .slice a9 U c9] 25))
    have hbV9 : Below w9.heap.size w9 V9 := by rw [hV9]; exact below_new _ _
    have HY9 : Hid (GC V9 w9.heap.size m a9 U c9 us) := by
      show GC V9 _ _ _ _ _ _
      rw [hV9]; exact gc_new hE9
    have hBX9 : Below w8.heap.size w8 V9 := hb9.trans (hbV9.mono hb9.size)
    have HG9 := hid (HG8.out.on hBX9)
    have HW9 := hid (HW8.out.below hBX9)
    have HB9 : Hid (Below w.heap.size w V9) := HB8.out.trans (hBX9.mono HB8.out.size)
    have HV9 := hid hV9
    have CW : Hid (Calls Try.prog 25 #[.agg #[.int .i64 m, .slice a9 U c9], .int .i64 p, .int .i64 q] V9 fun e w' => ∃ a' cap', e = .returned (.tuple #[.agg #[.int .i64 0, .slice a' 0 cap'], .int .i64 6]) ∧ EAt w' a' [] ∧ Below V9.heap.size V9 w') := by
      show Calls _ _ _ _ _
      rw [HUL.out]
      exact C3.out V9 us a9 c9 hU.out.1 (fun h => ((hU.out.2 _).1 h).2 rfl) hS9.out HY9.out.at_
    clear g0 g1 h0 h1 hE9 hb9 hbV9 hBX9 HG8 HH8 HW8 HB8 C1 C2 C3
    obtain ⟨g0, g1⟩ := HY9.out.cells
    rw [hV9] at g0 g1
    clear hV9
    go_wp2_with fail
    rw [← HV9.out]
    refine CW.out.mono ?_
    rintro e wA ⟨aA, cA, rfl, _, hbA⟩
    obtain ⟨VA, hVA⟩ := ex_eq (wA.alloc (.cells #[.int .i64 0, .slice aA 0 cA] 25))
    have hbVA : Below wA.heap.size wA VA := by rw [hVA]; exact below_new _ _
    have hBXA : Below V9.heap.size V9 VA := hbA.trans (hbVA.mono hbA.size)
    have HGA := hid (HG9.out.on hBXA)
    have HYA := hid (HY9.out.on hBXA)
    have HWA := hid (HW9.out.below hBXA)
    have HBA : Hid (Below w.heap.size w VA) := HB9.out.trans (hBXA.mono HB9.out.size)
    have HVA := hid hVA
    clear g0 g1 hbA hbVA hBXA HG9 HY9 HW9 HB9 HV9 CW
    obtain ⟨g0, g1⟩ := HGA.out.cells
    obtain ⟨h0, h1⟩ := HYA.out.cells
    rw [hVA] at g0 g1 h0 h1
    clear hVA
    go_wp2_with fail
    rw [← HVA.out]
    refine (C4.out _ a2 c2 a4 c4 HGA.out.at_ HWA.out).mono ?_
    rintro e wC ⟨rfl, hbC⟩
    go_wp2
    go_ret
    exact ⟨rfl, HBA.out.trans (hbC.mono HBA.out.size)⟩
  | false =>
    obtain rfl : M = K + 1 := by rw [HM.out, HK.out]; exact HZ2.out rfl
    go_wp2_with fail
    refine (C1.out _ HH6.out).mono ?_
    rintro e w8 ⟨rfl, hb8⟩
    have HG8 := hid (HG6.out.on hb8)
    have HH8 := hid (HH6.out.on hb8)
    have HW8 := hid (HW6.out.below hb8)
    have HB8 : Hid (Below w.heap.size w w8) := HB6.out.trans (hb8.mono HB6.out.size)
    clear g0 g1 h0 h1 hb8 HG6 HH6 HW6 HB6
    obtain ⟨g0, g1⟩ := HG8.out.cells
    obtain ⟨h0, h1⟩ := HH8.out.cells
    go_wp2_with fail
    refine (C2.out _ HH8.out).mono ?_
    rintro e w9 ⟨us, a9, c9, rfl, hU, hS9, hE9, hb9⟩
    have hus : ys = us := rises_one HR.out.2.2.2.2 hU.out.1.2.2.2.2 (fun e => by
      rw [hU.out.2 e, HZ3.out e]
      have hn : (min (p : Int) q, max (p : Int) q) ∉ ys := fun h => by have := HR2.out.2 h; cases this
      constructor
      · intro h; exact ⟨Or.inl h, fun h' => hn (by rw [← h']; exact h)⟩
      · rintro ⟨h | h, h'⟩
        · exact h
        · exact absurd h h')
    subst hus
    rw [← HK.out]
    have HUL := HK
    obtain ⟨V9, hV9⟩ := ex_eq (w9.alloc (.cells #[.int .i64 m, .slice a9 K c9] 25))
    have hbV9 : Below w9.heap.size w9 V9 := by rw [hV9]; exact below_new _ _
    have HY9 : Hid (GC V9 w9.heap.size m a9 K c9 ys) := by
      show GC V9 _ _ _ _ _ _
      rw [hV9]; exact gc_new hE9
    have hBX9 : Below w8.heap.size w8 V9 := hb9.trans (hbV9.mono hb9.size)
    have HG9 := hid (HG8.out.on hBX9)
    have HW9 := hid (HW8.out.below hBX9)
    have HB9 : Hid (Below w.heap.size w V9) := HB8.out.trans (hBX9.mono HB8.out.size)
    have HV9 := hid hV9
    have CW : Hid (Calls Try.prog 25 #[.agg #[.int .i64 m, .slice a9 K c9], .int .i64 p, .int .i64 q] V9 fun e w' => ∃ a' cap', e = .returned (.tuple #[.agg #[.int .i64 0, .slice a' 0 cap'], .int .i64 6]) ∧ EAt w' a' [] ∧ Below V9.heap.size V9 w') := by
      show Calls _ _ _ _ _
      rw [HUL.out]
      exact C3.out V9 ys a9 c9 hU.out.1 (fun h => ((hU.out.2 _).1 h).2 rfl) hS9.out HY9.out.at_
    clear g0 g1 h0 h1 hE9 hb9 hbV9 hBX9 HG8 HH8 HW8 HB8 C1 C2 C3
    obtain ⟨g0, g1⟩ := HY9.out.cells
    rw [hV9] at g0 g1
    clear hV9
    go_wp2_with fail
    rw [← HV9.out]
    refine CW.out.mono ?_
    rintro e wA ⟨aA, cA, rfl, _, hbA⟩
    obtain ⟨VA, hVA⟩ := ex_eq (wA.alloc (.cells #[.int .i64 0, .slice aA 0 cA] 25))
    have hbVA : Below wA.heap.size wA VA := by rw [hVA]; exact below_new _ _
    have hBXA : Below V9.heap.size V9 VA := hbA.trans (hbVA.mono hbA.size)
    have HGA := hid (HG9.out.on hBXA)
    have HYA := hid (HY9.out.on hBXA)
    have HWA := hid (HW9.out.below hBXA)
    have HBA : Hid (Below w.heap.size w VA) := HB9.out.trans (hBXA.mono HB9.out.size)
    have HVA := hid hVA
    clear g0 g1 hbA hbVA hBXA HG9 HY9 HW9 HB9 HV9 CW
    obtain ⟨g0, g1⟩ := HGA.out.cells
    obtain ⟨h0, h1⟩ := HYA.out.cells
    rw [hVA] at g0 g1 h0 h1
    clear hVA
    go_wp2_with fail
    rw [← HVA.out]
    refine (C4.out _ a9 c9 a4 c4 HYA.out.at_ HWA.out).mono ?_
    rintro e wB ⟨rfl, hbB⟩
    have HGB := hid (HGA.out.on hbB)
    have HWB := hid (HWA.out.below hbB)
    have HBB : Hid (Below w.heap.size w wB) := HBA.out.trans (hbB.mono HBA.out.size)
    clear g0 g1 h0 h1 hbB HGA HYA HWA HBA HVA
    obtain ⟨g0, g1⟩ := HGB.out.cells
    go_wp2_with fail
    refine (C4.out _ a2 c2 a4 c4 HGB.out.at_ HWB.out).mono ?_
    rintro e wC ⟨rfl, hbC⟩
    go_wp2
    go_ret
    exact ⟨rfl, HBB.out.trans (hbC.mono HBB.out.size)⟩
end Go.Proofs.Ytalhjankofdhgaa
