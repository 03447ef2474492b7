/-
  The law SubWrong over any calls that keep their contracts.
-/
import Derived.Test.YtagigeieoijciaaB14
import Derived.Test.YtagigeieoijciaaB01
import Derived.Test.YtagigeieoijciaaB06
namespace Go.Proofs.Ytagigeieoijciaa
open Go.RowKit Go.Lib

theorem ind_ok {n : Int} {es : List (Int × Int)} {x y er N : Int} {E : List (Int × Int)} (hR : RightG n es) (h : IndS n es [x, y] er N E) : er = 0 ↔ ((0 ≤ x ∧ x < n) ∧ (0 ≤ y ∧ y < n) ∧ x ≠ y) := by
  have e1 : InL n [x, y] ↔ ((0 ≤ x ∧ x < n) ∧ (0 ≤ y ∧ y < n)) := by unfold InL; simp
  have e2 : [x, y].Nodup ↔ x ≠ y := by simp
  rcases h with ⟨h1, _⟩ | ⟨_, h2, rfl, _, _⟩ | ⟨_, h2, h3, rfl, _, _⟩ | ⟨_, h2, h3, rfl, _, _⟩
  · exact absurd hR h1
  · rw [e1] at h2; constructor
    · intro h; omega
    · intro h; exact absurd ⟨h.1, h.2.1⟩ h2
  · rw [e2] at h3; constructor
    · intro h; omega
    · intro h; exact absurd h.2.2 h3
  · rw [e1] at h2; rw [e2] at h3
    exact ⟨fun _ => ⟨h2.1, h2.2, h3⟩, fun _ => rfl⟩
theorem del_ok {n : Int} {es : List (Int × Int)} {x er N : Int} {E : List (Int × Int)} (hR : RightG n es) (h : DelS n es x er N E) : er = 0 ↔ (0 ≤ x ∧ x < n) := by
  rcases h with ⟨h1, _⟩ | ⟨_, h2, rfl, _, _⟩ | ⟨_, h2, rfl, _, _⟩
  · exact absurd hR h1
  · exact ⟨fun h => by omega, fun h => absurd h h2⟩
  · exact ⟨fun _ => h2, fun _ => rfl⟩
theorem con_ok {n : Int} {es : List (Int × Int)} {x y er N : Int} {E : List (Int × Int)} (hR : RightG n es) (h : ConS n es x y er N E) : er = 0 ↔ Adj es x y := by
  rcases h with ⟨h1, _⟩ | ⟨_, h2, rfl, _, _⟩ | ⟨_, h2, h3, rfl, _, _⟩ | ⟨_, h2, h3, rfl, _, _⟩
  · exact absurd hR h1
  · exact ⟨fun h => by omega, fun h => absurd ⟨(h.in hR).1, (h.in hR).2.1⟩ h2⟩
  · exact ⟨fun h => by omega, fun h => absurd h h3⟩
  · exact ⟨fun _ => h3, fun _ => rfl⟩

set_option maxHeartbeats 20000000 in
set_option maxRecDepth 100000 in
theorem subWrong_law (O : SubOps) (n : Int) (a : Option Addr) (len cap : Nat) (l : List (Int × Int)) (x y : Int) (w : World) (hl : len = l.length) (hc : len ≤ cap) (hm : cap ≤ maxLen) (ha : a = none → cap = 0) (hE : EAt w a l) :
    Calls Try.prog 5 #[.agg #[.int .i64 n, .slice a len cap], .int .i64 x, .int .i64 y] w fun e w' => e = .returned (.bool true) ∧ Below w.heap.size w w' := by
  have HO := hid O
  clear O
  obtain ⟨i0, hi, hz0, hz1, hz2⟩ := info_parts Try.info40
  obtain ⟨k, hk⟩ := ex_eq (min len 300)
  obtain ⟨es, hes⟩ := ex_eq (l.take k)
  have hek : es.length = k := by rw [hes, List.length_take]; omega
  have HEK : Hid (es.length = k) := hek
  have k5 : k ≤ 300 := by omega
  have kmin : min (len : Int) 300 = (k : Int) := by omega
  have kc : (k : Int) ≤ (cap : Int) := by omega
  have k0 : (0 : Int) ≤ (k : Int) := by omega
  have HE : Hid (EAt w a es) := by
    show EAt w a es
    rw [hes]; exact eat_take hE k
  have hbA : Below w.heap.size w (w.alloc (.cells #[.int .i64 n, .slice a len cap] 27)) := (Below.refl _ _).alloc (Nat.le_refl _) _
  have hsA : (w.alloc (.cells #[.int .i64 n, .slice a len cap] 27)).heap.size = w.heap.size + 1 := by simp
  have HOA : Hid ((w.alloc (.cells #[.int .i64 n, .slice a len cap] 27)).heap[w.heap.size]? = some (.cells #[.int .i64 n, .slice a len cap] 27)) := heap_alloc_new _ _
  have k9 : (k : Int) ≤ (len : Int) := by omega
  clear hes hE hl hk
  go_enter Try.func5, Try.ntmps5
  go_wp2_with fail
  refine (sshown_any HO.out _).mono ?_
  rintro e w1 ⟨rfl, hb1⟩
  rw [hsA] at hb1
  have hbw : Below w.heap.size w w1 := hbA.trans (hb1.mono (by omega))
  have o1 := (hb1.block w.heap.size (by omega)).trans HOA.out
  have hs1 := hb1.size
  rw [hsA] at hs1
  have c1 : (w1.alloc (Obj.cells #[] 40 (0, 0))).cell? ⟨w.heap.size, 1, none⟩ = some (.slice a len cap) := cell_alloc_old (cell_of_heap o1 1) _
  have HO1 : Hid (w1.heap[w.heap.size]? = some (.cells #[.int .i64 n, .slice a len cap] 27)) := o1
  have HE1 : Hid (EAt w1 a es) := HE.out.below hbw
  clear hb1 hbA hsA HOA o1 HE hek
  obtain ⟨o, ho⟩ := ex_eq (Obj.cells #[] 40 (0, 0))
  have HOE : Hid ((w1.alloc o).ownsRow w1.heap.size 40 2 (.slice (some ⟨w1.heap.size, 0, none⟩) 0 0) 0 []) := own_empty o ho
  subst ho
  have key : Hid (∀ (v' : Value) (w4 : World), w4.ownsRow w1.heap.size 40 2 v' k (cellsE es) → Below w1.heap.size w1 w4 → ∃ a' cap', v' = .slice a' k cap' ∧ Sl a' cap' k ∧ GC (w4.setCell ⟨w.heap.size, 1, none⟩ v') w.heap.size n a' k cap' es ∧ Below w.heap.size w (w4.setCell ⟨w.heap.size, 1, none⟩ v') ∧ w4.frozen? ⟨w.heap.size, 1, none⟩ = false ∧ w4.cell? ⟨w.heap.size, 1, none⟩ = some (.slice a len cap)) := fun v' w4 hown hb => by
    have o4 := (hb.block w.heap.size (by omega)).trans HO1.out
    have d0 := cell_of_heap o4 0
    have d1 := cell_of_heap o4 1
    have hown' := hown
    rw [← HEK.out] at hown
    obtain ⟨a', cap', rfl, hsl, hea⟩ := eat_own hown
    rw [HEK.out] at hsl hown'
    have hge := own_ge hown'
    rw [HEK.out]
    refine ⟨a', cap', rfl, hsl, ⟨(set_one d0 d1 _).1, (set_one d0 d1 _).2, hea.set (fun g off _ h => by have := hge g off h; simp; omega) _⟩, ?_, frozen_of_heap o4 1, d1⟩
    exact (hbw.trans (hb.mono (by omega))).setCell (by simp) _
  go_upto_region 2 with fail
  go_cut [16] from 16 to 25 (fun _ wx => ∃ a' cap', Hid (Sl a' cap' k) ∧ Hid (GC wx w.heap.size n a' k cap' es) ∧ Below w.heap.size w wx)
  case first =>
    cases a with
    | none =>
      obtain rfl := ha rfl
      obtain rfl : len = 0 := by omega
      obtain rfl : k = 0 := by simp at k9; omega
      obtain rfl : es = [] := List.eq_nil_of_length_eq_zero HEK.out
      clear ha kmin kc k0 k5 hc hm k9
      obtain ⟨a', cap', hv, hsl, hgc, hbb, hfr, hso⟩ := key.out _ _ HOE.out ((Below.refl _ w1).alloc (Nat.le_refl _) _)
      obtain ⟨rfl, rfl⟩ : a' = some ⟨w1.heap.size, 0, none⟩ ∧ cap' = 0 := by simp at hv; exact ⟨hv.1.symm, hv.2.symm⟩
      have HSL : Hid (Sl (some ⟨w1.heap.size, 0, none⟩) 0 0) := hsl
      have HGC := hid hgc
      have HBB := hid hbb
      clear hv hsl hgc hso hbb
      go_wp2_with (at_builtin; refine wpList_append_own_none rfl _ _ 22 rfl w1.heap.size 40 i0 2 Try.underlying22 hi _ _ _ rfl HOE.out rfl ?_)
      all_goals go_meet
      all_goals exact ⟨_, _, HSL, HGC.out, HBB.out⟩
    | some ad =>
      clear ha
      obtain ⟨cs, hcs⟩ := ex_eq (cellsE es)
      have HCS : Hid (cs = cellsE es) := hcs
      have hlen : cs.length = k * 2 := by rw [hcs, cellsE_len, HEK.out]
      clear hcs
      go_wp2_with (at_builtin; refine wpList_append_own _ rfl _ _ 22 rfl w1.heap.size 40 i0 _ 2 16 Try.underlying22 hi hz0 hz1 hz2 rfl (by decide) _ _ _ rfl HOE.out ad k cap cs rfl hlen ?c1 ?c2 ?c3 ?c4 ?c5 ?_)
      case c1 => rw [HCS.out]; exact (HE1.out.below ((Below.refl _ w1).alloc (Nat.le_refl _) _)).news
      case c2 => rw [HCS.out]; exact cellsE_one es
      case c3 => unfold maxLen; omega
      case c4 => omega
      case c5 => simp
      intro v' w4 hown4 hgrow _
      have hb4 : Below w1.heap.size w1 w4 := Below.grown ((Below.refl _ w1).alloc (Nat.le_refl _) _) hgrow (by simp) (fun j hj => (HOE.out.lt j hj).1)
      rw [HCS.out] at hown4
      obtain ⟨a', cap', rfl, hsl, hgc, hbb, hfr, hso⟩ := key.out _ _ hown4 hb4
      have HSL : Hid (Sl a' cap' k) := hsl
      have HGC := hid hgc
      have HBB := hid hbb
      clear hsl hgc hbb hown4 hgrow hb4
      go_wp2
      all_goals go_meet
      all_goals exact ⟨_, _, HSL, HGC.out, HBB.out⟩
  case rest =>
    obtain ⟨a', cap', hsl, hgc, hbx⟩ := hcut
    clear HO1 HE1 HOE key hi hz0 hz1 hz2 c1 ha kmin kc k0 k9 hc hm
    obtain ⟨wx, hwx⟩ : ∃ x, x = wc := ⟨_, rfl⟩
    subst hwx
    have HBX := hid hbx
    have HGX := hgc
    have HSLX := hsl
    have HN1 : Hid (es.length ≤ 1000000) := by show _ ≤ _; rw [HEK.out]; omega
    clear hgc hsl hbx k5
    obtain ⟨b, hb⟩ := boolR_of (RightG n es)
    have HBB := hid hb
    obtain ⟨g0, g1⟩ := HGX.out.cells
    have CR : Hid (Calls Try.prog 19 #[.agg #[.int .i64 n, .slice a' k cap']] wx fun e w' => e = .returned (.bool b) ∧ Below wx.heap.size wx w') := by
      have := rright_any n a' cap' es b wx HN1.out HGX.out.at_ hb
      rw [HEK.out] at this
      exact this
    clear hb hbw
    go_wp2_with fail
    refine CR.out.mono ?_
    rintro e w2 ⟨rfl, hb2⟩
    have HG2 := hid (HGX.out.on hb2)
    have HB2 : Hid (Below w.heap.size w w2) := HBX.out.trans (hb2.mono HBX.out.size)
    have CI : Hid (Calls Try.prog 12 #[.agg #[.int .i64 n, .slice a' k cap'], .slice (some ⟨w2.heap.size, 0, none⟩) 2 2] (w2.alloc (.cells #[.int .i64 x, .int .i64 y] 3)) fun e w' => ∃ v, e = .returned v ∧ SubTold (IndS n es [x, y]) (w2.alloc (.cells #[.int .i64 x, .int .i64 y] 3)) w' v) := by
      have := HO.out.ind n a' cap' es (some ⟨w2.heap.size, 0, none⟩) 2 [x, y] b (w2.alloc (.cells #[.int .i64 x, .int .i64 y] 3)) HN1.out (by simp) (by rw [HEK.out]; exact HSLX.out.w) (sl_some (by simp)).w (HG2.out.on (below_one _ _)).at_ (iat_new w2 [x, y] _ _ rfl) HBB.out
      rw [HEK.out] at this
      exact this
    have CD : Hid (∀ X, GC X w.heap.size n a' k cap' es → Calls Try.prog 15 #[.agg #[.int .i64 n, .slice a' k cap'], .int .i64 x] X fun e w' => ∃ v, e = .returned v ∧ SubTold (DelS n es x) X w' v) := fun X hX => by
      have := HO.out.del n a' cap' es x b X HN1.out (by rw [HEK.out]; exact HSLX.out.w) hX.at_ HBB.out
      rw [HEK.out] at this
      exact this
    have CC : Hid (∀ X, GC X w.heap.size n a' k cap' es → Calls Try.prog 17 #[.agg #[.int .i64 n, .slice a' k cap'], .int .i64 x, .int .i64 y] X fun e w' => ∃ v, e = .returned v ∧ SubTold (ConS n es x y) X w' v) := fun X hX => by
      have := HO.out.con n a' cap' es x y b X HN1.out (by rw [HEK.out]; exact HSLX.out.w) hX.at_ HBB.out
      rw [HEK.out] at this
      exact this
    obtain ⟨i0, i1⟩ := HG2.out.cells
    clear hb2 CR g0 g1 HGX HBX
    go_wp2_with fail
    refine CI.out.mono ?_
    rintro e w3 ⟨v, rfl, er3, N3, E3, a3, c3, rfl, hS3, hsl3, hea3, hb3⟩
    obtain ⟨V3, hV3⟩ := ex_eq (w3.alloc (.cells #[.int .i64 N3, .slice a3 E3.length c3] 27))
    have hb3' : Below w2.heap.size w2 w3 := (below_one _ _).trans (hb3.mono (by simp))
    have hb4 : Below w2.heap.size w2 V3 := by rw [hV3]; exact hb3'.alloc hb3'.size _
    have HO3 : Hid (V3.heap[w3.heap.size]? = some (.cells #[.int .i64 N3, .slice a3 E3.length c3] 27 (0, 0))) := by
      show _ = _
      rw [hV3]; exact heap_alloc_new _ _
    have HG3 := hid (HG2.out.on hb4)
    have HB3 : Hid (Below w.heap.size w V3) := HB2.out.trans (hb4.mono HB2.out.size)
    have HV3 := hid hV3
    have HS3 := hid hS3
    obtain ⟨j0, j1⟩ := HG3.out.cells
    clear hV3 hb3 hb3' hb4 hea3 hsl3 hS3 CI i0 i1 HG2 HB2
    go_upto_region 5 with fail
    rw [← HV3.out]
    clear HV3
    go_wp2_with fail
    refine (CD.out V3 HG3.out).mono ?_
    rintro e w5 ⟨v, rfl, er5, N5, E5, a5, c5, rfl, hS5, hsl5, hea5, hb5⟩
    obtain ⟨V5, hV5⟩ := ex_eq (w5.alloc (.cells #[.int .i64 N5, .slice a5 E5.length c5] 27))
    have hb6 : Below V3.heap.size V3 V5 := by rw [hV5]; exact hb5.alloc hb5.size _
    have HO5 : Hid (V5.heap[w5.heap.size]? = some (.cells #[.int .i64 N5, .slice a5 E5.length c5] 27 (0, 0))) := by
      show _ = _
      rw [hV5]; exact heap_alloc_new _ _
    have HO35 := hid ((hb6.block _ (Array.getElem?_eq_some_iff.1 HO3.out).1).trans HO3.out)
    have HG5 := hid (HG3.out.on hb6)
    have HB5 : Hid (Below w.heap.size w V5) := HB3.out.trans (hb6.mono HB3.out.size)
    have HV5 := hid hV5
    have HS5 := hid hS5
    obtain ⟨q0, q1⟩ := HG5.out.cells
    clear hV5 hb5 hb6 hea5 hsl5 hS5 CD j0 j1 HG3 HB3 HO3
    go_upto_region 6 with fail
    rw [← HV5.out]
    clear HV5
    go_wp2_with fail
    refine (CC.out V5 HG5.out).mono ?_
    rintro e w7 ⟨v, rfl, er7, N7, E7, a7, c7, rfl, hS7, hsl7, hea7, hb7⟩
    obtain ⟨V7, hV7⟩ := ex_eq (w7.alloc (.cells #[.int .i64 N7, .slice a7 E7.length c7] 27))
    have hb8 : Below V5.heap.size V5 V7 := by rw [hV7]; exact hb7.alloc hb7.size _
    have o7 : V7.heap[w7.heap.size]? = some (.cells #[.int .i64 N7, .slice a7 E7.length c7] 27 (0, 0)) := by rw [hV7]; exact heap_alloc_new _ _
    have o3 := (hb8.block _ (Array.getElem?_eq_some_iff.1 HO35.out).1).trans HO35.out
    have o5 := (hb8.block _ (Array.getElem?_eq_some_iff.1 HO5.out).1).trans HO5.out
    have HG7 := hid (HG5.out.on hb8)
    have HB7 : Hid (Below w.heap.size w V7) := HB5.out.trans (hb8.mono HB5.out.size)
    have HV7 := hid hV7
    have HS7 := hid hS7
    obtain ⟨s0, s1⟩ := HG7.out.cells
    have r30 := cell_of_heap o3 0
    have r31 := cell_of_heap o3 1
    have r50 := cell_of_heap o5 0
    have r51 := cell_of_heap o5 1
    have r70 := cell_of_heap o7 0
    have r71 := cell_of_heap o7 1
    clear hV7 hb7 hb8 hea7 hsl7 hS7 CC q0 q1 HG5 HB5 HO35 HO5 o3 o5 o7
    go_upto_region 7 with fail
    rw [← HV7.out]
    clear HV7
    cases b with
    | false =>
      have hnr : ¬ RightG n es := fun h => by have := HBB.out.2 h; cases this
      obtain ⟨rfl, rfl, rfl⟩ := HS3.out.one (Or.inl ⟨hnr, rfl, rfl, rfl⟩)
      obtain ⟨rfl, rfl, rfl⟩ := HS5.out.one (Or.inl ⟨hnr, rfl, rfl, rfl⟩)
      obtain ⟨rfl, rfl, rfl⟩ := HS7.out.one (Or.inl ⟨hnr, rfl, rfl, rfl⟩)
      clear hnr HS3 HS5 HS7 HBB
      go_wp2
      go_ret
      exact ⟨rfl, HB7.out⟩
    | true =>
      have hrg := HBB.out.1 rfl
      have HRG := hid hrg
      have K3 := hid (ind_ok hrg HS3.out)
      have K5 := hid (del_ok hrg HS5.out)
      have K7 := hid (con_ok hrg HS7.out)
      obtain ⟨h, hh⟩ := boolR_of (RightG n es ∧ Adj es x y)
      have k7 : (er7 == 0) = h := by
        rw [Bool.eq_iff_iff, beq_iff_eq, K7.out, hh]
        exact ⟨fun h => ⟨hrg, h⟩, fun h => h.2⟩
      have CH : Hid (Calls Try.prog 20 #[.agg #[.int .i64 n, .slice a' k cap'], .int .i64 x, .int .i64 y] V7 fun e w' => e = .returned (.bool h) ∧ Below V7.heap.size V7 w') := by
        have := rhas_any n a' cap' es x y true h V7 HN1.out HG7.out.at_ HBB.out hh
        rw [HEK.out] at this
        exact this
      clear hrg hh K7 HS3 HS5 HS7 HBB HN1 HG7 HEK HRG HSLX HO
      by_cases c1 : x < 0
      · skip
        have px1 : decide (x ≥ 0) = false := decide_eq_false (by omega)
        have px2 : decide (0 ≤ x) = false := decide_eq_false (by omega)
        have px3 : ¬ 0 ≤ x := by omega
        have k3 : (er3 == 0) = false := by rw [Bool.eq_iff_iff, beq_iff_eq, K3.out]; simp; omega
        have k5 : (er5 == 0) = false := by rw [Bool.eq_iff_iff, beq_iff_eq, K5.out]; simp; omega
        clear K3 K5
        go_wp2_with fail
        refine CH.out.mono ?_
        rintro e w9 ⟨rfl, hb9⟩
        have HB9 : Hid (Below w.heap.size w w9) := HB7.out.trans (hb9.mono HB7.out.size)
        clear hb9 CH r30 r31 r50 r51 r70 r71 s0 s1 k7 k3 k5
        cases h with
        | true =>
          go_wp2
          go_ret
          exact ⟨rfl, HB9.out⟩
        | false =>
          go_wp2
          go_ret
          exact ⟨rfl, HB9.out⟩
      by_cases c2 : y < 0
      · by_cases c3 : x < n
        · skip
          have px1 : decide (x ≥ 0) = true := decide_eq_true (by omega)
          have px2 : decide (0 ≤ x) = true := decide_eq_true (by omega)
          have px3 : 0 ≤ x := by omega
          have py1 : decide (y ≥ 0) = false := decide_eq_false (by omega)
          have py2 : decide (0 ≤ y) = false := decide_eq_false (by omega)
          have py3 : ¬ 0 ≤ y := by omega
          have lx1 : decide (x < n) = true := decide_eq_true (by omega)
          have lx3 : x < n := by omega
          have k3 : (er3 == 0) = false := by rw [Bool.eq_iff_iff, beq_iff_eq, K3.out]; simp; omega
          have k5 : (er5 == 0) = true := by rw [Bool.eq_iff_iff, beq_iff_eq, K5.out]; simp; omega
          clear K3 K5
          go_wp2_with fail
          refine CH.out.mono ?_
          rintro e w9 ⟨rfl, hb9⟩
          have HB9 : Hid (Below w.heap.size w w9) := HB7.out.trans (hb9.mono HB7.out.size)
          clear hb9 CH r30 r31 r50 r51 r70 r71 s0 s1 k7 k3 k5
          cases h with
          | true =>
            go_wp2
            go_ret
            exact ⟨rfl, HB9.out⟩
          | false =>
            go_wp2
            go_ret
            exact ⟨rfl, HB9.out⟩
        · skip
          have px1 : decide (x ≥ 0) = true := decide_eq_true (by omega)
          have px2 : decide (0 ≤ x) = true := decide_eq_true (by omega)
          have px3 : 0 ≤ x := by omega
          have py1 : decide (y ≥ 0) = false := decide_eq_false (by omega)
          have py2 : decide (0 ≤ y) = false := decide_eq_false (by omega)
          have py3 : ¬ 0 ≤ y := by omega
          have lx1 : decide (x < n) = false := decide_eq_false (by omega)
          have lx3 : ¬ x < n := by omega
          have k3 : (er3 == 0) = false := by rw [Bool.eq_iff_iff, beq_iff_eq, K3.out]; simp; omega
          have k5 : (er5 == 0) = false := by rw [Bool.eq_iff_iff, beq_iff_eq, K5.out]; simp; omega
          clear K3 K5
          go_wp2_with fail
          refine CH.out.mono ?_
          rintro e w9 ⟨rfl, hb9⟩
          have HB9 : Hid (Below w.heap.size w w9) := HB7.out.trans (hb9.mono HB7.out.size)
          clear hb9 CH r30 r31 r50 r51 r70 r71 s0 s1 k7 k3 k5
          cases h with
          | true =>
            go_wp2
            go_ret
            exact ⟨rfl, HB9.out⟩
          | false =>
            go_wp2
            go_ret
            exact ⟨rfl, HB9.out⟩
      by_cases c3 : ¬ x < n
      · skip
        have px1 : decide (x ≥ 0) = true := decide_eq_true (by omega)
        have px2 : decide (0 ≤ x) = true := decide_eq_true (by omega)
        have px3 : 0 ≤ x := by omega
        have py1 : decide (y ≥ 0) = true := decide_eq_true (by omega)
        have py2 : decide (0 ≤ y) = true := decide_eq_true (by omega)
        have py3 : 0 ≤ y := by omega
        have lx1 : decide (x < n) = false := decide_eq_false (by omega)
        have lx3 : ¬ x < n := by omega
        have k3 : (er3 == 0) = false := by rw [Bool.eq_iff_iff, beq_iff_eq, K3.out]; simp; omega
        have k5 : (er5 == 0) = false := by rw [Bool.eq_iff_iff, beq_iff_eq, K5.out]; simp; omega
        clear K3 K5
        go_wp2_with fail
        refine CH.out.mono ?_
        rintro e w9 ⟨rfl, hb9⟩
        have HB9 : Hid (Below w.heap.size w w9) := HB7.out.trans (hb9.mono HB7.out.size)
        clear hb9 CH r30 r31 r50 r51 r70 r71 s0 s1 k7 k3 k5
        cases h with
        | true =>
          go_wp2
          go_ret
          exact ⟨rfl, HB9.out⟩
        | false =>
          go_wp2
          go_ret
          exact ⟨rfl, HB9.out⟩
      by_cases c4 : ¬ y < n
      · skip
        have px1 : decide (x ≥ 0) = true := decide_eq_true (by omega)
        have px2 : decide (0 ≤ x) = true := decide_eq_true (by omega)
        have px3 : 0 ≤ x := by omega
        have py1 : decide (y ≥ 0) = true := decide_eq_true (by omega)
        have py2 : decide (0 ≤ y) = true := decide_eq_true (by omega)
        have py3 : 0 ≤ y := by omega
        have lx1 : decide (x < n) = true := decide_eq_true (by omega)
        have lx3 : x < n := by omega
        have ly1 : decide (y < n) = false := decide_eq_false (by omega)
        have ly3 : ¬ y < n := by omega
        have k3 : (er3 == 0) = false := by rw [Bool.eq_iff_iff, beq_iff_eq, K3.out]; simp; omega
        have k5 : (er5 == 0) = true := by rw [Bool.eq_iff_iff, beq_iff_eq, K5.out]; simp; omega
        clear K3 K5
        go_wp2_with fail
        refine CH.out.mono ?_
        rintro e w9 ⟨rfl, hb9⟩
        have HB9 : Hid (Below w.heap.size w w9) := HB7.out.trans (hb9.mono HB7.out.size)
        clear hb9 CH r30 r31 r50 r51 r70 r71 s0 s1 k7 k3 k5
        cases h with
        | true =>
          go_wp2
          go_ret
          exact ⟨rfl, HB9.out⟩
        | false =>
          go_wp2
          go_ret
          exact ⟨rfl, HB9.out⟩
      by_cases c5 : x = y
      · have n1 : (x == y) = true := beq_iff_eq.2 c5
        have n2 : (x != y) = false := by simp [c5]
        have px1 : decide (x ≥ 0) = true := decide_eq_true (by omega)
        have px2 : decide (0 ≤ x) = true := decide_eq_true (by omega)
        have px3 : 0 ≤ x := by omega
        have py1 : decide (y ≥ 0) = true := decide_eq_true (by omega)
        have py2 : decide (0 ≤ y) = true := decide_eq_true (by omega)
        have py3 : 0 ≤ y := by omega
        have lx1 : decide (x < n) = true := decide_eq_true (by omega)
        have lx3 : x < n := by omega
        have ly1 : decide (y < n) = true := decide_eq_true (by omega)
        have ly3 : y < n := by omega
        have k3 : (er3 == 0) = false := by rw [Bool.eq_iff_iff, beq_iff_eq, K3.out]; simp; omega
        have k5 : (er5 == 0) = true := by rw [Bool.eq_iff_iff, beq_iff_eq, K5.out]; simp; omega
        clear K3 K5 c5
        go_wp2_with fail
        refine CH.out.mono ?_
        rintro e w9 ⟨rfl, hb9⟩
        have HB9 : Hid (Below w.heap.size w w9) := HB7.out.trans (hb9.mono HB7.out.size)
        clear hb9 CH r30 r31 r50 r51 r70 r71 s0 s1 k7 k3 k5
        cases h with
        | true =>
          go_wp2
          go_ret
          exact ⟨rfl, HB9.out⟩
        | false =>
          go_wp2
          go_ret
          exact ⟨rfl, HB9.out⟩
      · have n1 : (x == y) = false := beq_eq_false_iff_ne.2 c5
        have n2 : (x != y) = true := by simp [c5]
        have px1 : decide (x ≥ 0) = true := decide_eq_true (by omega)
        have px2 : decide (0 ≤ x) = true := decide_eq_true (by omega)
        have px3 : 0 ≤ x := by omega
        have py1 : decide (y ≥ 0) = true := decide_eq_true (by omega)
        have py2 : decide (0 ≤ y) = true := decide_eq_true (by omega)
        have py3 : 0 ≤ y := by omega
        have lx1 : decide (x < n) = true := decide_eq_true (by omega)
        have lx3 : x < n := by omega
        have ly1 : decide (y < n) = true := decide_eq_true (by omega)
        have ly3 : y < n := by omega
        have k3 : (er3 == 0) = true := by rw [Bool.eq_iff_iff, beq_iff_eq, K3.out]; simp; omega
        have k5 : (er5 == 0) = true := by rw [Bool.eq_iff_iff, beq_iff_eq, K5.out]; simp; omega
        clear K3 K5
        go_wp2_with fail
        refine CH.out.mono ?_
        rintro e w9 ⟨rfl, hb9⟩
        have HB9 : Hid (Below w.heap.size w w9) := HB7.out.trans (hb9.mono HB7.out.size)
        clear hb9 CH r30 r31 r50 r51 r70 r71 s0 s1 k7 k3 k5
        cases h with
        | true =>
          go_wp2
          go_ret
          exact ⟨rfl, HB9.out⟩
        | false =>
          go_wp2
          go_ret
          exact ⟨rfl, HB9.out⟩
end Go.Proofs.Ytagigeieoijciaa
