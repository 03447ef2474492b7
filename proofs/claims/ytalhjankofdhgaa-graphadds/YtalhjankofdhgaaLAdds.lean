/-
  carcanetlaw03.GraphAdds answers true.
-/
import Derived.Test.YtalhjankofdhgaaGHead
import Derived.Test.YtalhjankofdhgaaRAdd
import Derived.Test.YtalhjankofdhgaaRWithout
import Derived.Test.YtalhjankofdhgaaLNormal
namespace Go.Proofs.Ytalhjankofdhgaa
open Go.RowKit Go.Lib

theorem addE_one {n x y : Int} {l : List (Int × Int)} {er er' : Int} {es es' : List (Int × Int)} (h : AddE n l x y er es) (h' : AddE n l x y er' es') : er = er' ∧ es = es' := by
  rcases h with ⟨h1, rfl, rfl⟩ | ⟨h1, h2, rfl, rfl⟩ | ⟨h1, h2, h3⟩ <;> rcases h' with ⟨g1, rfl, rfl⟩ | ⟨g1, g2, rfl, rfl⟩ | ⟨g1, g2, g3⟩
  all_goals first
    | exact ⟨rfl, rfl⟩
    | exact absurd h1 g1
    | exact absurd g1 h1
    | exact absurd h2 g2
    | exact absurd g2 h2
    | skip
  rcases h3 with ⟨h3, rfl, rfl⟩ | ⟨h3, h4, rfl, rfl⟩ | ⟨h3, h4, h5, rfl, rfl⟩ | ⟨h3, h4, h5, rfl, h6, h7, h8⟩ <;> rcases g3 with ⟨g3, rfl, rfl⟩ | ⟨g3, g4, rfl, rfl⟩ | ⟨g3, g4, g5, rfl, rfl⟩ | ⟨g3, g4, g5, rfl, g6, g7, g8⟩
  all_goals first
    | exact ⟨rfl, rfl⟩
    | exact absurd h3 g3
    | exact absurd g3 h3
    | exact absurd h4 g4
    | exact absurd g4 h4
    | (exfalso; omega)
    | exact ⟨rfl, rises_one h6 g6 (fun e => (h8 e).trans (g8 e).symm)⟩
theorem withoutE_one {n x y : Int} {l : List (Int × Int)} {er er' : Int} {es es' : List (Int × Int)} (h : WithoutE n l x y er es) (h' : WithoutE n l x y er' es') : er = er' ∧ es = es' := by
  rcases h with ⟨h1, rfl, rfl⟩ | ⟨h1, h2, rfl, rfl⟩ | ⟨h1, h2, rfl, h6, h7, h8⟩ <;> rcases h' with ⟨g1, rfl, rfl⟩ | ⟨g1, g2, rfl, rfl⟩ | ⟨g1, g2, rfl, g6, g7, g8⟩
  all_goals first
    | exact ⟨rfl, rfl⟩
    | exact absurd h1 g1
    | exact absurd g1 h1
    | exact absurd h2 g2
    | exact absurd g2 h2
    | exact ⟨rfl, rises_one h6 g6 (fun e => (h8 e).trans (g8 e).symm)⟩
theorem addE_len {n x y : Int} {l : List (Int × Int)} {er : Int} {es : List (Int × Int)} (h : AddE n l x y er es) : es.length ≤ 4000 := by
  rcases h with ⟨_, _, rfl⟩ | ⟨_, _, _, rfl⟩ | ⟨h1, h2, ⟨_, _, rfl⟩ | ⟨_, _, _, rfl⟩ | ⟨_, _, _, _, rfl⟩ | ⟨_, _, h5, _, _, h7, _⟩⟩
  all_goals first | (simp; done) | exact h1.2.2.1 | omega
theorem withoutE_len {n x y : Int} {l : List (Int × Int)} {er : Int} {es : List (Int × Int)} (h : WithoutE n l x y er es) : es.length ≤ 4000 := by
  rcases h with ⟨_, _, rfl⟩ | ⟨_, _, _, rfl⟩ | ⟨h1, _, _, _, h7, _⟩
  · simp
  · simp
  · have := h1.2.2.1; omega

set_option maxHeartbeats 4000000 in
set_option maxRecDepth 100000 in
theorem adds_law (n : Int) (a : Option Addr) (len cap : Nat) (l : List (Int × Int)) (x y : Int) (w : World) (hl : len = l.length) (hc : len ≤ cap) (hm : cap ≤ maxLen) (ha : a = none → cap = 0) (hE : EAt w a l) :
    Calls Try.prog 5 #[.agg #[.int .i64 n, .slice a len cap], .int .i64 x, .int .i64 y] w fun e w' => e = .returned (.bool true) ∧ Below w.heap.size w w' := by
  obtain ⟨i0, hi, hz0, hz1, hz2⟩ := info_parts Try.info39
  obtain ⟨k, hk⟩ := ex_eq (min len 500)
  obtain ⟨es, hes⟩ := ex_eq (l.take k)
  have hek : es.length = k := by rw [hes, List.length_take]; omega
  have HEK : Hid (es.length = k) := hek
  have k5 : k ≤ 500 := by omega
  have kmin : min (len : Int) 500 = (k : Int) := by omega
  have kc : (k : Int) ≤ (cap : Int) := by omega
  have k0 : (0 : Int) ≤ (k : Int) := by omega
  have HE : Hid (EAt w a es) := by
    show EAt w a es
    rw [hes]; exact eat_take hE k
  have hbA : Below w.heap.size w (w.alloc (.cells #[.int .i64 n, .slice a len cap] 25)) := (Below.refl _ _).alloc (Nat.le_refl _) _
  have hsA : (w.alloc (.cells #[.int .i64 n, .slice a len cap] 25)).heap.size = w.heap.size + 1 := by simp
  have HOA : Hid ((w.alloc (.cells #[.int .i64 n, .slice a len cap] 25)).heap[w.heap.size]? = some (.cells #[.int .i64 n, .slice a len cap] 25)) := heap_alloc_new _ _
  have k9 : (k : Int) ≤ (len : Int) := by omega
  clear hes hE hl hk
  go_enter Try.func5, Try.ntmps5
  go_wp2_with fail
  refine (shown_any _).mono ?_
  rintro e w1 ⟨rfl, hb1⟩
  rw [hsA] at hb1
  have hbw : Below w.heap.size w w1 := hbA.trans (hb1.mono (by omega))
  have o1 := (hb1.block w.heap.size (by omega)).trans HOA.out
  have hs1 := hb1.size
  rw [hsA] at hs1
  have c1 : (w1.alloc (Obj.cells #[] 39 (0, 0))).cell? ⟨w.heap.size, 1, none⟩ = some (.slice a len cap) := cell_alloc_old (cell_of_heap o1 1) _
  have HO1 : Hid (w1.heap[w.heap.size]? = some (.cells #[.int .i64 n, .slice a len cap] 25)) := o1
  have HE1 : Hid (EAt w1 a es) := HE.out.below hbw
  clear hb1 hbA hsA HOA o1 HE hek
  obtain ⟨o, ho⟩ := ex_eq (Obj.cells #[] 39 (0, 0))
  have HOE : Hid ((w1.alloc o).ownsRow w1.heap.size 39 2 (.slice (some ⟨w1.heap.size, 0, none⟩) 0 0) 0 []) := own_empty o ho
  subst ho
  have key : Hid (∀ (v' : Value) (w4 : World), w4.ownsRow w1.heap.size 39 2 v' k (cellsE es) → Below w1.heap.size w1 w4 → ∃ a' cap', v' = .slice a' k cap' ∧ Sl a' cap' k ∧ GC (w4.setCell ⟨w.heap.size, 1, none⟩ v') w.heap.size n a' k cap' es ∧ Below w.heap.size w (w4.setCell ⟨w.heap.size, 1, none⟩ v') ∧ w4.frozen? ⟨w.heap.size, 1, none⟩ = false ∧ w4.cell? ⟨w.heap.size, 1, none⟩ = some (.slice a len cap)) := fun v' w4 hown hb => by
    have o4 := (hb.block w.heap.size (by omega)).trans HO1.out
    have d0 := cell_of_heap o4 0
    have d1 := cell_of_heap o4 1
    have hown' := hown
    rw [← HEK.out] at hown
    obtain ⟨a', cap', rfl, hsl, hea⟩ := eat_own hown
    rw [HEK.out] at hsl hown'
    have hge := own_ge hown'
    rw [HEK.out]
    refine ⟨a', cap', rfl, hsl, ⟨(set_one d0 d1 _).1, (set_one d0 d1 _).2, hea.set (fun g off _ h => by have := hge g off h; simp; omega) _⟩, ?_, frozen_of_heap o4 1, d1⟩
    exact (hbw.trans (hb.mono (by omega))).setCell (by simp) _
  go_upto_region 2 with fail
  go_cut [17] from 17 to 26 (fun _ wx => ∃ a' cap', Hid (Sl a' cap' k) ∧ Hid (GC wx w.heap.size n a' k cap' es) ∧ Below w.heap.size w wx)
  case first =>
    cases a with
    | none =>
      obtain rfl := ha rfl
      obtain rfl : len = 0 := by omega
      obtain rfl : k = 0 := by simp at k9; omega
      obtain rfl : es = [] := List.eq_nil_of_length_eq_zero HEK.out
      clear ha kmin kc k0 k5 hc hm k9
      obtain ⟨a', cap', hv, hsl, hgc, hbb, hfr, hso⟩ := key.out _ _ HOE.out ((Below.refl _ w1).alloc (Nat.le_refl _) _)
      obtain ⟨rfl, rfl⟩ : a' = some ⟨w1.heap.size, 0, none⟩ ∧ cap' = 0 := by simp at hv; exact ⟨hv.1.symm, hv.2.symm⟩
      have HSL : Hid (Sl (some ⟨w1.heap.size, 0, none⟩) 0 0) := hsl
      have HGC := hid hgc
      have HBB := hid hbb
      clear hv hsl hgc hso hbb
      go_wp2_with (at_builtin; refine wpList_append_own_none rfl _ _ 22 rfl w1.heap.size 39 i0 2 Try.underlying22 hi _ _ _ rfl HOE.out rfl ?_)
      all_goals go_meet
      all_goals exact ⟨_, _, HSL, HGC.out, HBB.out⟩
    | some ad =>
      clear ha
      obtain ⟨cs, hcs⟩ := ex_eq (cellsE es)
      have HCS : Hid (cs = cellsE es) := hcs
      have hlen : cs.length = k * 2 := by rw [hcs, cellsE_len, HEK.out]
      clear hcs
      go_wp2_with (at_builtin; refine wpList_append_own _ rfl _ _ 22 rfl w1.heap.size 39 i0 _ 2 16 Try.underlying22 hi hz0 hz1 hz2 rfl (by decide) _ _ _ rfl HOE.out ad k cap cs rfl hlen ?c1 ?c2 ?c3 ?c4 ?c5 ?_)
      case c1 => rw [HCS.out]; exact (HE1.out.below ((Below.refl _ w1).alloc (Nat.le_refl _) _)).news
      case c2 => rw [HCS.out]; exact cellsE_one es
      case c3 => unfold maxLen; omega
      case c4 => omega
      case c5 => simp
      intro v' w4 hown4 hgrow _
      have hb4 : Below w1.heap.size w1 w4 := Below.grown ((Below.refl _ w1).alloc (Nat.le_refl _) _) hgrow (by simp) (fun j hj => (HOE.out.lt j hj).1)
      rw [HCS.out] at hown4
      obtain ⟨a', cap', rfl, hsl, hgc, hbb, hfr, hso⟩ := key.out _ _ hown4 hb4
      have HSL : Hid (Sl a' cap' k) := hsl
      have HGC := hid hgc
      have HBB := hid hbb
      clear hsl hgc hbb hown4 hgrow hb4
      go_wp2
      all_goals go_meet
      all_goals exact ⟨_, _, HSL, HGC.out, HBB.out⟩
  case rest =>
    obtain ⟨a', cap', hsl, hgc, hbx⟩ := hcut
    clear HO1 HE1 HOE key hi hz0 hz1 hz2 c1 ha
    obtain ⟨b, hb⟩ : ∃ b : Bool, b = true ↔ RightG n es := by
      by_cases h : RightG n es
      · exact ⟨true, ⟨fun _ => h, fun _ => rfl⟩⟩
      · exact ⟨false, ⟨fun h' => (by cases h'), fun h' => absurd h' h⟩⟩
    have hN : es.length ≤ 1000000 := by rw [HEK.out]; omega
    have C1 : Hid (∀ W, GC W w.heap.size n a' k cap' es → Calls Try.prog 23 #[.agg #[.int .i64 n, .slice a' k cap'], .int .i64 x, .int .i64 y] W fun e w' => ∃ er ys a2 c2, e = .returned (.tuple #[.agg #[.int .i64 (nOf' n er), .slice a2 ys.length c2], .int .i64 er]) ∧ Hid (AddE n es x y er ys) ∧ EAt w' a2 ys ∧ Below W.heap.size W w') := fun W h => by
      rw [← HEK.out]
      exact (add_any n a' cap' es x y b W hN h.at_ (by rw [HEK.out]; exact hsl.out) hb).mono fun _ _ ⟨er, ys, a2, c2, h1, h2, h3, h4, h5⟩ => ⟨er, ys, a2, c2, h1, h2, h4, h5⟩
    have C2 : Hid (∀ W er ys, GC W w.heap.size n a' k cap' es → AddE n es x y er ys → Calls Try.prog 24 #[.agg #[.int .i64 n, .slice a' k cap'], .int .i64 x, .int .i64 y] W fun e w' => ∃ a2 c2, e = .returned (.tuple #[.agg #[.int .i64 (nOf' n er), .slice a2 ys.length c2], .int .i64 er]) ∧ EAt w' a2 ys ∧ Below W.heap.size W w') := fun W er ys h ha => by
      rw [← HEK.out]
      exact (radd_any n a' cap' es x y b W hN h.at_ (by rw [HEK.out]; exact hsl.out) hb).mono fun _ _ ⟨er2, ys2, a2, c2, h1, h2, h3, h4, h5⟩ => by
        obtain ⟨rfl, rfl⟩ := addE_one ha h2
        exact ⟨a2, c2, h1, h4, h5⟩
    have C3 : Hid (∀ W, GC W w.heap.size n a' k cap' es → Calls Try.prog 25 #[.agg #[.int .i64 n, .slice a' k cap'], .int .i64 x, .int .i64 y] W fun e w' => ∃ er ys a2 c2, e = .returned (.tuple #[.agg #[.int .i64 (nOf' n er), .slice a2 ys.length c2], .int .i64 er]) ∧ Hid (WithoutE n es x y er ys) ∧ EAt w' a2 ys ∧ Below W.heap.size W w') := fun W h => by
      rw [← HEK.out]
      exact (without_any n a' cap' es x y b W hN h.at_ (by rw [HEK.out]; exact hsl.out) hb).mono fun _ _ ⟨er, ys, a2, c2, h1, h2, h3, h4, h5⟩ => ⟨er, ys, a2, c2, h1, h2, h4, h5⟩
    have C4 : Hid (∀ W er ys, GC W w.heap.size n a' k cap' es → WithoutE n es x y er ys → Calls Try.prog 26 #[.agg #[.int .i64 n, .slice a' k cap'], .int .i64 x, .int .i64 y] W fun e w' => ∃ a2 c2, e = .returned (.tuple #[.agg #[.int .i64 (nOf' n er), .slice a2 ys.length c2], .int .i64 er]) ∧ EAt w' a2 ys ∧ Below W.heap.size W w') := fun W er ys h ha => by
      rw [← HEK.out]
      exact (rwithout_any n a' cap' es x y b W hN h.at_ hb).mono fun _ _ ⟨er2, ys2, a2, c2, h1, h2, h3, h4, h5⟩ => by
        obtain ⟨rfl, rfl⟩ := withoutE_one ha h2
        exact ⟨a2, c2, h1, h4, h5⟩
    have HB := hid hbx
    obtain ⟨g0, g1⟩ := hgc.out.cells
    clear hb hN hs1 kmin kc k0 k9 k5 hc hm hbw hsl
    go_wp2_with fail
    refine (C1.out _ hgc.out).mono ?_
    rintro e w2 ⟨er, ys, a2, c2, rfl, hA2, hE2, hb2⟩
    obtain ⟨n2, hn2⟩ := ex_eq (nOf' n er)
    obtain ⟨K, hK⟩ := ex_eq ys.length
    rw [← hn2, ← hK]
    have HN2 := hid hn2
    have HK := hid hK
    obtain ⟨V2, hV2⟩ := ex_eq (w2.alloc (.cells #[.int .i64 n2, .slice a2 K c2] 25))
    have hbV2 : Below w2.heap.size w2 V2 := by rw [hV2]; exact below_new _ _
    have HG2 : Hid (GC V2 w2.heap.size n2 a2 K c2 ys) := by
      show GC V2 _ _ _ _ _ _
      rw [hV2]; exact gc_new hE2
    have hBX2 : Below wc.heap.size wc V2 := hb2.trans (hbV2.mono hb2.size)
    have HGC2 := hid (hgc.out.on hBX2)
    have HB2 : Hid (Below w.heap.size w V2) := HB.out.trans (hBX2.mono HB.out.size)
    have HV2 := hid hV2
    clear g0 g1 hn2 hK hE2 hb2 hbV2 hBX2 hgc C1
    obtain ⟨g0, g1⟩ := HGC2.out.cells
    rw [hV2] at g0 g1
    clear hV2
    go_wp2_with fail
    rw [← HV2.out]
    refine (C2.out _ er ys HGC2.out hA2.out).mono ?_
    rintro e w3 ⟨a3, c3, rfl, hE3, hb3⟩
    rw [← HN2.out, ← HK.out]
    obtain ⟨V3, hV3⟩ := ex_eq (w3.alloc (.cells #[.int .i64 n2, .slice a3 K c3] 25))
    have hbV3 : Below w3.heap.size w3 V3 := by rw [hV3]; exact below_new _ _
    have HH3 : Hid (GC V3 w3.heap.size n2 a3 K c3 ys) := by
      show GC V3 _ _ _ _ _ _
      rw [hV3]; exact gc_new hE3
    have hBX3 : Below V2.heap.size V2 V3 := hb3.trans (hbV3.mono hb3.size)
    have HGC3 := hid (HGC2.out.on hBX3)
    have HG3 := hid (HG2.out.on hBX3)
    have HB3 : Hid (Below w.heap.size w V3) := HB2.out.trans (hBX3.mono HB2.out.size)
    have HV3 := hid hV3
    clear g0 g1 hE3 hb3 hbV3 hBX3 C2 HGC2 HG2 HV2
    obtain ⟨g0, g1⟩ := HGC3.out.cells
    rw [hV3] at g0 g1
    clear hV3
    go_wp2_with fail
    rw [← HV3.out]
    refine (C3.out _ HGC3.out).mono ?_
    rintro e w4 ⟨er4, ys4, a4, c4, rfl, hA4, hE4, hb4⟩
    obtain ⟨n4, hn4⟩ := ex_eq (nOf' n er4)
    obtain ⟨K4, hK4⟩ := ex_eq ys4.length
    rw [← hn4, ← hK4]
    have HN4 := hid hn4
    have HK4 := hid hK4
    obtain ⟨V4, hV4⟩ := ex_eq (w4.alloc (.cells #[.int .i64 n4, .slice a4 K4 c4] 25))
    have hbV4 : Below w4.heap.size w4 V4 := by rw [hV4]; exact below_new _ _
    have HI4 : Hid (GC V4 w4.heap.size n4 a4 K4 c4 ys4) := by
      show GC V4 _ _ _ _ _ _
      rw [hV4]; exact gc_new hE4
    have hBX4 : Below V3.heap.size V3 V4 := hb4.trans (hbV4.mono hb4.size)
    have HGC4 := hid (HGC3.out.on hBX4)
    have HG4 := hid (HG3.out.on hBX4)
    have HH4 := hid (HH3.out.on hBX4)
    have HB4 : Hid (Below w.heap.size w V4) := HB3.out.trans (hBX4.mono HB3.out.size)
    have HV4 := hid hV4
    clear g0 g1 hn4 hK4 hE4 hb4 hbV4 hBX4 HGC3 HG3 HH3 HV3 C3
    obtain ⟨g0, g1⟩ := HGC4.out.cells
    rw [hV4] at g0 g1
    clear hV4
    go_wp2_with fail
    rw [← HV4.out]
    refine (C4.out _ er4 ys4 HGC4.out hA4.out).mono ?_
    rintro e w5 ⟨a5, c5, rfl, hE5, hb5⟩
    rw [← HN4.out, ← HK4.out]
    obtain ⟨V5, hV5⟩ := ex_eq (w5.alloc (.cells #[.int .i64 n4, .slice a5 K4 c5] 25))
    have hbV5 : Below w5.heap.size w5 V5 := by rw [hV5]; exact below_new _ _
    have HJ5 : Hid (GC V5 w5.heap.size n4 a5 K4 c5 ys4) := by
      show GC V5 _ _ _ _ _ _
      rw [hV5]; exact gc_new hE5
    have hBX5 : Below V4.heap.size V4 V5 := hb5.trans (hbV5.mono hb5.size)
    have HG5 := hid (HG4.out.on hBX5)
    have HH5 := hid (HH4.out.on hBX5)
    have HI5 := hid (HI4.out.on hBX5)
    have HB5 : Hid (Below w.heap.size w V5) := HB4.out.trans (hBX5.mono HB4.out.size)
    have HV5 := hid hV5
    clear g0 g1 hE5 hb5 hbV5 hBX5 HGC4 HG4 HH4 HI4 HV4 C4
    have C5 : Hid (Calls Try.prog 13 #[.agg #[.int .i64 n2, .slice a2 K c2], .agg #[.int .i64 n2, .slice a3 K c3]] V5 fun e w' => e = .returned (.bool true) ∧ Below V5.heap.size V5 w') := by
      show Calls _ _ _ _ _
      rw [HK.out]
      exact sameGraph_any n2 n2 a2 a3 c2 c3 ys ys true V5 (by have := addE_len hA2.out; omega) HG5.out.at_ HH5.out.at_ ⟨fun _ => ⟨rfl, rfl⟩, fun _ => rfl⟩
    obtain ⟨g0, g1⟩ := HG5.out.cells
    obtain ⟨h0, h1⟩ := HH5.out.cells
    rw [hV5] at g0 g1 h0 h1
    clear hV5
    go_wp2_with fail
    rw [← HV5.out]
    refine C5.out.mono ?_
    rintro e w6 ⟨rfl, hb6⟩
    have C6 : Hid (Calls Try.prog 13 #[.agg #[.int .i64 n4, .slice a4 K4 c4], .agg #[.int .i64 n4, .slice a5 K4 c5]] w6 fun e w' => e = .returned (.bool true) ∧ Below w6.heap.size w6 w') := by
      show Calls _ _ _ _ _
      rw [HK4.out]
      exact sameGraph_any n4 n4 a4 a5 c4 c5 ys4 ys4 true w6 (by have := withoutE_len hA4.out; omega) (HI5.out.on hb6).at_ (HJ5.out.on hb6).at_ ⟨fun _ => ⟨rfl, rfl⟩, fun _ => rfl⟩
    have HB6 : Hid (Below w.heap.size w w6) := HB5.out.trans (hb6.mono HB5.out.size)
    clear g0 g1 h0 h1 C5
    obtain ⟨g0, g1⟩ := (HI5.out.on hb6).cells
    obtain ⟨h0, h1⟩ := (HJ5.out.on hb6).cells
    clear hb6
    go_wp2_with fail
    refine C6.out.mono ?_
    rintro e w7 ⟨rfl, hb7⟩
    go_wp2
    go_ret
    exact ⟨rfl, HB6.out.trans (hb7.mono HB6.out.size)⟩
end Go.Proofs.Ytalhjankofdhgaa
