/-
  The law SubTells over any calls that keep their contracts.
-/
import Derived.Test.YtagigeieoijciaaLSInd
import Derived.Test.YtagigeieoijciaaB17
import Derived.Test.YtagigeieoijciaaB06
namespace Go.Proofs.Ytagigeieoijciaa
open Go.RowKit Go.Lib

theorem IndE.len4 {n : Int} {es : List (Int × Int)} {l : List Int} {E : List (Int × Int)} (hR : RightG n es) (h : IndE es l E) (hn : l.Nodup) : E.length ≤ 4000 := Nat.le_trans (h.len hn) hR.2.2.1
theorem DelS.len {n : Int} {es : List (Int × Int)} {v er N : Int} {E : List (Int × Int)} (h : DelS n es v er N E) (hR : RightG n es) : E.length ≤ 1000000 := by
  rcases h with ⟨_, _, _, h⟩ | ⟨_, _, _, _, h⟩ | ⟨_, _, _, _, h⟩
  · rw [h]; simp
  · rw [h]; simp
  · have := h.len4 hR (othL_nodup _ _); omega
/-- A contraction makes no more edges than there were. -/
theorem con_len {m lo hi : Nat} {es E : List (Int × Int)} (hlt : lo < hi) (h : ConE m es lo hi E) : E.length ≤ es.length := by
  -- each edge of E comes of one of es, under the new numbers
  have hsub := len_le_of_sub (a := E) (b := es.map (fun e => (min (fC hi lo e.1) (fC hi lo e.2), max (fC hi lo e.1) (fC hi lo e.2)))) (rises_nodup h.1) (fun e he => by
    obtain ⟨x, y⟩ := e
    obtain ⟨i, j, rfl, rfl, hij, hj, hm⟩ := (h.2 x y).1 he
    have key : ∃ p q : Int, Adj es p q ∧ fC hi lo p = i ∧ fC hi lo q = j := by
      rcases hm with hm | ⟨e1, _, hm⟩ | ⟨e1, _, hm⟩
      · exact ⟨_, _, hm, fC_up, fC_up⟩
      · refine ⟨hi, _, hm, ?_, fC_up⟩
        have := fC_up (hi := hi) (i := i) (lo := (lo : Int))
        rw [e1, fC_lo hlt] at this
        rw [fC_out]; exact this
      · refine ⟨_, hi, hm.symm, fC_up, ?_⟩
        have := fC_up (hi := hi) (i := j) (lo := (lo : Int))
        rw [e1, fC_lo hlt] at this
        rw [fC_out]; exact this
    obtain ⟨p, q, hadj, e1, e2⟩ := key
    rw [List.mem_map]
    rcases hadj with hz | hz
    · refine ⟨(p, q), hz, ?_⟩
      show (min (fC hi lo p) (fC hi lo q), max (fC hi lo p) (fC hi lo q)) = _
      rw [e1, e2, Int.min_eq_left (by omega), Int.max_eq_right (by omega)]
    · refine ⟨(q, p), hz, ?_⟩
      show (min (fC hi lo q) (fC hi lo p), max (fC hi lo q) (fC hi lo p)) = _
      rw [e1, e2, Int.min_eq_right (by omega), Int.max_eq_left (by omega)])
  simpa using hsub
theorem ConS.len {n : Int} {es : List (Int × Int)} {a b er N : Int} {E : List (Int × Int)} (h : ConS n es a b er N E) (hR : RightG n es) : E.length ≤ 1000000 := by
  rcases h with ⟨_, _, _, h⟩ | ⟨_, _, _, _, h⟩ | ⟨_, _, _, _, _, h⟩ | ⟨_, hin, hadj, _, _, h⟩
  · rw [h]; simp
  · rw [h]; simp
  · rw [h]; simp
  · have hne := (hadj.in hR).2.2
    obtain ⟨m, rfl⟩ : ∃ m : Nat, n = m := ⟨n.toNat, by have := hR.1; omega⟩
    have := con_len (m := m) (by omega) h
    have := hR.2.2.1
    omega

set_option maxHeartbeats 4000000 in
set_option maxRecDepth 100000 in
theorem subTells_law (O : SubOps) (n : Int) (a : Option Addr) (len cap : Nat) (l : List (Int × Int)) (x y : Int) (w : World) (hl : len = l.length) (hE : EAt w a l) :
    Calls Try.prog 4 #[.agg #[.int .i64 n, .slice a len cap], .int .i64 x, .int .i64 y] w fun e w' => e = .returned (.bool true) ∧ Below w.heap.size w w' := by
  have HO := hid O
  obtain ⟨W0, hW0⟩ := ex_eq (w.alloc (.cells #[.int .i64 n, .slice a len cap] 24))
  have hB0 : Below w.heap.size w W0 := by rw [hW0]; exact below_one _ _
  have hs0 : W0.heap.size = w.heap.size + 1 := by rw [hW0]; simp
  have HO0 : Hid (W0.heap[w.heap.size]? = some (.cells #[.int .i64 n, .slice a len cap] 24)) := by
    show _ = _
    rw [hW0]; exact heap_alloc_new _ _
  have HEX : Hid (∀ X, Below w.heap.size w X → EAt X a l) := fun X h => hE.below h
  have HL := hid hl
  have HW0 := hid hW0
  have HB0 := hid hB0
  clear O hl hE hW0 hB0
  go_enter Try.func4, Try.ntmps4
  go_wp2_with fail
  rw [← HW0.out]
  refine (sshown_any HO.out _).mono ?_
  rintro e w1 ⟨rfl, hb1⟩
  have hbw1 : Below w.heap.size w w1 := HB0.out.trans (hb1.mono (by omega))
  have o1 := (hb1.block w.heap.size (by omega)).trans HO0.out
  have x0 := cell_of_heap o1 0
  have x1 := cell_of_heap o1 1
  have CA := hid (net_any n a len cap l 15 w1 (by omega) HL.out (HEX.out w1 hbw1))
  have HB1 := hid hbw1
  clear hb1 hbw1 o1 HO0 hs0 HB0 HW0 HEX HL
  go_wp2_with fail
  refine CA.out.mono ?_
  rintro e w2 ⟨m, ys, a2, c2, rfl, hm15, hR, hys, hsl, hE2, hb2⟩
  obtain ⟨K, hK⟩ := ex_eq ys.length
  rw [← hK]
  have HK := hid hK
  obtain ⟨V2, hV2⟩ := ex_eq (w2.alloc (.cells #[.int .i64 m, .slice a2 K c2] 27))
  have HGg : Hid (GC V2 w2.heap.size m a2 K c2 ys) := by
    show GC V2 _ _ _ _ _ _
    rw [hV2]; exact gc_new6 hE2
  have HB : Hid (Below w.heap.size w V2) := by
    have h1 : Below w2.heap.size w2 V2 := by rw [hV2]; exact below_one _ _
    have h2 : Below w.heap.size w w2 := HB1.out.trans (hb2.mono HB1.out.size)
    exact h2.trans (h1.mono h2.size)
  have HV2 := hid hV2
  have HR := hid hR
  have HSL := hid hsl
  have hK3 : K ≤ 300 := by omega
  have HYS : Hid (ys.length ≤ 300) := hys
  have CD : Hid (∀ v X, GC X w2.heap.size m a2 K c2 ys → Calls Try.prog 15 #[.agg #[.int .i64 m, .slice a2 K c2], .int .i64 v] X fun e w' => ∃ u, e = .returned u ∧ SubTold (DelS m ys v) X w' u) := fun v X hX => by
    have := HO.out.del m a2 c2 ys v true X (by omega) HSL.out.w hX.at_ ⟨fun _ => HR.out, fun _ => rfl⟩
    rw [← hK] at this
    exact this
  have CDD : Hid (∀ v X, GC X w2.heap.size m a2 K c2 ys → Calls Try.prog 16 #[.agg #[.int .i64 m, .slice a2 K c2], .int .i64 v] X fun e w' => ∃ u, e = .returned u ∧ SubTold (DelS m ys v) X w' u) := fun v X hX => by
    have := rdel_any m a2 c2 ys v true X (by omega) hX.at_ ⟨fun _ => HR.out, fun _ => rfl⟩
    rw [← hK] at this
    exact this
  have CC : Hid (∀ u v X, GC X w2.heap.size m a2 K c2 ys → Calls Try.prog 17 #[.agg #[.int .i64 m, .slice a2 K c2], .int .i64 u, .int .i64 v] X fun e w' => ∃ z, e = .returned z ∧ SubTold (ConS m ys u v) X w' z) := fun u v X hX => by
    have := HO.out.con m a2 c2 ys u v true X (by omega) HSL.out.w hX.at_ ⟨fun _ => HR.out, fun _ => rfl⟩
    rw [← hK] at this
    exact this
  have CCC : Hid (∀ u v X, GC X w2.heap.size m a2 K c2 ys → Calls Try.prog 18 #[.agg #[.int .i64 m, .slice a2 K c2], .int .i64 u, .int .i64 v] X fun e w' => ∃ z, e = .returned z ∧ SubTold (ConS m ys u v) X w' z) := fun u v X hX => by
    have := rcon_any m a2 c2 ys u v true X (by omega) (fun _ => by simp; omega) HSL.out.w hX.at_ ⟨fun _ => HR.out, fun _ => rfl⟩
    rw [← hK] at this
    exact this
  clear hK hV2 hE2 hb2 hR hys hsl CA x0 x1 HB1
  obtain ⟨xg0, xg1⟩ := HGg.out.cells
  go_upto_region 3 with fail
  rw [← HV2.out]
  clear HV2
  go_wp2_with fail
  refine (CD.out x V2 HGg.out).mono ?_
  rintro e w3 ⟨v, rfl, er3, N3, E3, a3, c3, rfl, hS3, hsl3, hea3, hb3⟩
  obtain ⟨V3, hV3⟩ := ex_eq (w3.alloc (.cells #[.int .i64 N3, .slice a3 E3.length c3] 27))
  have hbV3 : Below V2.heap.size V2 V3 := by rw [hV3]; exact hb3.alloc hb3.size _
  have HG3 : Hid (GC V3 w3.heap.size N3 a3 E3.length c3 E3) := by
    show GC _ _ _ _ _ _ _
    rw [hV3]; exact gc_new6 hea3
  replace HGg := hid (HGg.out.on hbV3)
  replace HB : Hid (Below w.heap.size w V3) := HB.out.trans (hbV3.mono HB.out.size)
  have HS3 := hid hS3
  have HSL3 := hid hsl3
  have HV3 := hid hV3
  clear hV3 hbV3 hsl3 hea3 hb3 hS3
  clear CD xg0 xg1
  obtain ⟨xg0, xg1⟩ := HGg.out.cells
  go_upto_region 4 with fail
  rw [← HV3.out]
  clear HV3
  go_wp2_with fail
  refine (CDD.out x V3 HGg.out).mono ?_
  rintro e w4 ⟨v, rfl, er4, N4, E4, a4, c4, rfl, hS4, hsl4, hea4, hb4⟩
  obtain ⟨V4, hV4⟩ := ex_eq (w4.alloc (.cells #[.int .i64 N4, .slice a4 E4.length c4] 27))
  have hbV4 : Below V3.heap.size V3 V4 := by rw [hV4]; exact hb4.alloc hb4.size _
  have HG4 : Hid (GC V4 w4.heap.size N4 a4 E4.length c4 E4) := by
    show GC _ _ _ _ _ _ _
    rw [hV4]; exact gc_new6 hea4
  replace HGg := hid (HGg.out.on hbV4)
  replace HG3 := hid (HG3.out.on hbV4)
  replace HB : Hid (Below w.heap.size w V4) := HB.out.trans (hbV4.mono HB.out.size)
  have HS4 := hid hS4
  have HSL4 := hid hsl4
  have HV4 := hid hV4
  clear hV4 hbV4 hsl4 hea4 hb4 hS4
  clear CDD xg0 xg1
  obtain ⟨xg0, xg1⟩ := HGg.out.cells
  go_upto_region 5 with fail
  rw [← HV4.out]
  clear HV4
  go_wp2_with fail
  refine (CC.out x y V4 HGg.out).mono ?_
  rintro e w5 ⟨v, rfl, er5, N5, E5, a5, c5, rfl, hS5, hsl5, hea5, hb5⟩
  obtain ⟨V5, hV5⟩ := ex_eq (w5.alloc (.cells #[.int .i64 N5, .slice a5 E5.length c5] 27))
  have hbV5 : Below V4.heap.size V4 V5 := by rw [hV5]; exact hb5.alloc hb5.size _
  have HG5 : Hid (GC V5 w5.heap.size N5 a5 E5.length c5 E5) := by
    show GC _ _ _ _ _ _ _
    rw [hV5]; exact gc_new6 hea5
  replace HGg := hid (HGg.out.on hbV5)
  replace HG3 := hid (HG3.out.on hbV5)
  replace HG4 := hid (HG4.out.on hbV5)
  replace HB : Hid (Below w.heap.size w V5) := HB.out.trans (hbV5.mono HB.out.size)
  have HS5 := hid hS5
  have HSL5 := hid hsl5
  have HV5 := hid hV5
  clear hV5 hbV5 hsl5 hea5 hb5 hS5
  clear CC xg0 xg1
  obtain ⟨xg0, xg1⟩ := HGg.out.cells
  go_upto_region 6 with fail
  rw [← HV5.out]
  clear HV5
  go_wp2_with fail
  refine (CCC.out x y V5 HGg.out).mono ?_
  rintro e w6 ⟨v, rfl, er6, N6, E6, a6, c6, rfl, hS6, hsl6, hea6, hb6⟩
  obtain ⟨V6, hV6⟩ := ex_eq (w6.alloc (.cells #[.int .i64 N6, .slice a6 E6.length c6] 27))
  have hbV6 : Below V5.heap.size V5 V6 := by rw [hV6]; exact hb6.alloc hb6.size _
  have HG6 : Hid (GC V6 w6.heap.size N6 a6 E6.length c6 E6) := by
    show GC _ _ _ _ _ _ _
    rw [hV6]; exact gc_new6 hea6
  replace HGg := hid (HGg.out.on hbV6)
  replace HG3 := hid (HG3.out.on hbV6)
  replace HG4 := hid (HG4.out.on hbV6)
  replace HG5 := hid (HG5.out.on hbV6)
  replace HB : Hid (Below w.heap.size w V6) := HB.out.trans (hbV6.mono HB.out.size)
  have HS6 := hid hS6
  have HSL6 := hid hsl6
  have HV6 := hid hV6
  clear hV6 hbV6 hsl6 hea6 hb6 hS6
  clear CCC xg0 xg1
  obtain ⟨rfl, rfl, rfl⟩ := HS4.out.one HS3.out
  obtain ⟨rfl, rfl, rfl⟩ := HS6.out.one HS5.out
  have hE4l : E4.length ≤ 1000000 := HS4.out.len HR.out
  have hE6l : E6.length ≤ 1000000 := HS6.out.len HR.out
  have CS1 : Hid (∀ X, GC X w3.heap.size N4 a3 E4.length c3 E4 → GC X w4.heap.size N4 a4 E4.length c4 E4 → Calls Try.prog 14 #[.agg #[.int .i64 N4, .slice a3 E4.length c3], .agg #[.int .i64 N4, .slice a4 E4.length c4]] X fun e w' => e = .returned (.bool true) ∧ Below X.heap.size X w') := fun X h3 h4 => sameGraph_any N4 N4 a3 a4 c3 c4 E4 E4 true X hE4l h3.at_ h4.at_ ⟨fun _ => ⟨rfl, rfl⟩, fun _ => rfl⟩
  have CS2 : Hid (∀ X, GC X w5.heap.size N6 a5 E6.length c5 E6 → GC X w6.heap.size N6 a6 E6.length c6 E6 → Calls Try.prog 14 #[.agg #[.int .i64 N6, .slice a5 E6.length c5], .agg #[.int .i64 N6, .slice a6 E6.length c6]] X fun e w' => e = .returned (.bool true) ∧ Below X.heap.size X w') := fun X h3 h4 => sameGraph_any N6 N6 a5 a6 c5 c6 E6 E6 true X hE6l h3.at_ h4.at_ ⟨fun _ => ⟨rfl, rfl⟩, fun _ => rfl⟩
  have b1 : (er4 == er4) = true := by simp
  have b2 : (er6 == er6) = true := by simp
  clear hE4l hE6l HS3 HS4 HS5 HS6
  obtain ⟨x30, x31⟩ := HG3.out.cells
  obtain ⟨x40, x41⟩ := HG4.out.cells
  go_upto_region 7 with fail
  rw [← HV6.out]
  clear HV6
  go_wp2_with fail
  refine (CS1.out V6 HG3.out HG4.out).mono ?_
  rintro e w7 ⟨rfl, hb7⟩
  have HG5' := hid (HG5.out.on hb7)
  have HG6' := hid (HG6.out.on hb7)
  have HB7 : Hid (Below w.heap.size w w7) := HB.out.trans (hb7.mono HB.out.size)
  obtain ⟨s0, s1⟩ := HG5'.out.cells
  obtain ⟨t0, t1⟩ := HG6'.out.cells
  clear hb7 CS1 x30 x31 x40 x41 HG3 HG4 HG5 HG6 HB
  go_wp2_with fail
  refine (CS2.out w7 HG5'.out HG6'.out).mono ?_
  rintro e w8 ⟨rfl, hb8⟩
  have HB8 : Hid (Below w.heap.size w w8) := HB7.out.trans (hb8.mono HB7.out.size)
  clear hb8 CS2 s0 s1 t0 t1
  go_wp2
  go_ret
  exact ⟨rfl, HB8.out⟩
end Go.Proofs.Ytagigeieoijciaa
