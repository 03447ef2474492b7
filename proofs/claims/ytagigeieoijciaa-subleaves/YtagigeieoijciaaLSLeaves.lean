/-
  The law SubLeaves over any calls that keep their contracts.
-/
import Derived.Test.YtagigeieoijciaaLSTells
import Derived.Test.YtagigeieoijciaaB15
import Derived.Test.YtagigeieoijciaaB05
namespace Go.Proofs.Ytagigeieoijciaa
open Go.RowKit Go.Lib

theorem next_neL {m p t : Nat} (hm : 2 ≤ m) (hp : p < m) (ht : t < m - 1) : ∃ q : Nat, (((p : Int) + 1 + (t : Int)).tmod (m : Int)) = (q : Int) ∧ q < m ∧ p ≠ q := by
  refine ⟨(p + 1 + t) % m, ?_, Nat.mod_lt _ (by omega), ?_⟩
  · have e : (p : Int) + 1 + t = ((p + 1 + t : Nat) : Int) := by omega
    rw [Int.tmod_eq_emod_of_nonneg (by omega), e]
    exact (Int.natCast_emod (p + 1 + t) m).symm
  · intro h
    by_cases e : p + 1 + t < m
    · rw [Nat.mod_eq_of_lt e] at h; omega
    · rw [Nat.mod_eq_sub_mod (by omega), Nat.mod_eq_of_lt (by omega)] at h; omega
theorem oth2_next (k p q : Nat) : oth2 (k + 1) p q = oth2 k p q ++ (if k ≠ p ∧ k ≠ q then [(k : Int)] else []) := by
  unfold oth2
  rw [List.range_succ, List.filter_append, List.map_append]
  congr 1
  by_cases e : k ≠ p ∧ k ≠ q
  · rw [if_pos e]; simp [e.1, e.2]
  · rw [if_neg e]
    rw [List.filter_cons_of_neg (by simpa using e)]
    rfl
theorem oth2_lenL (n p q : Nat) : (oth2 n p q).length ≤ n := by
  unfold oth2
  rw [List.length_map]
  exact Nat.le_trans (List.length_filter_le _ _) (by simp)
theorem oth2_nodupL (n p q : Nat) : (oth2 n p q).Nodup := by
  rw [List.nodup_iff_pairwise_ne]
  exact (oth2_up n p q).imp (fun h => by omega)
theorem oth2_count {n lo hi : Nat} (hlt : lo < hi) (hh : hi < n) : (oth2 n hi lo).length = n - 1 - 1 := by
  rw [← oth_oth hh (show lo < n - 1 by omega) (show upN hi lo = lo by unfold upN; rw [if_pos hlt]), List.length_map, othL_len (by omega)]
theorem DelS.okN {m m1 V : Nat} {es : List (Int × Int)} {er N : Int} {E : List (Int × Int)} (h : DelS m es V er N E) (hR : RightG m es) (hv : V < m) (hm : m = m1 + 1) : er = 0 ∧ N = m1 ∧ IndE es (othL m V) E ∧ RightG m1 E := by
  rcases h with ⟨h1, _⟩ | ⟨_, h2, _⟩ | ⟨_, _, h1, h2, h3⟩
  · exact absurd hR h1
  · exact absurd ⟨by omega, by omega⟩ h2
  · have h3' : IndE es (othL m V) E := by simpa using h3
    have hl := othL_len hv
    have h4 := h3'.right hR (othL_nodup _ _) (by have := hR.2.1; omega)
    rw [hl] at h4
    exact ⟨h1, by omega, h3', by rw [show m - 1 = m1 by omega] at h4; exact h4⟩
theorem ind_okL {m lo hi : Nat} {es : List (Int × Int)} {er N : Int} {E : List (Int × Int)} (hR : RightG m es) (hlt : lo < hi) (hh : hi < m) (h : IndS m es (oth2 m hi lo) er N E) : er = 0 ∧ N = ((m - 1 - 1 : Nat) : Int) ∧ IndE es (oth2 m hi lo) E := by
  rcases h with ⟨h1, _⟩ | ⟨_, h2, _⟩ | ⟨_, _, h3, _⟩ | ⟨_, _, _, h1, h2, h3⟩
  · exact absurd hR h1
  · exact absurd (fun x hx => (mem_oth2.1 hx).1) h2
  · exact absurd (oth2_nodupL _ _ _) h3
  · exact ⟨h1, by rw [h2, oth2_count hlt hh], h3⟩
theorem iat_own_sl {w : World} {base : Nat} {e : TypeId} {v : Value} {xs : List Int} (h : w.ownsRow base e 1 v xs.length (xs.map (Value.int .i64))) : ∃ a cap, v = .slice a xs.length cap ∧ Sl a cap xs.length ∧ IAt w a xs := by
  obtain ⟨a, cap, hv, hI⟩ := iat_own h
  obtain ⟨a', cap', hv', hs⟩ := sl_own h
  rw [hv] at hv'
  simp only [Value.slice.injEq, true_and] at hv'
  obtain ⟨rfl, rfl⟩ := hv'
  exact ⟨a, cap, hv, hs, hI⟩

set_option maxHeartbeats 4000000 in
set_option maxRecDepth 100000 in
theorem subLeaves_law (O : SubOps) (n : Int) (a : Option Addr) (len cap : Nat) (l : List (Int × Int)) (x y : Int) (w : World) (hl : len = l.length) (hE : EAt w a l) :
    Calls Try.prog 8 #[.agg #[.int .i64 n, .slice a len cap], .int .i64 x, .int .i64 y] w fun e w' => e = .returned (.bool true) ∧ Below w.heap.size w w' := by
  have HO := hid O
  obtain ⟨W0, hW0⟩ := ex_eq (w.alloc (.cells #[.int .i64 n, .slice a len cap] 24))
  have hB0 : Below w.heap.size w W0 := by rw [hW0]; exact below_one _ _
  have hs0 : W0.heap.size = w.heap.size + 1 := by rw [hW0]; simp
  have HO0 : Hid (W0.heap[w.heap.size]? = some (.cells #[.int .i64 n, .slice a len cap] 24)) := by
    show _ = _
    rw [hW0]; exact heap_alloc_new _ _
  have HEX : Hid (∀ X, Below w.heap.size w X → EAt X a l) := fun X h => hE.below h
  have HL := hid hl
  have HW0 := hid hW0
  have HB0 := hid hB0
  clear O hl hE hW0 hB0
  go_enter Try.func8, Try.ntmps8
  go_wp2_with fail
  rw [← HW0.out]
  refine (sshown_any HO.out _).mono ?_
  rintro e w1 ⟨rfl, hb1⟩
  have hbw1 : Below w.heap.size w w1 := HB0.out.trans (hb1.mono (by omega))
  have o1 := (hb1.block w.heap.size (by omega)).trans HO0.out
  have x0 := cell_of_heap o1 0
  have x1 := cell_of_heap o1 1
  have CA := hid (net_any n a len cap l 30 w1 (by omega) HL.out (HEX.out w1 hbw1))
  have HB1 := hid hbw1
  clear hb1 hbw1 o1 HO0 hs0 HB0 HW0 HEX HL
  go_wp2_with fail
  refine CA.out.mono ?_
  rintro e w2 ⟨m, ys, a2, c2, rfl, hm30, hR, hys, hsl, hE2, hb2⟩
  obtain ⟨K, hK⟩ := ex_eq ys.length
  rw [← hK]
  have HK := hid hK
  obtain ⟨V2, hV2⟩ := ex_eq (w2.alloc (.cells #[.int .i64 m, .slice a2 K c2] 27))
  have HGg : Hid (GC V2 w2.heap.size m a2 K c2 ys) := by
    show GC V2 _ _ _ _ _ _
    rw [hV2]; exact gc_new6 hE2
  have HB : Hid (Below w.heap.size w V2) := by
    have h1 : Below w2.heap.size w2 V2 := by rw [hV2]; exact below_one _ _
    have h2 : Below w.heap.size w w2 := HB1.out.trans (hb2.mono HB1.out.size)
    exact h2.trans (h1.mono h2.size)
  have HV2 := hid hV2
  have HR := hid hR
  have HSL := hid hsl
  have hK3 : K ≤ 300 := by omega
  have HYS : Hid (ys.length ≤ 300) := hys
  have hI0 := info_parts Try.info3
  obtain ⟨i0, hi0, hz0, hz1, hz2⟩ := hI0
  clear hK hV2 hE2 hb2 hR hys hsl CA x0 x1 HB1
  go_upto_region 3 with fail
  rw [← HV2.out]
  clear HV2
  obtain ⟨g0, g1⟩ := HGg.out.cells
  by_cases hm2 : m < 2
  · have hm3 : (m : Int) < 2 := by omega
    go_wp2
    go_ret
    exact ⟨rfl, HB.out⟩
  have hm3 : ¬ (m : Int) < 2 := by omega
  have hm4 : ¬ m = 0 := by omega
  have hm5 : ¬ (m : Int) = 0 := by omega
  obtain ⟨p, hp, hpm⟩ := rnd_of x (m := m) (by omega)
  obtain ⟨m1, hm1⟩ : ∃ m1 : Nat, m = m1 + 1 := ⟨m - 1, by omega⟩
  obtain ⟨t, ht, htm⟩ := rnd_of y (m := m1) (by omega)
  obtain ⟨q, hq, hqm, hqp⟩ := next_neL (m := m) (by omega) hpm (show t < m - 1 by omega)
  have hm6 : (m : Int) - 1 = (m1 : Int) := by omega
  have hm7 : ¬ (m1 : Int) = 0 := by omega
  have hm8 : ¬ m1 = 0 := by omega
  have r1 : IntKind.i64.wrap (m1 : Int) = (m1 : Int) := by rw [IntKind.wrap_i64]; omega
  have r2 : IntKind.i64.wrap ((p : Int) + 1) = (p : Int) + 1 := by rw [IntKind.wrap_i64]; omega
  have r3 : IntKind.i64.wrap ((p : Int) + 1 + (t : Int)) = (p : Int) + 1 + (t : Int) := by rw [IntKind.wrap_i64]; omega
  have HM1 := hid hm1
  clear hm1
  go_wp2_with fail
  go_quiet (fail)
  obtain ⟨V3, hV3⟩ := ex_eq (V2.drewN nq)
  rw [← hV3]
  have hb3 : Below V2.heap.size V2 V3 := by rw [hV3]; exact below_drewN (Below.refl _ _) _
  replace HGg := hid (HGg.out.on hb3)
  replace HB : Hid (Below w.heap.size w V3) := HB.out.trans (hb3.mono HB.out.size)
  obtain ⟨lo, hlo⟩ := ex_eq (min p q)
  obtain ⟨h1, hh1⟩ : ∃ h1 : Nat, max p q = h1 + 1 := ⟨max p q - 1, by omega⟩
  have kmin : min (p : Int) (q : Int) = (lo : Int) := by omega
  have kmax : max (p : Int) (q : Int) = ((h1 + 1 : Nat) : Int) := by omega
  have hlh : lo < h1 + 1 := by omega
  have hhm : h1 + 1 < m := by omega
  have HO2 : Hid (oth2 m p q = oth2 m (h1 + 1) lo) := by
    show _ = _
    by_cases e : p < q
    · rw [oth2_swap, show q = h1 + 1 by omega, show p = lo by omega]
    · rw [show p = h1 + 1 by omega, show q = lo by omega]
  obtain ⟨hh, hhh⟩ := ex_eq (h1 + 1)
  rw [← hhh] at kmax hlh hhm HO2
  have HHH := hid hhh
  clear hV3 hb3 g0 g1 hp hq ht r1 r2 r3 hm6 hm7 hm8 htm hm3 hm4 hm5 hlo hh1 hhh hm2
  obtain ⟨V4, hV4⟩ := ex_eq (V3.alloc (.cells #[] 3))
  have hb4 : Below V3.heap.size V3 V4 := by rw [hV4]; exact below_one _ _
  have HOE : Hid (V4.ownsRow V3.heap.size 3 1 (.slice (some ⟨V3.heap.size, 0, none⟩) 0 0) (oth2 0 p q).length ((oth2 0 p q).map (Value.int .i64))) := by
    show World.ownsRow _ _ _ _ _ _ _
    rw [hV4]
    exact ⟨rfl, Or.inr ⟨V3.heap.size, 0, #[], rfl, Nat.le_refl _, heap_alloc_new _ _, Nat.le_refl _, Nat.zero_le _, rfl, rfl⟩⟩
  have HGB : Hid (∀ X, Below V3.heap.size V3 X → GC X w2.heap.size m a2 K c2 ys ∧ Below w.heap.size w X) := fun X hX => ⟨HGg.out.on hX, HB.out.trans (hX.mono HB.out.size)⟩
  have HV4 := hid hV4
  clear hV4
  go_wp2
  rw [← HV4.out]
  clear HV4
  go_loopg [11, 12] m (fun Gh u i wz => ∃ k : Nat, k ≤ m ∧ m - k ≤ Gh ∧ i = .int .i64 k ∧ Hid (wz.ownsRow V3.heap.size 3 1 u (oth2 k p q).length ((oth2 k p q).map (Value.int .i64))) ∧ Below V3.heap.size V3 wz)
  case atStart => exact ⟨0, Nat.zero_le _, by omega, rfl, HOE, hb4⟩
  case round =>
    obtain ⟨k, hk, hGh, rfl, hown, hb⟩ := hrel
    obtain ⟨hg, hbw⟩ := HGB.out wr hb
    obtain ⟨g0, g1⟩ := hg.cells
    by_cases hlt : k < m
    · have q1 : (k : Int) < (m : Int) := by omega
      have hlen := oth2_lenL k p q
      clear hbw hg
      by_cases he : k = p
      · have HNX : Hid (wr.ownsRow V3.heap.size 3 1 u11 (oth2 (k + 1) p q).length ((oth2 (k + 1) p q).map (Value.int .i64))) := by
          show World.ownsRow _ _ _ _ _ _ _
          rw [oth2_next, if_neg (by omega), List.append_nil]; exact hown.out
        have b1 : ((k : Int) != (p : Int)) = false := by simp [he]
        have b2 : ((k : Int) == (p : Int)) = true := by simp [he]
        have b3 : ((p : Int) == (p : Int)) = true := by simp
        clear hown
        subst he
        go_wp2
        go_roundg (m - (k + 1))
        case measure => omega
        case rel => exact ⟨k + 1, by omega, Nat.le_refl _, by go_num, HNX, hb⟩
      · have b1 : ((k : Int) != (p : Int)) = true := by simp; omega
        have b2 : ((k : Int) == (p : Int)) = false := beq_eq_false_iff_ne.2 (by omega)
        have b3 : ¬ (k : Int) = (p : Int) := by omega
        by_cases he2 : k = q
        · have HNX : Hid (wr.ownsRow V3.heap.size 3 1 u11 (oth2 (k + 1) p q).length ((oth2 (k + 1) p q).map (Value.int .i64))) := by
            show World.ownsRow _ _ _ _ _ _ _
            rw [oth2_next, if_neg (by omega), List.append_nil]; exact hown.out
          have b4 : ((k : Int) != (q : Int)) = false := by simp [he2]
          have b5 : ((k : Int) == (q : Int)) = true := by simp [he2]
          clear hown
          subst he2
          go_wp2
          go_roundg (m - (k + 1))
          case measure => omega
          case rel => exact ⟨k + 1, by omega, Nat.le_refl _, by go_num, HNX, hb⟩
        · have b4 : ((k : Int) != (q : Int)) = true := by simp; omega
          have b5 : ((k : Int) == (q : Int)) = false := beq_eq_false_iff_ne.2 (by omega)
          have b6 : ¬ (k : Int) = (q : Int) := by omega
          obtain ⟨J, hJ⟩ := ex_eq (oth2 k p q).length
          have HJ := hid hJ
          rw [← hJ] at hlen
          have hszr := hb.size
          have HOW : Hid ((wr.alloc (.cells #[.int .i64 k] 3)).ownsRow V3.heap.size 3 1 u11 J ((oth2 k p q).map (Value.int .i64))) := by
            show World.ownsRow _ _ _ _ _ _ _
            rw [hJ]; exact hown.out.alloc _
          have HNW : Hid (∀ p, some (⟨wr.heap.size, 0, none⟩ : Addr) = some p → ∀ j u, [Value.int .i64 (k : Int)][j]? = some u → (wr.alloc (.cells #[.int .i64 k] 3)).cell? (p.add j) = some u) := news_oneO
          have HON : Hid (∀ v ∈ [Value.int .i64 (k : Int)], v.oneCell' = true) := fun v hv => by simp at hv; rw [hv]; rfl
          have H63 : Hid (J + 1 ≤ maxLen) := by show J + 1 ≤ maxLen; unfold maxLen; omega
          have HBS : Hid (V3.heap.size ≤ (wr.alloc (.cells #[.int .i64 k] 3)).heap.size) := by show V3.heap.size ≤ _; simp; omega
          have HKP : Hid (∀ w4, (wr.alloc (.cells #[.int .i64 k] 3)).grownBy w4 u11.ownBlock → Below V3.heap.size V3 w4) := fun w4 hg => Below.grown (hb.alloc hszr _) hg HBS.out (fun j hj => (hown.out.lt j hj).1)
          clear hJ hown
          go_wp2_with (at_builtin; refine wpList_append_any _ rfl _ _ 25 rfl V3.heap.size 3 i0 _ 1 8 Try.underlying25 hi0 hz0 hz1 hz2 rfl (by decide) _ _ _ rfl HOW.out (some ⟨wr.heap.size, 0, none⟩) 1 1 [.int .i64 k] rfl (fun h => by cases h) rfl HNW.out HON.out H63.out ?c4 HBS.out ?_)
          case c4 => omega
          intro v4 w4 hown4 hgrow _
          have hb4 := HKP.out w4 hgrow
          have HNX : Hid (w4.ownsRow V3.heap.size 3 1 v4 (oth2 (k + 1) p q).length ((oth2 (k + 1) p q).map (Value.int .i64))) := by
            show World.ownsRow _ _ _ _ _ _ _
            rw [oth2_next, if_pos ⟨he, he2⟩, List.length_append, List.map_append, ← HJ.out]; exact hown4
          clear hown4 hgrow HKP HBS H63 HON HNW HOW
          go_wp2
          go_roundg (m - (k + 1))
          case measure => omega
          case rel => exact ⟨k + 1, by omega, Nat.le_refl _, by go_num, HNX, hb4⟩
    · obtain rfl : k = m := by omega
      obtain ⟨la, lc, rfl, hsl, hI⟩ := iat_own_sl hown.out
      rw [HO2.out] at hI hsl ⊢
      obtain ⟨T, hT⟩ := ex_eq (oth2 k hh lo).length
      rw [← hT] at hsl ⊢
      have HT := hid hT
      have HGg' := hid hg
      have HB' : Hid (Below w.heap.size w wr) := hbw
      have HIL : Hid (∀ X, Below wr.heap.size wr X → IAt X la (oth2 k hh lo)) := fun X hX => hI.below hX
      have HSLL := hid hsl
      have HBW : Hid (Below wr.heap.size wr wr) := Below.refl _ _
      have CD : Hid (∀ (v : Nat) X, v < k → GC X w2.heap.size k a2 K c2 ys → Calls Try.prog 15 #[.agg #[.int .i64 k, .slice a2 K c2], .int .i64 v] X fun e w' => ∃ u, e = .returned u ∧ SubTold (fun er N E => er = 0 ∧ N = m1 ∧ IndE ys (othL k v) E ∧ RightG m1 E) X w' u) := fun v X hv hX => by
        rw [HK.out]
        exact (HO.out.del k a2 c2 ys v true X (by rw [← HK.out]; omega) (by rw [← HK.out]; rw [HK.out]; exact HSL.out.w) hX.at_ ⟨fun _ => HR.out, fun _ => rfl⟩).mono fun e w' ⟨u, hu, ht⟩ => ⟨u, hu, ht.imp fun er N E h => h.okN HR.out hv HM1.out⟩
      have CE : Hid (∀ (v : Nat) a' c' (E : List (Int × Int)) B X, v < m1 → RightG m1 E → Sl a' c' E.length → GC X B m1 a' E.length c' E → Calls Try.prog 15 #[.agg #[.int .i64 m1, .slice a' E.length c'], .int .i64 v] X fun e w' => ∃ u, e = .returned u ∧ SubTold (fun er N E' => er = 0 ∧ N = ((m1 - 1 : Nat) : Int) ∧ IndE E (othL m1 v) E') X w' u) := fun v a' c' E B X hv hRE hsE hX =>
        (HO.out.del m1 a' c' E v true X (by have := hRE.2.2.1; omega) hsE.w hX.at_ ⟨fun _ => hRE, fun _ => rfl⟩).mono fun e w' ⟨u, hu, ht⟩ => ⟨u, hu, ht.imp fun er N E h => by
          obtain ⟨m2, hm2⟩ : ∃ m2, m1 = m2 + 1 := ⟨m1 - 1, by omega⟩
          obtain ⟨h1, h2, h3, _⟩ := h.okN hRE hv hm2
          exact ⟨h1, by rw [h2, hm2]; rfl, h3⟩⟩
      have CI : Hid (∀ X, Below wr.heap.size wr X → GC X w2.heap.size k a2 K c2 ys → Calls Try.prog 12 #[.agg #[.int .i64 k, .slice a2 K c2], .slice la T lc] X fun e w' => ∃ u, e = .returned u ∧ SubTold (fun er N E => er = 0 ∧ N = ((m1 - 1 : Nat) : Int) ∧ IndE ys (oth2 k hh lo) E) X w' u) := fun X hb hX => by
        rw [HK.out, HT.out]
        exact (HO.out.ind k a2 c2 ys la lc (oth2 k hh lo) true X (by rw [← HK.out]; omega) (by have := oth2_lenL k hh lo; omega) (HSL.out.w) (by rw [← HT.out]; exact HSLL.out.w) hX.at_ (HIL.out X hb) ⟨fun _ => HR.out, fun _ => rfl⟩).mono fun e w' ⟨u, hu, ht⟩ => ⟨u, hu, ht.imp fun er N E h => by
          have hM := HM1.out
          obtain ⟨h1, h2, h3⟩ := ind_okL HR.out hlh hhm h
          exact ⟨h1, by rw [h2]; omega, h3⟩⟩
      have q9 : ((hh : Int) - 1) = (h1 : Int) := by have := HHH.out; omega
      have q8 : IntKind.i64.wrap (h1 : Int) = (h1 : Int) := by have := HHH.out; rw [IntKind.wrap_i64]; omega
      have e9 : h1 < m1 := by have h1' := HHH.out; have h2' := HM1.out; omega
      have e8 : lo < m1 := by have h2' := HM1.out; omega
      have e7 : lo < k := by omega
      clear hown hsl hI hb hg hbw HGB HGg HB hT HSL HSLL HIL
      obtain ⟨x0, x1⟩ := HGg'.out.cells
      go_wp2_with fail
      refine (CD.out hh wr hhm HGg'.out).mono ?_
      rintro e w3 ⟨v, rfl, er3, N3, E3, a3, c3, rfl, hS3, hsl3, hea3, hb3⟩
      obtain ⟨V3, hV3⟩ := ex_eq (w3.alloc (.cells #[.int .i64 N3, .slice a3 E3.length c3] 27))
      have hbV3 : Below wr.heap.size wr V3 := by rw [hV3]; exact hb3.alloc hb3.size _
      have HG3 : Hid (GC V3 w3.heap.size N3 a3 E3.length c3 E3) := by
        show GC _ _ _ _ _ _ _
        rw [hV3]; exact gc_new6 hea3
      replace HGg' := hid (HGg'.out.on hbV3)
      replace HBW : Hid (Below wr.heap.size wr V3) := HBW.out.trans (hbV3.mono HBW.out.size)
      have HSL3 := hid hsl3
      have HV3 := hid hV3
      have hS := hS3
      clear hV3 hbV3 hsl3 hea3 hb3 hS3
      obtain ⟨rfl, rfl, hi3, hr3⟩ := hS
      have HI3 := hid hi3
      have HR3 := hid hr3
      clear hi3 hr3 x0 x1
      obtain ⟨x0, x1⟩ := HG3.out.cells
      go_upto_region 16 with fail
      rw [← HV3.out]
      clear HV3
      go_wp2_with fail
      refine (CE.out lo a3 c3 E3 w3.heap.size V3 e8 HR3.out HSL3.out HG3.out).mono ?_
      rintro e w4 ⟨v, rfl, er4, N4, E4, a4, c4, rfl, hS4, hsl4, hea4, hb4⟩
      obtain ⟨V4, hV4⟩ := ex_eq (w4.alloc (.cells #[.int .i64 N4, .slice a4 E4.length c4] 27))
      have hbV4 : Below V3.heap.size V3 V4 := by rw [hV4]; exact hb4.alloc hb4.size _
      have HG4 : Hid (GC V4 w4.heap.size N4 a4 E4.length c4 E4) := by
        show GC _ _ _ _ _ _ _
        rw [hV4]; exact gc_new6 hea4
      replace HGg' := hid (HGg'.out.on hbV4)
      replace HG3 := hid (HG3.out.on hbV4)
      replace HBW : Hid (Below wr.heap.size wr V4) := HBW.out.trans (hbV4.mono HBW.out.size)
      have HSL4 := hid hsl4
      have HV4 := hid hV4
      have hS := hS4
      clear hV4 hbV4 hsl4 hea4 hb4 hS4
      obtain ⟨rfl, rfl, hi4⟩ := hS
      have HI4 := hid hi4
      clear hi4 x0 x1
      obtain ⟨x0, x1⟩ := HGg'.out.cells
      go_upto_region 17 with fail
      rw [← HV4.out]
      clear HV4
      go_wp2_with fail
      refine (CD.out lo V4 e7 HGg'.out).mono ?_
      rintro e w5 ⟨v, rfl, er5, N5, E5, a5, c5, rfl, hS5, hsl5, hea5, hb5⟩
      obtain ⟨V5, hV5⟩ := ex_eq (w5.alloc (.cells #[.int .i64 N5, .slice a5 E5.length c5] 27))
      have hbV5 : Below V4.heap.size V4 V5 := by rw [hV5]; exact hb5.alloc hb5.size _
      have HG5 : Hid (GC V5 w5.heap.size N5 a5 E5.length c5 E5) := by
        show GC _ _ _ _ _ _ _
        rw [hV5]; exact gc_new6 hea5
      replace HGg' := hid (HGg'.out.on hbV5)
      replace HG4 := hid (HG4.out.on hbV5)
      replace HBW : Hid (Below wr.heap.size wr V5) := HBW.out.trans (hbV5.mono HBW.out.size)
      have HSL5 := hid hsl5
      have HV5 := hid hV5
      have hS := hS5
      clear hV5 hbV5 hsl5 hea5 hb5 hS5
      obtain ⟨rfl, rfl, hi5, hr5⟩ := hS
      have HI5 := hid hi5
      have HR5 := hid hr5
      clear hi5 hr5 x0 x1
      obtain ⟨x0, x1⟩ := HG5.out.cells
      go_upto_region 18 with fail
      rw [← HV5.out]
      clear HV5
      go_wp2_with fail
      refine (CE.out h1 a5 c5 E5 w5.heap.size V5 e9 HR5.out HSL5.out HG5.out).mono ?_
      rintro e w6 ⟨v, rfl, er6, N6, E6, a6, c6, rfl, hS6, hsl6, hea6, hb6⟩
      obtain ⟨V6, hV6⟩ := ex_eq (w6.alloc (.cells #[.int .i64 N6, .slice a6 E6.length c6] 27))
      have hbV6 : Below V5.heap.size V5 V6 := by rw [hV6]; exact hb6.alloc hb6.size _
      have HG6 : Hid (GC V6 w6.heap.size N6 a6 E6.length c6 E6) := by
        show GC _ _ _ _ _ _ _
        rw [hV6]; exact gc_new6 hea6
      replace HGg' := hid (HGg'.out.on hbV6)
      replace HG4 := hid (HG4.out.on hbV6)
      replace HBW : Hid (Below wr.heap.size wr V6) := HBW.out.trans (hbV6.mono HBW.out.size)
      have HSL6 := hid hsl6
      have HV6 := hid hV6
      have hS := hS6
      clear hV6 hbV6 hsl6 hea6 hb6 hS6
      obtain ⟨rfl, rfl, hi6⟩ := hS
      have HI6 := hid hi6
      clear hi6 x0 x1
      obtain ⟨x0, x1⟩ := HGg'.out.cells
      go_upto_region 19 with fail
      rw [← HV6.out]
      clear HV6
      go_wp2_with fail
      refine (CI.out V6 HBW.out HGg'.out).mono ?_
      rintro e w7 ⟨v, rfl, er7, N7, E7, a7, c7, rfl, hS7, hsl7, hea7, hb7⟩
      obtain ⟨V7, hV7⟩ := ex_eq (w7.alloc (.cells #[.int .i64 N7, .slice a7 E7.length c7] 27))
      have hbV7 : Below V6.heap.size V6 V7 := by rw [hV7]; exact hb7.alloc hb7.size _
      have HG7 : Hid (GC V7 w7.heap.size N7 a7 E7.length c7 E7) := by
        show GC _ _ _ _ _ _ _
        rw [hV7]; exact gc_new6 hea7
      replace HG4 := hid (HG4.out.on hbV7)
      replace HG6 := hid (HG6.out.on hbV7)
      replace HBW : Hid (Below wr.heap.size wr V7) := HBW.out.trans (hbV7.mono HBW.out.size)
      have HSL7 := hid hsl7
      have HV7 := hid hV7
      have hS := hS7
      clear hV7 hbV7 hsl7 hea7 hb7 hS7
      obtain ⟨rfl, rfl, hi7⟩ := hS
      have HI7 := hid hi7
      clear hi7 x0 x1
      obtain ⟨x0, x1⟩ := HG4.out.cells
      obtain ⟨y0, y1⟩ := HG7.out.cells
      have E47 : Hid (E4 = E7) := by
        have hh1 := HM1.out
        have h := HI4.out
        rw [show m1 = k - 1 by omega] at h
        exact (leaves_hi hlh hhm HI3.out h).one HI7.out
      have E67 : Hid (E6 = E7) := by
        have hh1 := HM1.out
        have h := HI6.out
        rw [show m1 = k - 1 by omega, show h1 = hh - 1 by have := HHH.out; omega] at h
        exact (leaves_lo hlh hhm HI5.out h).one HI7.out
      have hE7 : E7.length ≤ 1000000 := by
        have h1 := HI7.out.len4 HR.out (oth2_nodupL _ _ _)
        omega
      have CS1 : Hid (∀ X, GC X w4.heap.size ((m1 - 1 : Nat) : Int) a4 E4.length c4 E4 → GC X w7.heap.size ((m1 - 1 : Nat) : Int) a7 E7.length c7 E7 → Calls Try.prog 14 #[.agg #[.int .i64 ((m1 - 1 : Nat) : Int), .slice a4 E4.length c4], .agg #[.int .i64 ((m1 - 1 : Nat) : Int), .slice a7 E7.length c7]] X fun e w' => e = .returned (.bool true) ∧ Below X.heap.size X w') := fun X h3 h4 => sameGraph_any _ _ a4 a7 c4 c7 E4 E7 true X (by rw [E47.out]; exact hE7) h3.at_ h4.at_ ⟨fun _ => ⟨rfl, E47.out⟩, fun _ => rfl⟩
      have CS2 : Hid (∀ X, GC X w6.heap.size ((m1 - 1 : Nat) : Int) a6 E6.length c6 E6 → GC X w7.heap.size ((m1 - 1 : Nat) : Int) a7 E7.length c7 E7 → Calls Try.prog 14 #[.agg #[.int .i64 ((m1 - 1 : Nat) : Int), .slice a6 E6.length c6], .agg #[.int .i64 ((m1 - 1 : Nat) : Int), .slice a7 E7.length c7]] X fun e w' => e = .returned (.bool true) ∧ Below X.heap.size X w') := fun X h3 h4 => sameGraph_any _ _ a6 a7 c6 c7 E6 E7 true X (by rw [E67.out]; exact hE7) h3.at_ h4.at_ ⟨fun _ => ⟨rfl, E67.out⟩, fun _ => rfl⟩
      clear hE7 HI3 HI4 HI5 HI6 HI7 E47 E67 HGg' CD CE CI HR3 HR5
      go_upto_region 20 with fail
      rw [← HV7.out]
      clear HV7
      go_wp2_with fail
      refine (CS1.out V7 HG4.out HG7.out).mono ?_
      rintro e w8 ⟨rfl, hb8⟩
      replace HG6 := hid (HG6.out.on hb8)
      replace HG7 := hid (HG7.out.on hb8)
      have HB8 : Hid (Below wr.heap.size wr w8) := HBW.out.trans (hb8.mono HBW.out.size)
      clear hb8 CS1 x0 x1 y0 y1 HG4 HBW
      obtain ⟨x0, x1⟩ := HG6.out.cells
      obtain ⟨y0, y1⟩ := HG7.out.cells
      go_wp2_with fail
      refine (CS2.out w8 HG6.out HG7.out).mono ?_
      rintro e w9 ⟨rfl, hb9⟩
      have HB9 : Hid (Below w.heap.size w w9) := HB'.out.trans ((HB8.out.trans (hb9.mono HB8.out.size)).mono HB'.out.size)
      clear hb9 CS2 x0 x1 y0 y1
      go_wp2
      go_ret
      exact ⟨rfl, HB9.out⟩
end Go.Proofs.Ytagigeieoijciaa
