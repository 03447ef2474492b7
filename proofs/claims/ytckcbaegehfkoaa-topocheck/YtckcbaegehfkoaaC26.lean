/-
  The program's Model keeps its contract (I3): the walk.
-/
import Derived.Test.YtckcbaegehfkoaaC25
namespace Go.Proofs.Ytckcbaegehfkoaa
open Go.RowKit Go.Lib

theorem own_oneY (w : World) (x : Int) : (w.alloc (.cells #[.int .i64 x] 3 (0, 0))).ownsRow w.heap.size 3 1 (.slice (some ⟨w.heap.size, 0, none⟩) 1 1) 1 [.int .i64 x] :=
  ⟨rfl, Or.inr ⟨w.heap.size, 1, #[.int .i64 x], rfl, Nat.le_refl _, heap_alloc_new _ _, Nat.le_refl _, by unfold maxLen; omega, rfl, rfl⟩⟩
theorem innL_at {p : List Int} {j : Nat} (h : j < (innL p).length) (h2 : j + 1 < p.length) : (innL p)[j] = p[j + 1] := by
  simp only [innL, List.getElem_dropLast, List.getElem_drop]
  congr 1; omega
/-- What Model tells. -/
def ModTold9 (kd : Int) (tops : List Int) (paths : List (List Int)) (w w' : World) (v : Value) : Prop := ∃ k S a c, v = .agg #[.int .i64 k, .slice a S.length c] ∧ ((Formed kd tops.length paths ∧ k = kd ∧ S = subSets kd tops paths) ∨ (¬ Formed kd tops.length paths ∧ k = 0 ∧ S = [])) ∧ LLAt w' a S ∧ Below w.heap.size w w'
set_option maxHeartbeats 8000000 in
set_option maxRecDepth 100000 in
theorem tmodel_any (kd : Int) (ta : Option Addr) (tc : Nat) (tops : List Int) (pa : Option Addr) (pc : Nat) (paths : List (List Int)) (w : World) (hIT : IAt w ta tops) (hP : paths.length ≤ 1000) (hPl : ∀ L ∈ paths, L.length ≤ 1000000) (hL : LLS w pa paths) :
    Calls Try.prog 19 #[.agg #[.int .i64 kd, .slice ta tops.length tc, .slice pa paths.length pc]] w fun e w' => ∃ v, e = .returned v ∧ ModTold9 kd tops paths w w' v := by
  obtain ⟨nt, hnt⟩ := ex_eq tops.length
  obtain ⟨M, hM⟩ := ex_eq paths.length
  obtain ⟨W, hW, hsW, hO0, hO1, hbW⟩ := new_two w (.cells #[.int .i64 kd, .slice ta nt tc, .slice pa M pc] 32) (.cells #[.int .i64 0, .slice none 0 0] 44)
  obtain ⟨b0, hb0⟩ := ex_eq w.heap.size
  rw [← hb0] at hsW hO0 hO1 hbW
  have HGC : Hid (∀ X, Below W.heap.size W X → (X.cell? ⟨b0, 0, none⟩ = some (.int .i64 kd) ∧ X.cell? ⟨b0, 1, none⟩ = some (.slice ta nt tc) ∧ X.cell? ⟨b0, 2, none⟩ = some (.slice pa M pc)) ∧ X.heap[b0 + 1]? = some (.cells #[.int .i64 0, .slice none 0 0] 44 (0, 0)) ∧ IAt X ta tops ∧ LLS X pa paths ∧ Below b0 w X) := fun X hX => by
    have o := (hX.block _ (by omega)).trans hO0
    have o1 := (hX.block (b0 + 1) (by omega)).trans hO1
    have hbx : Below b0 w X := hbW.trans (hX.mono (by omega))
    have hbx' : Below w.heap.size w X := by rw [← hb0]; exact hbx
    exact ⟨⟨cell_of_heap o 0, cell_of_heap o 1, cell_of_heap o 2⟩, o1, hIT.below hbx', hL.below hbx', hbx⟩
  obtain ⟨rf, hrf⟩ := boolR_of (Formed kd nt paths)
  have CF := hid (formed_any kd ta nt tc pa pc paths rf W (by omega) (lls_llat (HGC.out W (Below.refl _ _)).2.2.2.1) hrf)
  have HB0 := hid hb0
  have HW := hid hW
  have HM := hid hM
  have HNT := hid hnt
  have HPL := hid hPl
  have hszW : b0 + 2 ≤ W.heap.size := by omega
  rw [← hM] at CF ⊢
  have HRF := hid hrf
  rw [hnt] at HRF
  rw [← hnt]
  clear hIT hPl hL hnt hM hW hsW hO0 hO1 hbW hrf hb0
  obtain ⟨⟨y0, y1, y2⟩, z, _⟩ := HGC.out W (Below.refl _ _)
  clear z
  go_enter Try.func19, Try.ntmps19
  go_upto_region 1 with fail
  rw [← HW.out, ← HB0.out]
  clear HW
  go_wp2_with fail
  refine CF.out.mono ?_
  rintro e w1 ⟨rfl, hb1⟩
  obtain ⟨⟨y0, y1, y2⟩, z, _, _, hbw1⟩ := HGC.out w1 hb1
  cases rf with
  | false =>
    have HN : Hid (¬ Formed kd tops.length paths) := fun h => by have := HRF.out.2 h; cases this
    have HFIN : Hid (ModTold9 kd tops paths w ((w1.setCell ⟨b0 + 1, 0, none⟩ (.int .i64 0)).setCell ⟨b0 + 1, 1, none⟩ (.slice none 0 0)) (.agg #[.int .i64 0, .slice none 0 0])) := by
      refine ⟨0, [], none, 0, rfl, Or.inr ⟨HN.out, rfl, rfl⟩, llat_nil _ _, ?_⟩
      rw [← HB0.out]
      exact (hbw1.setCell (p := ⟨b0 + 1, 0, none⟩) (Nat.le_succ _) _).setCell (p := ⟨b0 + 1, 1, none⟩) (Nat.le_succ _) _
    have z0 := cell_of_heap z 0
    have z1 := cell_of_heap z 1
    have zf0 := frozen_of_heap z 0
    have zf1 := frozen_of_heap z 1
    clear CF hb1 z hbw1 HN
    go_wp2
    refine bodyPost_ret (v := .agg #[.int .i64 0, .slice none 0 0]) ?_ rfl ⟨_, rfl, HFIN.out⟩
    rw [results_cell1 rfl]
    go_simp
  | true =>
  have hFm := HRF.out.1 rfl
  obtain ⟨hk, hT1, hP1, h2⟩ := hFm
  obtain ⟨O, hO⟩ := ex_eq w1.heap.size
  obtain ⟨W2, hW2⟩ := ex_eq (w1.alloc (.cells #[.int .i64 kd, .slice none 0 0] 44))
  have oM := heap_alloc_new w1 (.cells #[.int .i64 kd, .slice none 0 0] 44)
  rw [← hW2, ← hO] at oM
  have hb12 : Below w1.heap.size w1 W2 := by rw [hW2]; exact below_one _ _
  have hX2 : Below W.heap.size W W2 := hb1.trans (hb12.mono hb1.size)
  have hs2 : W2.heap.size = O + 1 := by rw [hW2, hO]; simp
  have hWO : W.heap.size ≤ O := by rw [hO]; exact hb1.size
  have HSC : Hid (∀ X, Below O W2 X → (X.cell? ⟨b0, 0, none⟩ = some (.int .i64 kd) ∧ X.cell? ⟨b0, 1, none⟩ = some (.slice ta nt tc) ∧ X.cell? ⟨b0, 2, none⟩ = some (.slice pa M pc)) ∧ X.heap[b0 + 1]? = some (.cells #[.int .i64 0, .slice none 0 0] 44 (0, 0)) ∧ IAt X ta tops ∧ LLS X pa paths ∧ Below b0 w X) := fun X hX => by
    have h1 : Below W.heap.size W W2 := hX2
    obtain ⟨⟨u0, u1, u2⟩, o1, _, _, hbx⟩ := HGC.out W2 hX2
    obtain ⟨_, _, hIw, hLw, _⟩ := HGC.out w1 hb1
    have h12X : Below w1.heap.size w1 X := hb12.trans (hX.mono (by omega))
    refine ⟨⟨(hX.cell (p := ⟨b0, 0, none⟩) (by simp only; omega)).trans u0, (hX.cell (p := ⟨b0, 1, none⟩) (by simp only; omega)).trans u1, (hX.cell (p := ⟨b0, 2, none⟩) (by simp only; omega)).trans u2⟩, (hX.block (b0 + 1) (by omega)).trans o1, hIw.below h12X, hLw.below h12X, hbx.trans (hX.mono (by omega))⟩
  have HST : Hid (∃ us, MoSt W2 W2 O kd (.slice none 0 0) us ((tops.take 0).map (fun t => [t]))) := ⟨[], cell_of_heap oM 0, cell_of_heap oM 1, frozen_of_heap oM 1, ⟨⟨rfl, Or.inl ⟨rfl, rfl⟩⟩, rfl, fun k hk => absurd hk (by simp)⟩, Below.refl _ _, by omega⟩
  have HFM := hid (HRF.out.1 rfl)
  have HK := hid hk
  have HT1 := hid hT1
  have HP1 := hid hP1
  have H2 := hid h2
  have HW2 := hid hW2
  have HOE := hid hO
  have hnt4 : nt ≤ 4 := by rw [HNT.out, hT1]; split <;> omega
  have hM6 : M ≤ 6 := by rw [HM.out, hP1]; split <;> omega
  obtain ⟨i0, hi0, hz0, hz1, hz2⟩ := info_parts Try.info3
  obtain ⟨i1, hj, hy0, hy1, hy2⟩ := info_parts Try.info25
  have hbb : b0 + 2 ≤ O := by omega
  clear CF HRF hk hT1 hP1 h2 hb1 hb12 hX2 hW2 hO oM z hbw1 hWO
  go_upto_region 4 with fail
  rw [← HW2.out, ← HOE.out]
  clear HW2 y0 y1 y2
  obtain ⟨⟨y0, y1, y2⟩, _, _⟩ := HSC.out W2 (Below.refl _ _)
  go_wp2
  clear y0 y1 y2
  go_loopg [22] 4 (fun Gh i wz => ∃ t : Nat, t ≤ nt ∧ nt - t ≤ Gh ∧ i = .int .i64 t ∧ Hid (∃ v us, MoSt W2 wz O kd v us ((tops.take t).map (fun t => [t]))))
  case atStart => exact ⟨0, Nat.zero_le _, by omega, rfl, ⟨_, HST.out⟩⟩
  case round =>
    clear HST
    obtain ⟨t, ht, hG, rfl, hst⟩ := hrel
    obtain ⟨v, us, hSt⟩ := hst.out
    obtain ⟨⟨y0, y1, y2⟩, _, hIT, _, _⟩ := HSC.out wr hSt.bel
    by_cases hlt : t < nt
    · have htr : t < tops.length := by rw [← HNT.out]; exact hlt
      obtain ⟨gt, ot, rfl, _, hct⟩ := hIT (by omega)
      have d0 := hct t htr
      obtain ⟨x, hx⟩ := ex_eq tops[t]
      rw [← hx] at d0
      have HNX : Hid ((tops.take (t + 1)).map (fun t => [t]) = (tops.take t).map (fun t => [t]) ++ [[x]]) := by
        show _ = _
        rw [← List.take_append_getElem htr, List.map_append, hx]; rfl
      obtain ⟨LL, hLL⟩ := ex_eq ((tops.take t).map (fun t => [t]))
      have hLl : LL.length = t := by rw [hLL, List.length_map, List.length_take]; omega
      rw [← hLL] at hSt HNX
      have c1 := hSt.c1
      have hown := hSt.rw.own
      rw [hLl] at hown
      have hS := hid hSt
      have HLL := hid hLl
      have hszr := hSt.sz
      have q1 : (t : Int) < (nt : Int) := by omega
      clear hSt hst hLL hLl hct hx htr hIT
      have HNW : Hid (∀ j u, [Value.slice (some ⟨wr.heap.size, 0, none⟩) 1 1][j]? = some u → ((wr.alloc (.cells #[.int .i64 x] 3)).alloc (.cells #[.slice (some ⟨wr.heap.size, 0, none⟩) 1 1] 25)).cell? ((⟨wr.heap.size + 1, 0, none⟩ : Addr).add j) = some u) := by
        have h := cells_one (heap_alloc_new (wr.alloc (.cells #[.int .i64 x] 3)) (.cells #[.slice (some ⟨wr.heap.size, 0, none⟩) 1 1] 25))
        rw [World.size_alloc] at h
        exact h
      go_wp2_with (at_builtin; refine wpList_append_any _ rfl _ _ 26 rfl (O + 1) 25 i1 _ 1 24 Try.underlying26 hj hy0 hy1 hy2 rfl (by decide) _ _ _ rfl ((hown.alloc _).alloc _) (some ⟨wr.heap.size + 1, 0, none⟩) 1 1 [.slice (some ⟨wr.heap.size, 0, none⟩) 1 1] rfl (fun h => by cases h) rfl (fun pp hpp => by cases hpp; exact HNW.out) (fun x hx => by simp at hx; rw [hx]; rfl) (by unfold maxLen; omega) (by omega) (by simp; omega) ?_)
      intro v4 w4 hown4 hgrow hat
      obtain ⟨va, vc, rfl, _⟩ := sl_own hown4
      have hb2 : Below wr.heap.size wr ((wr.alloc (.cells #[.int .i64 x] 3)).alloc (.cells #[.slice (some ⟨wr.heap.size, 0, none⟩) 1 1] 25)) := (below_one wr _).alloc (by simp) _
      obtain ⟨⟨e1, ef⟩, hSt4⟩ := hS.out.push hb2 (L := [x]) (ar := some ⟨wr.heap.size, 0, none⟩) (cr := 1) ((own_oneY wr x).alloc _) (by rw [HLL.out]; exact hown4) hgrow (hat.imp id (fun h => by rw [h]; simp))
      rw [← HNX.out] at hSt4
      have HN4 : Hid (∃ v us, MoSt W2 (w4.setCell ⟨O, 1, none⟩ (.slice va (t + 1) vc)) O kd v us ((tops.take (t + 1)).map (fun t => [t]))) := ⟨_, _, hSt4⟩
      clear hown4 hgrow hat hb2 hSt4 hown c1 HNW HNX HLL hS d0
      go_wp2
      go_roundg (nt - (t + 1))
      case measure => omega
      case rel => exact ⟨t + 1, by omega, Nat.le_refl _, by go_num, HN4⟩
    · obtain rfl : t = nt := by omega
      have htk : tops.take t = tops := by rw [HNT.out, List.take_length]
      rw [htk] at hSt
      have HST2 : Hid (∃ v us, MoSt W2 wr O kd v us (modT kd tops paths 0)) := by rw [modT_zero]; exact ⟨v, us, hSt⟩
      have CP := hid (tpat_new kd wr)
      obtain ⟨K, hK⟩ := ex_eq (prL kd).length
      obtain ⟨T, hT⟩ := ex_eq (topN kd)
      rw [← hK, ← hT] at CP
      have HKK := hid hK
      have hKM : K = M := by rw [hK, prL_len HK.out, HM.out, HP1.out]
      subst hKM
      have HBELR := hid hSt.bel
      have hszr := hSt.sz
      clear hst hSt htk hK hT hIT
      go_wp2_with fail
      refine CP.out.mono ?_
      rintro e w3 ⟨a3, c3, rfl, hE3, hge3, hb3⟩
      obtain ⟨g3, o3, ha3, hg3, _⟩ := hE3 (by rw [← HKK.out, HM.out, HP1.out]; split <;> omega)
      subst ha3
      have hge := hge3 g3 o3 rfl
      have HE3 := hid hE3
      have HG3 := hid hg3
      have HB3 := hid hb3
      have HST3 : Hid (∃ v us, MoSt W2 w3 O kd v us (modT kd tops paths 0) ∧ NoBl g3 v us) := by
        obtain ⟨v, us, h⟩ := HST2.out
        exact ⟨v, us, h.below hb3, NoBl.start h.rw hge⟩
      have HG3O : Hid (O + 1 ≤ g3) := Nat.le_trans hszr hge
      clear CP HST2 hb3 hE3 y0 y1 y2 hge3 hge hg3
      go_wp2
      go_loopg [42] 6 (fun Gh i wz => ∃ s : Nat, s ≤ K ∧ K - s ≤ Gh ∧ i = .int .i64 s ∧ Hid (∃ v us, MoSt W2 wz O kd v us (modT kd tops paths s) ∧ NoBl g3 v us) ∧ Hid (EAt wz (some ⟨g3, o3, none⟩) (prL kd)) ∧ Hid (g3 < wz.heap.size))
      case atStart => exact ⟨0, Nat.zero_le _, by omega, rfl, HST3.out, HE3.out, HG3.out⟩
      case round =>
        clear HST3 HE3 HG3
        obtain ⟨s, hs, hG2, rfl, hst, hE3, hg3⟩ := hrel
        obtain ⟨v, us, hSt, hNB⟩ := hst.out
        obtain ⟨⟨y0, y1, y2⟩, z, _, hLx, hbf⟩ := HSC.out wr hSt.bel
        by_cases hlts : s < K
        · skip
          have htr : s < paths.length := by rw [← HM.out]; exact hlts
          have htp : s < (prL kd).length := by rw [← HKK.out]; exact hlts
          have hpr := prL_at HK.out htp
          obtain ⟨hU, _, _⟩ := fromL_lt HK.out (k := s) (by rw [← HP1.out]; exact htr)
          obtain ⟨U, hUe⟩ := ex_eq (fromL kd s).1
          obtain ⟨Vv, hVe⟩ := ex_eq (fromL kd s).2
          rw [← hUe] at hU
          rw [← hUe, ← hVe] at hpr
          obtain ⟨g3', o3', ha3, _, hc3⟩ := hE3.out (by omega)
          cases ha3
          obtain ⟨d0, d1⟩ := hc3 s htp
          rw [hpr] at d0 d1
          obtain ⟨W1, hW1⟩ := ex_eq (wr.alloc (.cells #[.int .i64 U, .int .i64 Vv] 66))
          have hb1 : Below wr.heap.size wr W1 := by rw [hW1]; exact below_one _ _
          have oP := heap_alloc_new wr (.cells #[.int .i64 U, .int .i64 Vv] 66)
          rw [← hW1] at oP
          have hSt1 := hSt.below hb1
          have bP := cell_of_heap oP 0
          obtain ⟨P, hPe⟩ := ex_eq wr.heap.size
          rw [← hPe] at bP
          have hE1 := hE3.out.below hb1
          have hg1 : g3 < W1.heap.size := Nat.lt_of_lt_of_le hg3.out hb1.size
          have HW1 := hid hW1
          have HPEN := hid hPe
          have hs6 : s ≤ 6 := by omega
          clear hst hSt hE3 hg3 hc3 hpr hVe hb1 oP hW1 hPe htp hLx z hbf
          rcases HK.out with hk1 | hk2
          · subst hk1
            obtain ⟨H, hHe⟩ : ∃ H, H = U := ⟨_, rfl⟩
            subst hHe
            obtain ⟨X, hXe⟩ : ∃ X, X = W1 := ⟨_, rfl⟩
            subst hXe
            obtain ⟨LL, hLL⟩ := ex_eq (modT 1 tops paths s)
            have hH : H < LL.length := by rw [hLL, modT_len 1 tops paths s (by omega), if_pos rfl, HT1.out]; exact hU
            have HROWB : LL[H].length ≤ 6000001 := by
              subst hLL
              exact modT_row hs6 HPL.out hH
            have HNXT : Hid (LL.set H (LL[H] ++ innL paths[s]) = modT 1 tops paths (s + 1)) := by
              show _ = _
              subst hLL
              subst hUe
              exact (modT_one htr hH).symm
            rw [← hLL] at hSt1
            have hX := hSt1
            clear hSt1 hLL hUe
            obtain ⟨av, cv, hv, _⟩ := sl_own hX.rw.own
            subst hv
            obtain ⟨gh, cap', hv', hghB, hghl, _, hcs⟩ := own_row hX.rw.own (by omega)
            simp only [Value.slice.injEq, true_and] at hv'
            obtain ⟨rfl, rfl⟩ := hv'
            obtain ⟨ai, ci, hu, hro, hap⟩ := hX.rw.rows H hH
            have m1 := hcs H _ hu
            have c1 := hX.c1
            obtain ⟨⟨y0, y1, y2⟩, _, _, hLX, hbX⟩ := HSC.out X hX.bel
            obtain ⟨gp, op, ak, ck, rfl, cR, hIR, hsw⟩ := hLX.at htr
            obtain ⟨L, hLe⟩ := ex_eq paths[s]
            rw [← hLe] at cR hIR hsw HNXT
            obtain ⟨J, hJ⟩ := ex_eq L.length
            have hJ2 : 2 ≤ J := by rw [hJ, hLe]; exact H2.out _ (List.getElem_mem htr)
            have hJm : J ≤ 1000000 := by rw [hJ, hLe]; exact HPL.out _ (List.getElem_mem htr)
            obtain ⟨gr, or_, rfl, hgr, hcr⟩ := hIR (by omega)
            rw [← hJ] at cR hsw
            obtain ⟨NL, hNL⟩ := ex_eq LL.length
            obtain ⟨n0, hn0⟩ := ex_eq LL[H].length
            have hn0b : n0 ≤ 6000001 := by rw [hn0]; exact HROWB
            rw [← hNL] at c1
            rw [← hn0] at m1
            have hil : (innL L).length = J - 2 := by unfold innL; rw [List.length_dropLast, List.length_drop]; omega
            have HNEW : Hid (∀ Z, Below X.heap.size X Z → ∀ j u, ((innL L).map (Value.int .i64))[j]? = some u → Z.cell? ((⟨gr, or_ + 1, none⟩ : Addr).add j) = some u) := fun Z hZ j u hu' => by
              rw [List.getElem?_map] at hu'
              have hjl : j < (innL L).length := by
                by_cases hh : j < (innL L).length
                · exact hh
                · rw [List.getElem?_eq_none (by omega)] at hu'; cases hu'
              rw [List.getElem?_eq_getElem hjl] at hu'
              cases hu'
              rw [add_at]
              have hc := hcr (j + 1) (by omega)
              have e : (innL L)[j] = L[j + 1]'(by omega) := innL_at hjl (by omega)
              rw [e, show or_ + 1 + j = or_ + (j + 1) by omega]
              exact (hZ.cell (p := ⟨gr, or_ + (j + 1), none⟩) hgr).trans hc
            have HROW : Hid (X.drew.ownsRow (O + 1) 3 1 (.slice ai n0 ci) n0 (LL[H].map (Value.int .i64))) := by
              have := own_below hro (Below.refl X.heap.size X).drew
              rw [← hn0] at this
              exact this
            have HON : Hid (∀ v ∈ (innL L).map (Value.int .i64), v.oneCell' = true) := fun v hv => by obtain ⟨z, _, rfl⟩ := List.mem_map.1 hv; rfl
            have HLN : Hid (((innL L).map (Value.int .i64)).length = (J - 2) * 1) := by show _ = _; rw [List.length_map, hil, Nat.mul_one]
            have H63 : Hid (n0 + (J - 2) ≤ maxLen) := by show _ ≤ maxLen; unfold maxLen; omega
            have HBY : Hid ((n0 + (J - 2)) * 8 ≤ 140737488355328) := by show _ ≤ _; omega
            have hsX := hX.sz
            have HBS : Hid (O + 1 ≤ X.drew.heap.size) := hsX
            have HPUT : Hid (∀ v4 w4, w4.ownsRow (O + 1) 3 1 v4 (n0 + (J - 2)) (LL[H].map (Value.int .i64) ++ (innL L).map (Value.int .i64)) → X.drew.grownBy w4 (Value.slice ai n0 ci).ownBlock → (v4.ownBlock = (Value.slice ai n0 ci).ownBlock ∨ v4.ownBlock = some X.drew.heap.size) →
                (w4.cell? ⟨O, 1, none⟩ = some (.slice (some ⟨gh, 0, none⟩) NL cv) ∧ w4.cell? ⟨gh, H, none⟩ = some (.slice ai n0 ci) ∧ w4.frozen? ⟨gh, H, none⟩ = false) ∧ (∃ v us, MoSt W2 (w4.setCell ⟨gh, H, none⟩ v4) O 1 v us (modT 1 tops paths (s + 1)) ∧ NoBl g3 v us) ∧ EAt (w4.setCell ⟨gh, H, none⟩ v4) (some ⟨g3, o3, none⟩) (prL 1) ∧ g3 < (w4.setCell ⟨gh, H, none⟩ v4).heap.size) := fun v4 w4 h1 h2 h3 => by
              obtain ⟨a4, c4, rfl, _⟩ := sl_own h1
              have hXd := hX.below (Below.refl X.heap.size X).drew
              rw [← List.map_append] at h1
              have e3 : n0 + (J - 2) = (LL[H] ++ innL L).length := by rw [List.length_append, hil, hn0]
              rw [e3] at h1 h3
              rw [hn0] at h2 h3
              obtain ⟨⟨k1, k2, k3⟩, k4⟩ := hXd.turn hH hu h1 h2 h3
              rw [HNXT.out] at k4
              rw [← e3] at k4
              have hkw : KeptBut (fun k => some k = (Value.slice ai LL[H].length ci).ownBlock) X w4 := (KeptBut.of_whole _ (Below.refl X.heap.size X).drew).trans (KeptBut.of_grown h2)
              have hui : (Value.slice ai LL[H].length ci).ownBlock ≠ some g3 := hNB.2 _ (List.mem_of_getElem? hu)
              have hgg : gh ≠ g3 := fun e => hNB.1 (by rw [e]; rfl)
              have hws := hkw.size
              refine ⟨⟨by rw [hNL]; exact k1, by rw [hn0]; exact k2, k3⟩, ⟨_, _, k4, hNB.set ?_⟩, (hE1.keptY hkw (fun e => hui e.symm)).keptY (kept_set w4 ⟨gh, H, none⟩ _) (fun e => hgg e.symm), by simp; omega⟩
              rw [e3]
              rcases h3 with h3 | h3
              · rw [h3]; exact hui
              · rw [h3]
                intro e
                simp only [Option.some.injEq] at e
                have : X.drew.heap.size = X.heap.size := rfl
                omega
            have hS : (fun Z : World => Z.cell? ⟨O, 1, none⟩ = some (.slice (some ⟨gh, 0, none⟩) NL cv)) X.drew := c1
            have m1' : X.drew.cell? ⟨gh, H, none⟩ = some (.slice ai n0 ci) := m1
            have hgO : ¬ gh = O := by omega
            obtain ⟨l1, hl1⟩ : ∃ l1, l1 = J - 1 := ⟨_, rfl⟩
            obtain ⟨m2, hm2⟩ : ∃ m2, m2 = J - 2 := ⟨_, rfl⟩
            rw [← hm2] at HLN H63 HBY HPUT
            have i1 : (J : Int) - 1 = (l1 : Int) := by omega
            have i2 : IntKind.i64.wrap (l1 : Int) = (l1 : Int) := by rw [IntKind.wrap_i64]; omega
            have i3 : (1 : Int) ≤ (l1 : Int) := by omega
            have i4 : (l1 : Int) ≤ (ck : Int) := by have := hsw.1; omega
            have i5 : ¬ ck = 1 := by have := hsw.1; omega
            have i6 : l1 - 1 = m2 := by omega
            have i7 : 1 ≤ l1 := by omega
            have i8 : l1 ≤ ck := by have := hsw.1; omega
            have i9 : (0 : Int) ≤ (l1 : Int) := by omega
            have h1' : (H : Int) < (NL : Int) := by omega
            have h2' : H < NL := by omega
            have h3' : (0 : Int) ≤ (H : Int) := by omega
            have q9 : (s : Int) < (K : Int) := by omega
            clear hX hu hro hap hcs hLX hIR hsw hcr hLe hJ hil hNL hn0 hbX hl1 hm2 hgr hghB hghl hNB hE1 hg1
            go_upto_region 13 with fail
            rw [← HW1.out, ← HPEN.out]
            clear HW1 HPEN
            go_upto_region 18 with fail
            refine wp_region_held_drew (S := (fun Z : World => Z.cell? ⟨O, 1, none⟩ = some (.slice (some ⟨gh, 0, none⟩) NL cv))) (by kernel_rfl) hS (fun hHeld => ?_)
            (refine takeW (i := 0) (dst := some 66) (v := ?_) rfl rfl (by kernel_rfl) (by kernel_rfl) (by kernel_rfl) (fun _ _ _ h => h) (Or.inl ⟨by rfl, ?_⟩) hHeld ?_; rotate_left; focus (intro w hSw; (try dsimp only at hSw); go_simp; (try with_reducible rfl); done))
            try simp only [Act.put, List.setIfInBounds_toArray, List.set_cons_zero, List.set_cons_succ]
            (refine takeW (i := 1) (dst := some 67) (v := ?_) rfl rfl (by kernel_rfl) (by kernel_rfl) (by kernel_rfl) (fun _ _ _ h => h) (Or.inl ⟨by rfl, ?_⟩) hHeld ?_; rotate_left; focus (intro w hSw; (try dsimp only at hSw); go_simp; (try with_reducible rfl); done))
            try simp only [Act.put, List.setIfInBounds_toArray, List.set_cons_zero, List.set_cons_succ]
            (refine takeW (i := 2) (dst := some 68) (v := ?_) rfl rfl (by kernel_rfl) (by kernel_rfl) (by kernel_rfl) (fun _ _ _ h => h) (Or.inl ⟨by rfl, ?_⟩) hHeld ?_; rotate_left; focus (intro w hSw; (try dsimp only at hSw); go_simp; (try with_reducible rfl); done))
            try simp only [Act.put, List.setIfInBounds_toArray, List.set_cons_zero, List.set_cons_succ]
            (refine takeW (i := 3) (dst := some 69) (v := ?_) rfl rfl (by kernel_rfl) (by kernel_rfl) (by kernel_rfl) (fun _ _ _ h => h) (Or.inl ⟨by rfl, ?_⟩) hHeld ?_; rotate_left; focus (intro w hSw; (try dsimp only at hSw); go_simp; (try with_reducible rfl); done))
            try simp only [Act.put, List.setIfInBounds_toArray, List.set_cons_zero, List.set_cons_succ]
            (refine takeW (i := 4) (dst := some 70) (v := ?_) rfl rfl (by kernel_rfl) (by kernel_rfl) (by kernel_rfl) (fun _ _ _ h => h) (Or.inl ⟨by rfl, ?_⟩) hHeld ?_; rotate_left; focus (intro w hSw; (try dsimp only at hSw); go_simp; (try with_reducible rfl); done))
            try simp only [Act.put, List.setIfInBounds_toArray, List.set_cons_zero, List.set_cons_succ]
            (refine takeW (i := 5) (dst := some 71) (v := ?_) rfl rfl (by kernel_rfl) (by kernel_rfl) (by kernel_rfl) (fun _ _ _ h => h) (Or.inl ⟨by rfl, ?_⟩) hHeld ?_; rotate_left; focus (intro w hSw; (try dsimp only at hSw); go_simp; (try with_reducible rfl); done))
            try simp only [Act.put, List.setIfInBounds_toArray, List.set_cons_zero, List.set_cons_succ]
            (refine takeW (i := 6) (dst := some 72) (v := ?_) rfl rfl (by kernel_rfl) (by kernel_rfl) (by kernel_rfl) (fun _ _ _ h => h) (Or.inl ⟨by rfl, ?_⟩) hHeld ?_; rotate_left; focus (intro w hSw; (try dsimp only at hSw); go_simp; (try with_reducible rfl); done))
            try simp only [Act.put, List.setIfInBounds_toArray, List.set_cons_zero, List.set_cons_succ]
            (refine takeW (i := 8) (dst := some 74) (v := ?_) rfl rfl (by kernel_rfl) (by kernel_rfl) (by kernel_rfl) (fun _ _ _ h => h) (Or.inl ⟨by rfl, ?_⟩) hHeld ?_; rotate_left; focus (intro w hSw; (try dsimp only at hSw); go_simp; (try with_reducible rfl); done))
            try simp only [Act.put, List.setIfInBounds_toArray, List.set_cons_zero, List.set_cons_succ]
            (refine takeW (i := 9) (dst := some 75) (v := ?_) rfl rfl (by kernel_rfl) (by kernel_rfl) (by kernel_rfl) (fun _ _ _ h => h) (Or.inl ⟨by rfl, ?_⟩) hHeld ?_; rotate_left; focus (intro w hSw; (try dsimp only at hSw); go_simp; (try with_reducible rfl); done))
            try simp only [Act.put, List.setIfInBounds_toArray, List.set_cons_zero, List.set_cons_succ]
            (refine takeW (i := 10) (dst := some 76) (v := ?_) rfl rfl (by kernel_rfl) (by kernel_rfl) (by kernel_rfl) (fun _ _ _ h => h) (Or.inl ⟨by rfl, ?_⟩) hHeld ?_; rotate_left; focus (intro w hSw; (try dsimp only at hSw); go_simp; (try with_reducible rfl); done))
            try simp only [Act.put, List.setIfInBounds_toArray, List.set_cons_zero, List.set_cons_succ]
            (refine takeW (i := 11) (dst := some 77) (v := ?_) rfl rfl (by kernel_rfl) (by kernel_rfl) (by kernel_rfl) (fun _ _ _ h => h) (Or.inl ⟨by rfl, ?_⟩) hHeld ?_; rotate_left; focus (intro w hSw; (try dsimp only at hSw); go_simp; (try with_reducible rfl); done))
            try simp only [Act.put, List.setIfInBounds_toArray, List.set_cons_zero, List.set_cons_succ]
            (refine takeW (i := 12) (dst := some 78) (v := ?_) rfl rfl (by kernel_rfl) (by kernel_rfl) (by kernel_rfl) (fun _ _ _ h => h) (Or.inl ⟨by rfl, ?_⟩) hHeld ?_; rotate_left; focus (intro w hSw; (try dsimp only at hSw); go_simp; (try with_reducible rfl); done))
            try simp only [Act.put, List.setIfInBounds_toArray, List.set_cons_zero, List.set_cons_succ]
            refine wpAnyH_ready (rs := [7]) (by kernel_rfl) (by simp) ?_
            refine AllReadyH.cons (o := _) rfl (fun KK hK => ?_) AllReadyH.nil
            go_simp
            refine hK.out _ _ hS (fun hHeld => ?_)
            clear hK KK
            try simp only [Act.put]
            try simp only [List.setIfInBounds_toArray]
            try simp only [List.set_cons_succ]
            try simp only [List.set_cons_zero]
            refine wpAnyH_ready (rs := [13]) (by kernel_rfl) (by simp) ?_
            refine AllReadyH.cons (o := _) rfl (fun KK hK => ?_) AllReadyH.nil
            rw [if_pos (by rfl)]
            refine wp_append_any _ (.tmp 73) (.tmp 78) 25 rfl (O + 1) 3 i0 _ 1 8 Try.underlying25 hi0 hz0 hz1 hz2 rfl (by decide) (.slice ai n0 ci) n0 (LL[H].map (Value.int .i64)) (by simp [Act.eval]) HROW.out (some ⟨gr, or_ + 1, none⟩) m2 (ck - 1) ((innL L).map (Value.int .i64)) (by simp [Act.eval]) (fun h => by cases h) HLN.out (fun p hp => by cases hp; exact HNEW.out _ (Below.refl X.heap.size X).drew) HON.out H63.out HBY.out HBS.out ?_
            intro v4' w5 hown4 hgrow4 hat4
            obtain ⟨va5, vc5, hve5, _⟩ := sl_own hown4
            subst hve5
            have HOUT := hid (HPUT.out (.slice va5 (n0 + m2) vc5) w5 hown4 hgrow4 hat4).2
            obtain ⟨⟨k1, k2, k3⟩, _⟩ := HPUT.out (.slice va5 (n0 + m2) vc5) w5 hown4 hgrow4 hat4
            have hS4 : (fun Z : World => Z.cell? ⟨O, 1, none⟩ = some (.slice (some ⟨gh, 0, none⟩) NL cv)) w5 := k1
            clear hown4 hgrow4 hat4
            refine hK.out _ _ hS4 (fun hHeld => ?_)
            clear hK KK
            try simp only [Act.put]
            try simp only [List.setIfInBounds_toArray]
            try simp only [List.set_cons_succ]
            try simp only [List.set_cons_zero]
            (refine takeW (i := 14) (dst := some 80) (v := ?_) rfl rfl (by kernel_rfl) (by kernel_rfl) (by kernel_rfl) (fun _ _ _ h => h) (Or.inl ⟨by rfl, ?_⟩) hHeld ?_; rotate_left; focus (intro w hSw; (try dsimp only at hSw); go_simp; (try with_reducible rfl); done))
            try simp only [Act.put]
            try simp only [List.setIfInBounds_toArray]
            try simp only [List.set_cons_succ]
            try simp only [List.set_cons_zero]
            refine wpAnyH_ready (rs := [15]) (by kernel_rfl) (by simp) ?_
            refine AllReadyH.cons (o := _) rfl (fun KK hK => ?_) AllReadyH.nil
            go_simp
            have hS5 : (fun Z : World => Z.cell? ⟨O, 1, none⟩ = some (.slice (some ⟨gh, 0, none⟩) NL cv)) (w5.setCell ⟨gh, H, none⟩ (.slice va5 (n0 + m2) vc5)) := (World.cell?_setCell_other _ _ _ _ (fun e => hgO (by have := congrArg Addr.block e; simpa using this))).trans k1
            refine hK.out _ _ hS5 (fun hHeld => ?_)
            clear hK KK
            try simp only [Act.put]
            try simp only [List.setIfInBounds_toArray]
            try simp only [List.set_cons_succ]
            try simp only [List.set_cons_zero]
            refine wpAnyH_done (by kernel_rfl) ?_ _
            clear hHeld hS HROW HON HLN H63 HBY HBS HPUT HNEW
            obtain ⟨hn1, hn2, hn3⟩ := HOUT.out
            have HN1 := hid hn1
            have HN2 := hid hn2
            have HN3 := hid hn3
            clear HOUT hn1 hn2 hn3 c1 m1 y0 y1 y2 cR
            go_wp2
            go_roundg (K - (s + 1))
            case measure => omega
            case rel => exact ⟨s + 1, by omega, Nat.le_refl _, by go_num, HN1, HN2, HN3⟩
          · subst hk2
            obtain ⟨L0, hL0⟩ := ex_eq (modT 2 tops paths s)
            have hL0l : L0.length = 2 + s := by rw [hL0, modT_len 2 tops paths s (by omega), if_neg (by decide), HT1.out]; rfl
            rw [← hL0] at hSt1
            have HL0 := hid hL0
            have HL0L := hid hL0l
            have d1c := hSt1.c1
            have hown := hSt1.rw.own
            rw [hL0l] at hown
            obtain ⟨v0, c0v, hv0, hsl0⟩ := sl_own hSt1.rw.own
            subst hv0
            rw [hL0l] at d1c hown
            obtain ⟨⟨y0, y1, y2⟩, _, _, _, _⟩ := HSC.out W1 hSt1.bel
            have hS1 := hid hSt1
            have hszr := hSt1.sz
            have HNB := hid hNB
            have HE1 := hid hE1
            have HG1 := hid hg1
            have HNW : Hid (∀ j u, [Value.slice (some ⟨W1.heap.size, 0, none⟩) 0 0][j]? = some u → ((W1.alloc (.cells #[] 3)).alloc (.cells #[.slice (some ⟨W1.heap.size, 0, none⟩) 0 0] 25)).cell? ((⟨W1.heap.size + 1, 0, none⟩ : Addr).add j) = some u) := by
              have h := cells_one (heap_alloc_new (W1.alloc (.cells #[] 3)) (.cells #[.slice (some ⟨W1.heap.size, 0, none⟩) 0 0] 25))
              rw [World.size_alloc] at h
              exact h
            clear hSt1 hL0 hL0l hsl0 hNB hE1 hg1 hU hUe
            go_upto_region 13 with fail
            rw [← HW1.out, ← HPEN.out]
            clear HW1 HPEN d0 d1
            go_wp2_with (at_builtin; refine wpList_append_any _ rfl _ _ 26 rfl (O + 1) 25 i1 _ 1 24 Try.underlying26 hj hy0 hy1 hy2 rfl (by decide) _ _ _ rfl ((hown.alloc _).alloc _) (some ⟨W1.heap.size + 1, 0, none⟩) 1 1 [.slice (some ⟨W1.heap.size, 0, none⟩) 0 0] rfl (fun h => by cases h) rfl (fun pp hpp => by cases hpp; exact HNW.out) (fun x hx => by simp at hx; rw [hx]; rfl) (by unfold maxLen; omega) (by omega) (by simp; omega) ?_)
            intro v4 w4 hown4 hgrow hat
            obtain ⟨va, vc, hv4, _⟩ := sl_own hown4
            have hb2 : Below W1.heap.size W1 ((W1.alloc (.cells #[] 3)).alloc (.cells #[.slice (some ⟨W1.heap.size, 0, none⟩) 0 0] 25)) := (below_one W1 _).alloc (by simp) _
            have hLl := HL0L.out
            have hpush := hS1.out.push hb2 (v6 := v4) (w6 := w4) (L := []) (ar := some ⟨W1.heap.size, 0, none⟩) (cr := 0) ((own_emptyI (w := W1) _ rfl).alloc _) (by rw [hLl]; exact hown4) (by rw [hLl]; exact hgrow) (by rw [hLl]; exact hat.imp id (fun h => by rw [h]; simp))
            obtain ⟨⟨e1, ef⟩, hX⟩ := hpush
            have hNB : NoBl g3 v4 (us ++ [.slice (some ⟨W1.heap.size, 0, none⟩) 0 0]) := by
              have hg1 := HG1.out
              refine ⟨fun e => ?_, fun u hu e => ?_⟩
              · rcases hat with h | h
                · rw [h] at e
                  have := HNB.out.1
                  rw [hLl] at this
                  exact this e
                · rw [h] at e; simp at e; omega
              · rcases List.mem_append.1 hu with hu | hu
                · exact HNB.out.2 u hu e
                · simp at hu
                  subst hu
                  simp [Value.ownBlock] at e
                  omega
            have hkw : KeptBut (fun k => some k = (Value.slice v0 (2 + s) c0v).ownBlock) W1 w4 := (KeptBut.of_whole _ hb2).trans (KeptBut.of_grown hgrow)
            have hE1 : EAt (w4.setCell ⟨O, 1, none⟩ v4) (some ⟨g3, o3, none⟩) (prL 2) := (HE1.out.keptY hkw (fun e => by
              have := HNB.out.1
              rw [hLl] at this
              exact this e.symm)).keptY (kept_set w4 ⟨O, 1, none⟩ _) (fun e => by have := HG3O.out; have e2 : g3 = O := e; omega)
            have hg1 : g3 < (w4.setCell ⟨O, 1, none⟩ v4).heap.size := by have h1 := hkw.size; have h2 := HG1.out; simp; omega
            rw [hLl] at e1
            subst hv4
            obtain ⟨X, hXe⟩ := ex_eq (w4.setCell ⟨O, 1, none⟩ (.slice va (2 + s + 1) vc))
            rw [← hXe] at hX hE1 hg1
            have HXE := hid hXe
            obtain ⟨H, hHe⟩ : ∃ H, H = 2 + s := ⟨_, rfl⟩
            obtain ⟨LL, hLL⟩ := ex_eq (L0 ++ [[]])
            rw [← hLL] at hX
            have hLLl : LL.length = 2 + s + 1 := by rw [hLL, List.length_append, hLl]; rfl
            have hH : H < LL.length := by omega
            have eLH : LL[H] = [] := by
              subst hLL
              subst hHe
              rw [List.getElem_append_right (by omega)]
              simp [hLl]
            have HROWB : LL[H].length ≤ 6000001 := by rw [eLH]; simp
            have HNXT : Hid (LL.set H (LL[H] ++ innL paths[s]) = modT 2 tops paths (s + 1)) := by
              show _ = _
              rw [eLH, List.nil_append, modT_two htr, ← HL0.out]
              subst hLL
              rw [List.set_append_right _ _ (by omega), show H - L0.length = 0 by omega]
              rfl
            have hHH : (2 + s : Nat) = H := hHe.symm
            have HHH : Hid ((2 : Int) + (s : Int) = (H : Int)) := by show _ = _; omega
            clear hown4 hgrow hat hb2 hown hLL hLLl hLl eLH hkw hXe d1c HNW HNB HE1 HG1 hS1 y0 y1 y2 hHe hHH
            obtain ⟨av, cv, hv, _⟩ := sl_own hX.rw.own
            rw [hv] at hX hNB
            clear hv
            obtain ⟨gh, cap', hv', hghB, hghl, _, hcs⟩ := own_row hX.rw.own (by omega)
            simp only [Value.slice.injEq, true_and] at hv'
            obtain ⟨rfl, rfl⟩ := hv'
            obtain ⟨ai, ci, hu, hro, hap⟩ := hX.rw.rows H hH
            have m1 := hcs H _ hu
            have c1 := hX.c1
            obtain ⟨⟨y0, y1, y2⟩, _, _, hLX, hbX⟩ := HSC.out X hX.bel
            obtain ⟨gp, op, ak, ck, rfl, cR, hIR, hsw⟩ := hLX.at htr
            obtain ⟨L, hLe⟩ := ex_eq paths[s]
            rw [← hLe] at cR hIR hsw HNXT
            obtain ⟨J, hJ⟩ := ex_eq L.length
            have hJ2 : 2 ≤ J := by rw [hJ, hLe]; exact H2.out _ (List.getElem_mem htr)
            have hJm : J ≤ 1000000 := by rw [hJ, hLe]; exact HPL.out _ (List.getElem_mem htr)
            obtain ⟨gr, or_, rfl, hgr, hcr⟩ := hIR (by omega)
            rw [← hJ] at cR hsw
            obtain ⟨NL, hNL⟩ := ex_eq LL.length
            obtain ⟨n0, hn0⟩ := ex_eq LL[H].length
            have hn0b : n0 ≤ 6000001 := by rw [hn0]; exact HROWB
            rw [← hNL] at c1
            rw [← hn0] at m1
            have hil : (innL L).length = J - 2 := by unfold innL; rw [List.length_dropLast, List.length_drop]; omega
            have HNEW : Hid (∀ Z, Below X.heap.size X Z → ∀ j u, ((innL L).map (Value.int .i64))[j]? = some u → Z.cell? ((⟨gr, or_ + 1, none⟩ : Addr).add j) = some u) := fun Z hZ j u hu' => by
              rw [List.getElem?_map] at hu'
              have hjl : j < (innL L).length := by
                by_cases hh : j < (innL L).length
                · exact hh
                · rw [List.getElem?_eq_none (by omega)] at hu'; cases hu'
              rw [List.getElem?_eq_getElem hjl] at hu'
              cases hu'
              rw [add_at]
              have hc := hcr (j + 1) (by omega)
              have e : (innL L)[j] = L[j + 1]'(by omega) := innL_at hjl (by omega)
              rw [e, show or_ + 1 + j = or_ + (j + 1) by omega]
              exact (hZ.cell (p := ⟨gr, or_ + (j + 1), none⟩) hgr).trans hc
            have HROW : Hid (X.drew.ownsRow (O + 1) 3 1 (.slice ai n0 ci) n0 (LL[H].map (Value.int .i64))) := by
              have := own_below hro (Below.refl X.heap.size X).drew
              rw [← hn0] at this
              exact this
            have HON : Hid (∀ v ∈ (innL L).map (Value.int .i64), v.oneCell' = true) := fun v hv => by obtain ⟨z, _, rfl⟩ := List.mem_map.1 hv; rfl
            have HLN : Hid (((innL L).map (Value.int .i64)).length = (J - 2) * 1) := by show _ = _; rw [List.length_map, hil, Nat.mul_one]
            have H63 : Hid (n0 + (J - 2) ≤ maxLen) := by show _ ≤ maxLen; unfold maxLen; omega
            have HBY : Hid ((n0 + (J - 2)) * 8 ≤ 140737488355328) := by show _ ≤ _; omega
            have hsX := hX.sz
            have HBS : Hid (O + 1 ≤ X.drew.heap.size) := hsX
            have HPUT : Hid (∀ v4 w4, w4.ownsRow (O + 1) 3 1 v4 (n0 + (J - 2)) (LL[H].map (Value.int .i64) ++ (innL L).map (Value.int .i64)) → X.drew.grownBy w4 (Value.slice ai n0 ci).ownBlock → (v4.ownBlock = (Value.slice ai n0 ci).ownBlock ∨ v4.ownBlock = some X.drew.heap.size) →
                (w4.cell? ⟨O, 1, none⟩ = some (.slice (some ⟨gh, 0, none⟩) NL cv) ∧ w4.cell? ⟨gh, H, none⟩ = some (.slice ai n0 ci) ∧ w4.frozen? ⟨gh, H, none⟩ = false) ∧ (∃ v us, MoSt W2 (w4.setCell ⟨gh, H, none⟩ v4) O 2 v us (modT 2 tops paths (s + 1)) ∧ NoBl g3 v us) ∧ EAt (w4.setCell ⟨gh, H, none⟩ v4) (some ⟨g3, o3, none⟩) (prL 2) ∧ g3 < (w4.setCell ⟨gh, H, none⟩ v4).heap.size) := fun v4 w4 h1 h2 h3 => by
              obtain ⟨a4, c4, rfl, _⟩ := sl_own h1
              have hXd := hX.below (Below.refl X.heap.size X).drew
              rw [← List.map_append] at h1
              have e3 : n0 + (J - 2) = (LL[H] ++ innL L).length := by rw [List.length_append, hil, hn0]
              rw [e3] at h1 h3
              rw [hn0] at h2 h3
              obtain ⟨⟨k1, k2, k3⟩, k4⟩ := hXd.turn hH hu h1 h2 h3
              rw [HNXT.out] at k4
              rw [← e3] at k4
              have hkw : KeptBut (fun k => some k = (Value.slice ai LL[H].length ci).ownBlock) X w4 := (KeptBut.of_whole _ (Below.refl X.heap.size X).drew).trans (KeptBut.of_grown h2)
              have hui : (Value.slice ai LL[H].length ci).ownBlock ≠ some g3 := hNB.2 _ (List.mem_of_getElem? hu)
              have hgg : gh ≠ g3 := fun e => hNB.1 (by rw [e]; rfl)
              have hws := hkw.size
              refine ⟨⟨by rw [hNL]; exact k1, by rw [hn0]; exact k2, k3⟩, ⟨_, _, k4, hNB.set ?_⟩, (hE1.keptY hkw (fun e => hui e.symm)).keptY (kept_set w4 ⟨gh, H, none⟩ _) (fun e => hgg e.symm), by simp; omega⟩
              rw [e3]
              rcases h3 with h3 | h3
              · rw [h3]; exact hui
              · rw [h3]
                intro e
                simp only [Option.some.injEq] at e
                have : X.drew.heap.size = X.heap.size := rfl
                omega
            have hS : (fun Z : World => Z.cell? ⟨O, 1, none⟩ = some (.slice (some ⟨gh, 0, none⟩) NL cv)) X.drew := c1
            have m1' : X.drew.cell? ⟨gh, H, none⟩ = some (.slice ai n0 ci) := m1
            have hgO : ¬ gh = O := by omega
            obtain ⟨l1, hl1⟩ : ∃ l1, l1 = J - 1 := ⟨_, rfl⟩
            obtain ⟨m2, hm2⟩ : ∃ m2, m2 = J - 2 := ⟨_, rfl⟩
            rw [← hm2] at HLN H63 HBY HPUT
            have i1 : (J : Int) - 1 = (l1 : Int) := by omega
            have i2 : IntKind.i64.wrap (l1 : Int) = (l1 : Int) := by rw [IntKind.wrap_i64]; omega
            have i3 : (1 : Int) ≤ (l1 : Int) := by omega
            have i4 : (l1 : Int) ≤ (ck : Int) := by have := hsw.1; omega
            have i5 : ¬ ck = 1 := by have := hsw.1; omega
            have i6 : l1 - 1 = m2 := by omega
            have i7 : 1 ≤ l1 := by omega
            have i8 : l1 ≤ ck := by have := hsw.1; omega
            have i9 : (0 : Int) ≤ (l1 : Int) := by omega
            have h1' : (H : Int) < (NL : Int) := by omega
            have h2' : H < NL := by omega
            have h3' : (0 : Int) ≤ (H : Int) := by omega
            have q9 : (s : Int) < (K : Int) := by omega
            clear hX hu hro hap hcs hLX hIR hsw hcr hLe hJ hil hNL hn0 hbX hl1 hm2 hgr hghB hghl hNB hE1 hg1
            go_upto_region 17 with fail
            rw [← HXE.out]
            clear HXE e1 ef
            rw [HHH.out]
            go_upto_region 18 with fail
            refine wp_region_held_drew (S := (fun Z : World => Z.cell? ⟨O, 1, none⟩ = some (.slice (some ⟨gh, 0, none⟩) NL cv))) (by kernel_rfl) hS (fun hHeld => ?_)
            (refine takeW (i := 0) (dst := some 66) (v := ?_) rfl rfl (by kernel_rfl) (by kernel_rfl) (by kernel_rfl) (fun _ _ _ h => h) (Or.inl ⟨by rfl, ?_⟩) hHeld ?_; rotate_left; focus (intro w hSw; (try dsimp only at hSw); go_simp; (try with_reducible rfl); done))
            try simp only [Act.put, List.setIfInBounds_toArray, List.set_cons_zero, List.set_cons_succ]
            (refine takeW (i := 1) (dst := some 67) (v := ?_) rfl rfl (by kernel_rfl) (by kernel_rfl) (by kernel_rfl) (fun _ _ _ h => h) (Or.inl ⟨by rfl, ?_⟩) hHeld ?_; rotate_left; focus (intro w hSw; (try dsimp only at hSw); go_simp; (try with_reducible rfl); done))
            try simp only [Act.put, List.setIfInBounds_toArray, List.set_cons_zero, List.set_cons_succ]
            (refine takeW (i := 2) (dst := some 68) (v := ?_) rfl rfl (by kernel_rfl) (by kernel_rfl) (by kernel_rfl) (fun _ _ _ h => h) (Or.inl ⟨by rfl, ?_⟩) hHeld ?_; rotate_left; focus (intro w hSw; (try dsimp only at hSw); go_simp; (try with_reducible rfl); done))
            try simp only [Act.put, List.setIfInBounds_toArray, List.set_cons_zero, List.set_cons_succ]
            (refine takeW (i := 3) (dst := some 69) (v := ?_) rfl rfl (by kernel_rfl) (by kernel_rfl) (by kernel_rfl) (fun _ _ _ h => h) (Or.inl ⟨by rfl, ?_⟩) hHeld ?_; rotate_left; focus (intro w hSw; (try dsimp only at hSw); go_simp; (try with_reducible rfl); done))
            try simp only [Act.put, List.setIfInBounds_toArray, List.set_cons_zero, List.set_cons_succ]
            (refine takeW (i := 4) (dst := some 70) (v := ?_) rfl rfl (by kernel_rfl) (by kernel_rfl) (by kernel_rfl) (fun _ _ _ h => h) (Or.inl ⟨by rfl, ?_⟩) hHeld ?_; rotate_left; focus (intro w hSw; (try dsimp only at hSw); go_simp; (try with_reducible rfl); done))
            try simp only [Act.put, List.setIfInBounds_toArray, List.set_cons_zero, List.set_cons_succ]
            (refine takeW (i := 5) (dst := some 71) (v := ?_) rfl rfl (by kernel_rfl) (by kernel_rfl) (by kernel_rfl) (fun _ _ _ h => h) (Or.inl ⟨by rfl, ?_⟩) hHeld ?_; rotate_left; focus (intro w hSw; (try dsimp only at hSw); go_simp; (try with_reducible rfl); done))
            try simp only [Act.put, List.setIfInBounds_toArray, List.set_cons_zero, List.set_cons_succ]
            (refine takeW (i := 6) (dst := some 72) (v := ?_) rfl rfl (by kernel_rfl) (by kernel_rfl) (by kernel_rfl) (fun _ _ _ h => h) (Or.inl ⟨by rfl, ?_⟩) hHeld ?_; rotate_left; focus (intro w hSw; (try dsimp only at hSw); go_simp; (try with_reducible rfl); done))
            try simp only [Act.put, List.setIfInBounds_toArray, List.set_cons_zero, List.set_cons_succ]
            (refine takeW (i := 8) (dst := some 74) (v := ?_) rfl rfl (by kernel_rfl) (by kernel_rfl) (by kernel_rfl) (fun _ _ _ h => h) (Or.inl ⟨by rfl, ?_⟩) hHeld ?_; rotate_left; focus (intro w hSw; (try dsimp only at hSw); go_simp; (try with_reducible rfl); done))
            try simp only [Act.put, List.setIfInBounds_toArray, List.set_cons_zero, List.set_cons_succ]
            (refine takeW (i := 9) (dst := some 75) (v := ?_) rfl rfl (by kernel_rfl) (by kernel_rfl) (by kernel_rfl) (fun _ _ _ h => h) (Or.inl ⟨by rfl, ?_⟩) hHeld ?_; rotate_left; focus (intro w hSw; (try dsimp only at hSw); go_simp; (try with_reducible rfl); done))
            try simp only [Act.put, List.setIfInBounds_toArray, List.set_cons_zero, List.set_cons_succ]
            (refine takeW (i := 10) (dst := some 76) (v := ?_) rfl rfl (by kernel_rfl) (by kernel_rfl) (by kernel_rfl) (fun _ _ _ h => h) (Or.inl ⟨by rfl, ?_⟩) hHeld ?_; rotate_left; focus (intro w hSw; (try dsimp only at hSw); go_simp; (try with_reducible rfl); done))
            try simp only [Act.put, List.setIfInBounds_toArray, List.set_cons_zero, List.set_cons_succ]
            (refine takeW (i := 11) (dst := some 77) (v := ?_) rfl rfl (by kernel_rfl) (by kernel_rfl) (by kernel_rfl) (fun _ _ _ h => h) (Or.inl ⟨by rfl, ?_⟩) hHeld ?_; rotate_left; focus (intro w hSw; (try dsimp only at hSw); go_simp; (try with_reducible rfl); done))
            try simp only [Act.put, List.setIfInBounds_toArray, List.set_cons_zero, List.set_cons_succ]
            (refine takeW (i := 12) (dst := some 78) (v := ?_) rfl rfl (by kernel_rfl) (by kernel_rfl) (by kernel_rfl) (fun _ _ _ h => h) (Or.inl ⟨by rfl, ?_⟩) hHeld ?_; rotate_left; focus (intro w hSw; (try dsimp only at hSw); go_simp; (try with_reducible rfl); done))
            try simp only [Act.put, List.setIfInBounds_toArray, List.set_cons_zero, List.set_cons_succ]
            refine wpAnyH_ready (rs := [7]) (by kernel_rfl) (by simp) ?_
            refine AllReadyH.cons (o := _) rfl (fun KK hK => ?_) AllReadyH.nil
            go_simp
            refine hK.out _ _ hS (fun hHeld => ?_)
            clear hK KK
            try simp only [Act.put]
            try simp only [List.setIfInBounds_toArray]
            try simp only [List.set_cons_succ]
            try simp only [List.set_cons_zero]
            refine wpAnyH_ready (rs := [13]) (by kernel_rfl) (by simp) ?_
            refine AllReadyH.cons (o := _) rfl (fun KK hK => ?_) AllReadyH.nil
            rw [if_pos (by rfl)]
            refine wp_append_any _ (.tmp 73) (.tmp 78) 25 rfl (O + 1) 3 i0 _ 1 8 Try.underlying25 hi0 hz0 hz1 hz2 rfl (by decide) (.slice ai n0 ci) n0 (LL[H].map (Value.int .i64)) (by simp [Act.eval]) HROW.out (some ⟨gr, or_ + 1, none⟩) m2 (ck - 1) ((innL L).map (Value.int .i64)) (by simp [Act.eval]) (fun h => by cases h) HLN.out (fun p hp => by cases hp; exact HNEW.out _ (Below.refl X.heap.size X).drew) HON.out H63.out HBY.out HBS.out ?_
            intro v4' w5 hown4 hgrow4 hat4
            obtain ⟨va5, vc5, hve5, _⟩ := sl_own hown4
            subst hve5
            have HOUT := hid (HPUT.out (.slice va5 (n0 + m2) vc5) w5 hown4 hgrow4 hat4).2
            obtain ⟨⟨k1, k2, k3⟩, _⟩ := HPUT.out (.slice va5 (n0 + m2) vc5) w5 hown4 hgrow4 hat4
            have hS4 : (fun Z : World => Z.cell? ⟨O, 1, none⟩ = some (.slice (some ⟨gh, 0, none⟩) NL cv)) w5 := k1
            clear hown4 hgrow4 hat4
            refine hK.out _ _ hS4 (fun hHeld => ?_)
            clear hK KK
            try simp only [Act.put]
            try simp only [List.setIfInBounds_toArray]
            try simp only [List.set_cons_succ]
            try simp only [List.set_cons_zero]
            (refine takeW (i := 14) (dst := some 80) (v := ?_) rfl rfl (by kernel_rfl) (by kernel_rfl) (by kernel_rfl) (fun _ _ _ h => h) (Or.inl ⟨by rfl, ?_⟩) hHeld ?_; rotate_left; focus (intro w hSw; (try dsimp only at hSw); go_simp; (try with_reducible rfl); done))
            try simp only [Act.put]
            try simp only [List.setIfInBounds_toArray]
            try simp only [List.set_cons_succ]
            try simp only [List.set_cons_zero]
            refine wpAnyH_ready (rs := [15]) (by kernel_rfl) (by simp) ?_
            refine AllReadyH.cons (o := _) rfl (fun KK hK => ?_) AllReadyH.nil
            go_simp
            have hS5 : (fun Z : World => Z.cell? ⟨O, 1, none⟩ = some (.slice (some ⟨gh, 0, none⟩) NL cv)) (w5.setCell ⟨gh, H, none⟩ (.slice va5 (n0 + m2) vc5)) := (World.cell?_setCell_other _ _ _ _ (fun e => hgO (by have := congrArg Addr.block e; simpa using this))).trans k1
            refine hK.out _ _ hS5 (fun hHeld => ?_)
            clear hK KK
            try simp only [Act.put]
            try simp only [List.setIfInBounds_toArray]
            try simp only [List.set_cons_succ]
            try simp only [List.set_cons_zero]
            refine wpAnyH_done (by kernel_rfl) ?_ _
            clear hHeld hS HROW HON HLN H63 HBY HBS HPUT HNEW
            obtain ⟨hn1, hn2, hn3⟩ := HOUT.out
            have HN1 := hid hn1
            have HN2 := hid hn2
            have HN3 := hid hn3
            clear HOUT hn1 hn2 hn3 c1 m1 y0 y1 y2 cR
            go_wp2
            go_roundg (K - (s + 1))
            case measure => omega
            case rel => exact ⟨s + 1, by omega, Nat.le_refl _, by go_num, HN1, HN2, HN3⟩
        · obtain rfl : s = K := by omega
          rw [HM.out, modT_all] at hSt
          obtain ⟨av, cv, hv, hslv⟩ := sl_own hSt.rw.own
          subst hv
          obtain ⟨S, hS⟩ := ex_eq (subSets kd tops paths)
          rw [← hS] at hSt
          have HSE := hid hS
          obtain ⟨NS, hNS⟩ := ex_eq S.length
          have c0 := hSt.c0
          have c1 := hSt.c1
          rw [← hNS] at c1
          have z0 := cell_of_heap z 0
          have z1 := cell_of_heap z 1
          have zf0 := frozen_of_heap z 0
          have zf1 := frozen_of_heap z 1
          have HFIN : Hid (ModTold9 kd tops paths w ((wr.setCell ⟨b0 + 1, 0, none⟩ (.int .i64 kd)).setCell ⟨b0 + 1, 1, none⟩ (.slice av NS cv)) (.agg #[.int .i64 kd, .slice av NS cv])) := by
            refine ⟨kd, S, av, cv, by rw [← hNS], Or.inl ⟨HFM.out, rfl, HSE.out⟩, ?_, ?_⟩
            · have hkk : KeptBut (fun q => q = b0 + 1) wr ((wr.setCell ⟨b0 + 1, 0, none⟩ (.int .i64 kd)).setCell ⟨b0 + 1, 1, none⟩ (.slice av NS cv)) := (kept_set wr ⟨b0 + 1, 0, none⟩ _).trans (kept_set _ ⟨b0 + 1, 1, none⟩ _)
              exact lls_llat ((hSt.rw.kept hkk (fun q hq _ e => by omega)).lls)
            · rw [← HB0.out]
              exact (hbf.setCell (p := ⟨b0 + 1, 0, none⟩) (Nat.le_succ _) _).setCell (p := ⟨b0 + 1, 1, none⟩) (Nat.le_succ _) _
          clear hst hSt hLx z hbf hS hNS hslv hE3 hg3 hNB
          go_wp2
          refine bodyPost_ret (v := .agg #[.int .i64 kd, .slice av NS cv]) ?_ rfl ⟨_, rfl, HFIN.out⟩
          rw [results_cell1 rfl]
          go_simp
end Go.Proofs.Ytckcbaegehfkoaa
