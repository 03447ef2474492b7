/-
  The program's Route keeps its contract.
  slices.Values over a row of numbers, collected; sorted; the program's unlike.
  slices.Sorted of a row of numbers; the program's unlike.
-/
import Derived.Test.YtccbheijfnodjaaB16
import Derived.Test.YtccbheijfnodjaaB21
import Derived.BigQuiet
import Derived.Test.YtccbheijfnodjaaB12
import Derived.Test.YtccbheijfnodjaaB03
import Derived.Test.YtccbheijfnodjaaB08
import Derived.Test.YtccbheijfnodjaaB02
import Derived.Test.YtccbheijfnodjaaB09
import Derived.Test.YtccbheijfnodjaaB14
namespace Go.Proofs.Ytccbheijfnodjaa
open Go.RowKit Go.Lib

theorem routeTold_nil {n : Int} {es : List (Int × Int)} {x y : Int} {away : List Int} {w w' : World} (h : RouteG n es x y away []) (hb : Below w.heap.size w w') : RouteTold n es x y away w w' (.slice none 0 0) := ⟨none, 0, [], rfl, h, sl_nil, iat_nil _ _, hb⟩
theorem greedy_in {n : Int} {es : List (Int × Int)} {D : Int → Int} {a : Int} {L : List Int} (hR : RightG n es) (ha : 0 ≤ a ∧ a < n) (h : Greedy es D a L) {i : Nat} (hi : i < L.length) : 0 ≤ L[i] ∧ L[i] < n := by
  cases i with
  | zero => rw [h.first]; exact ha
  | succ i => exact ((h.step i hi).1.in hR).2.1
/-- None of the first c neighbours of u is nearer by one. -/
def NoneTo (D : Int → Int) (L : List Int) (d : Int) (c : Nat) : Prop := ∀ z ∈ L.take c, D z ≠ d

set_option maxHeartbeats 4000000 in
set_option maxRecDepth 100000 in
theorem route_any (n : Int) (a : Option Addr) (cap : Nat) (es : List (Int × Int)) (x y : Int) (ca : Option Addr) (cc : Nat) (away : List Int) (b : Bool) (w : World) (hN : es.length ≤ 1000000) (hA : away.length ≤ 1000000) (hE : EAt w a es) (hI : IAt w ca away) (hb : b = true ↔ RightG n es) :
    Calls Try.prog 20 #[.agg #[.int .i64 n, .slice a es.length cap], .int .i64 x, .int .i64 y, .slice ca away.length cc] w fun e w' => ∃ v, e = .returned v ∧ RouteTold n es x y away w w' v := by
  obtain ⟨N, hNe⟩ := ex_eq es.length
  obtain ⟨M, hMe⟩ := ex_eq away.length
  obtain ⟨W, hW⟩ := ex_eq (w.alloc (.cells #[.int .i64 n, .slice a N cap] 24))
  have hbW : Below w.heap.size w W := by rw [hW]; exact (Below.refl _ _).alloc (Nat.le_refl _) _
  have hO : W.heap[w.heap.size]? = some (.cells #[.int .i64 n, .slice a N cap] 24 (0, 0)) := by rw [hW]; exact heap_alloc_new _ _
  have hsW : w.heap.size < W.heap.size := (Array.getElem?_eq_some_iff.1 hO).1
  have CN : Hid (Calls Try.prog 32 #[.agg #[.int .i64 n, .slice a N cap]] W fun e w' => ∃ v, e = .returned v ∧ NbIs n es b W w' v) := by
    rw [hNe]; exact neighb_any n a cap es b W hN (hE.below hbW) hb
  have CA : Hid (∀ (m : Nat) X, m ≤ 1000 → Below w.heap.size w X → Calls Try.prog 42 #[.int .i64 m, .slice ca M cc] X fun e w' => ∃ g, e = .returned (.slice (some ⟨g, 0, none⟩) m m) ∧ X.heap.size ≤ g ∧ RowB w' g m (fun j => decide ((j : Int) ∉ away)) ∧ Below X.heap.size X w') := fun m X hm hX => by
    rw [hMe]; exact allBut_any m ca cc away X hm hA (hI.below hX)
  have HBB := hid hb
  have HM := hid hMe
  have HW := hid hW
  have HBW := hid hbW
  rw [← hMe]
  rw [← hNe]
  clear hNe hMe hW hbW hO hE hI hb hN hA
  go_enter Try.func20, Try.ntmps20
  go_wp2_with fail
  go_step3
  go_wp2_with fail
  rw [← HW.out]
  refine CN.out.mono ?_
  rintro e w1 ⟨v, rfl, hv⟩
  rcases hv with ⟨hb0, rfl, hb1⟩ | ⟨hb0, m, g, rfl, rfl, hgW, hnear, hb1⟩
  · have hbw1 : Below w.heap.size w w1 := HBW.out.trans (hb1.mono (by omega))
    have HRT : Hid (RouteTold n es x y away w w1 (.slice none 0 0)) := routeTold_nil (Or.inr ⟨(fun h => by have := HBB.out.2 h; rw [hb0] at this; cases this), rfl⟩) hbw1
    have hv := vtx_any ((0 : Nat) : Int) x false w1 (decide_eq_false (by omega)).symm
    clear CA CN hb1 hbw1 HBB
    go_wp2_with (go_at_call 41; refine hv.mono ?_; rintro e w' ⟨rfl, hw'⟩; rw [hw']; clear hw')
    rw [Exit.noGoto_ret]
    go_ret
    exact ⟨_, rfl, HRT.out⟩
  · have hRG := HBB.out.1 hb0
    have hm : m ≤ 1000 := by have := hRG.2.1; omega
    have hbw1 : Below w.heap.size w w1 := HBW.out.trans (hb1.mono (by omega))
    have HRG := hid hRG
    have HNA := hid hnear
    have HB1 := hid hbw1
    by_cases hxr : 0 ≤ x ∧ x < m
    · have hv := hid (vtx_any m x true w1 (decide_eq_true hxr).symm)
      by_cases hyr : 0 ≤ y ∧ y < m
      · have hv2 := hid (vtx_any m y true w1 (decide_eq_true hyr).symm)
        obtain ⟨X, rfl⟩ : ∃ X : Nat, x = X := ⟨x.toNat, by omega⟩
        obtain ⟨Y, rfl⟩ : ∃ Y : Nat, y = Y := ⟨y.toNat, by omega⟩
        have hXm : X < m := by omega
        have hYm : Y < m := by omega
        have C0 := hid (CA.out m w1 hm hbw1)
        clear CN CA hb1 hbw1 HBB hnear hRG
        go_wp2_with (first
          | (go_at_call_of 41 (Value.int .i64 (X : Int)); refine hv.out.mono ?_; rintro e w' ⟨rfl, hw'⟩; rw [hw']; clear hw')
          | (go_at_call 41; refine hv2.out.mono ?_; rintro e w' ⟨rfl, hw'⟩; rw [hw']; clear hw'))
        refine C0.out.mono ?_
        rintro e w2 ⟨G, rfl, hG, hrow, hb2⟩
        have HB2 := hid (HB1.out.trans (hb2.mono HB1.out.size))
        have HN2 := hid (HNA.out.below hb2)
        have CD := hid (dist_any g m es Y G (fun j => decide ((j : Int) ∉ away)) w2 hm HRG.out hYm HN2.out hrow)
        clear hb2 hrow C0 HNA HB1 hv hv2
        go_wp2_with fail
        refine CD.out.mono ?_
        rintro e w3 ⟨v, rfl, F, D, rfl, hF, hrow3, hb3, hle, hlev⟩
        have HB3 := hid (HB2.out.trans (hb3.mono HB2.out.size))
        have HN3 := hid (HN2.out.below hb3)
        obtain ⟨f0, _⟩ := hrow3.2 X hXm
        obtain ⟨d, hd⟩ := ex_eq (D X)
        rw [← hd] at f0
        have HD := hid hd
        have hd1 : d ≤ 1000 := by rw [hd]; exact hle X hXm
        have HLV : Hid (((Y : Int) ∈ away ∧ d = -1) ∨ Lev m es (fun z => z ∉ away) (Y : Int) (fun z => D z.toNat)) := by
          rcases hlev with ⟨h0, h1⟩ | ⟨_, h1⟩
          · refine Or.inl ⟨?_, by rw [hd]; exact h1 X hXm⟩
            have h0' : decide ((Y : Int) ∉ away) = false := h0
            exact Classical.byContradiction (fun h => by rw [decide_eq_true h] at h0'; cases h0')
          · refine Or.inr (h1.congr HRG.out (fun z h2 h3 => ?_))
            show decide ((z.toNat : Int) ∉ away) = true ↔ z ∉ away
            rw [decide_eq_true_eq, Int.toNat_of_nonneg h2]
        have HFR := hid hrow3
        have q0 : (X : Int) < (m : Int) := by omega
        clear CD HB2 HN2 hb3 hrow3 hle hlev hd
        by_cases hneg : d < 0
        · have HRT : Hid (RouteTold m es X Y away w w3 (.slice none 0 0)) := routeTold_nil (Or.inl ⟨HRG.out, by
            rcases HLV.out with ⟨h, _⟩ | h
            · exact route_shut (Or.inl h)
            · exact h.none (by simp only [Int.toNat_natCast, ← HD.out]; exact hneg)⟩) HB3.out
          have e1 : decide (d < 0) = true := decide_eq_true hneg
          clear HLV HFR HN3
          go_wp2
          rw [Exit.noGoto_ret]
          go_ret
          exact ⟨_, rfl, HRT.out⟩
        · have e1 : decide (d < 0) = false := decide_eq_false hneg
          have HLV2 : Hid (Lev m es (fun z => z ∉ away) (Y : Int) (fun z => D z.toNat)) := by
            rcases HLV.out with ⟨_, h⟩ | h
            · omega
            · exact h
          obtain ⟨T, rfl⟩ : ∃ T : Nat, d = T := ⟨d.toNat, by omega⟩
          have hT : T ≤ 1000 := by omega
          obtain ⟨W1, hW1⟩ := ex_eq (w3.alloc (.cells #[.int .i64 X] 3))
          have hbW1 : Below w3.heap.size w3 W1 := by rw [hW1]; exact (Below.refl _ _).alloc (Nat.le_refl _) _
          obtain ⟨BB, hBB⟩ := ex_eq w3.heap.size
          have HO1 : Hid (W1.ownsRow BB 3 1 (.slice (some ⟨w3.heap.size, 0, none⟩) 1 1) [(X : Int)].length ([(X : Int)].map (Value.int .i64))) := by
            show World.ownsRow _ _ _ _ _ _ _
            rw [hW1, hBB]; exact own_one w3 w3.heap.size (.int .i64 X) 3 (Nat.le_refl _)
          have f1 := (hbW1.cell (p := ⟨F, X, none⟩) HFR.out.1).trans f0
          have HNE : Hid (∀ u, u < m → ∃ au cu, ∀ X, Below BB w3 X → X.cell? ⟨g, u, none⟩ = some (.slice au (nbL u es).length cu) ∧ IAt X au (nbL u es)) := fun u hu => by
            obtain ⟨au, cu, h1, h2, _⟩ := HN3.out.2 u hu
            rw [hBB]
            exact ⟨au, cu, fun X hX => ⟨(hX.cell (p := ⟨g, u, none⟩) HN3.out.1).trans h1, h2.below hX⟩⟩
          have HFX : Hid (∀ X, Below BB w3 X → Row1 X F m D) := fun X hX => HFR.out.belowW (by rw [← hBB]; exact hX)
          rw [← hBB] at hbW1
          have HW1 := hid hW1
          have HBB2 := hid hBB
          have hszB : BB ≤ W1.heap.size := by rw [hBB]; exact Nat.le_trans (Nat.le_refl _) (by rw [hW1]; simp)
          obtain ⟨i0, hi, hz0, hz1, hz2⟩ := info_parts Try.info3
          clear hW1 hBB HLV HN3 HFR
          go_wp2
          rw [← HW1.out]
          go_step3
          go_wp2
          clear HW1 f0 f1
          go_loopw [11, 47] (fun rv i wo => ∃ (k : Nat) (L : List Int), k ≤ T ∧ i = .int .i64 k ∧ Hid (L.length = k + 1) ∧ Hid (wo.ownsRow BB 3 1 rv L.length (L.map (Value.int .i64))) ∧ Hid (Greedy es (fun z => D z.toNat) (X : Int) L) ∧ Below BB w3 wo ∧ BB ≤ wo.heap.size) (fun _ i _ => T - (RowKit.intOf i).toNat)
          case atStart => exact ⟨0, [(X : Int)], Nat.zero_le _, rfl, rfl, HO1, greedy_one _ _ _, hbW1, hszB⟩
          case round =>
            rename World => wo
            obtain ⟨k, L, hk, rfl, hLl, hown, hgr, hbo, hszo⟩ := hrel
            by_cases hlt : k < T
            · have hkL : k < L.length := by have := hLl.out; omega
              obtain ⟨gr, cr, hrv, hgrB, cL⟩ := own_at hown.out hkL
              subst hrv
              have hin := greedy_in HRG.out (by omega) hgr.out hkL
              have hlv := hgr.out.lev k hkL
              obtain ⟨u, hu⟩ : ∃ u : Nat, (u : Int) = L[k] := ⟨L[k].toNat, by omega⟩
              rw [← hu] at cL hin hlv
              simp only [Int.toNat_natCast] at hlv
              rw [← HD.out] at hlv
              have hum : u < m := by omega
              obtain ⟨au, cu, aa⟩ := HNE.out u hum
              obtain ⟨a1, _⟩ := aa wo hbo
              obtain ⟨NN, hNN⟩ := ex_eq (nbL (u : Int) es)
              rw [← hNN] at a1 aa
              have hNl : NN.length ≤ 1000000 := by rw [hNN]; exact Nat.le_trans (nbL_len _ _) (by have := HRG.out.2.2.1; omega)
              obtain ⟨J, hJ⟩ := ex_eq NN.length
              rw [← hJ] at a1 hNl
              have HNN := hid hNN
              have HJ := hid hJ
              have HIA : Hid (∀ X, Below BB w3 X → IAt X au NN) := fun X hX => (aa X hX).2
              have HU : Hid (L[k]? = some (u : Int)) := by show _ = _; rw [List.getElem?_eq_getElem hkL, hu]
              obtain ⟨K, hK⟩ := ex_eq L.length
              have hKk : K = k + 1 := by rw [hK]; exact hLl.out
              have HK := hid hK
              rw [← hK]
              subst hKk
              have HLV := hid hlv
              have q1 : (k : Int) < (T : Int) := by omega
              have q2 : (u : Int) < (m : Int) := by omega
              have q3 : (k : Int) < ((k + 1 : Nat) : Int) := by omega
              clear hNN hJ hu hin aa hK hlv hkL
              go_wp2
              go_loopg [11, 58] J (fun Gh rv i wz => ∃ c : Nat, c ≤ J ∧ J - c ≤ Gh ∧ i = .int .i64 c ∧ rv = .slice (some ⟨gr, 0, none⟩) (k + 1) cr ∧ Hid (NoneTo (fun z => D z.toNat) NN ((T : Int) - k - 1) c) ∧ Hid (∃ q, wz = wo.drewN q))
              case atStart => exact ⟨0, Nat.zero_le _, by omega, rfl, rfl, (fun z hz => by simp at hz), ⟨0, rfl⟩⟩
              case round =>
                obtain ⟨c, hc, hGh, rfl, rfl, hnt, hq⟩ := hrel
                have hbr : Below BB w3 wr := by
                  obtain ⟨q, hq⟩ := hq.out
                  rw [hq]; exact below_drewN hbo q
                by_cases hlc : c < J
                · have hcl : c < NN.length := by rw [← HJ.out]; exact hlc
                  have hadj : Adj es (u : Int) NN[c] := (nbL_right (n := m) HRG.out).1 (by rw [← HNN.out]; exact List.getElem_mem hcl)
                  have hyr' := (hadj.in HRG.out).2.1
                  obtain ⟨y, hy⟩ : ∃ y : Nat, (y : Int) = NN[c] := ⟨NN[c].toNat, by omega⟩
                  rw [← hy] at hadj hyr'
                  have hym : y < m := by omega
                  obtain ⟨ga, oa, rfl, hga, hca⟩ := HIA.out wr hbr (by omega)
                  have d0 := hca c hcl
                  rw [← hy] at d0
                  obtain ⟨f2, _⟩ := (HFX.out wr hbr).2 y hym
                  obtain ⟨f3, _⟩ := (HFX.out wr hbr).2 X hXm
                  rw [← HD.out] at f3
                  obtain ⟨dy, hdy⟩ := ex_eq (D y)
                  rw [← hdy] at f2
                  have HDY := hid hdy
                  have HY := hid hy
                  have HADJ := hid hadj
                  have HCL : Hid (c < NN.length) := hcl
                  have q4 : (c : Int) < (J : Int) := by omega
                  have q5 : (y : Int) < (m : Int) := by omega
                  have q6 : IntKind.i64.wrap ((T : Int) - (k : Int)) = (T : Int) - (k : Int) := by simp [IntKind.wrap, IntKind.bits, IntKind.signed]; omega
                  have q7 : IntKind.i64.wrap ((T : Int) - (k : Int) - 1) = (T : Int) - (k : Int) - 1 := by simp [IntKind.wrap, IntKind.bits, IntKind.signed]; omega
                  clear hca hy hadj hyr' hdy
                  by_cases heq : dy = (T : Int) - k - 1
                  · have b1 : (dy == (T : Int) - (k : Int) - 1) = true := beq_iff_eq.2 heq
                    have HGP : Hid (Greedy es (fun z => D z.toNat) (X : Int) (L ++ [(y : Int)])) := by
                      refine hgr.out.put (i := k) hLl.out HU.out HADJ.out (by simp only [Int.toNat_natCast, ← HDY.out, ← HD.out]; exact heq) (fun z hz hDz => ?_)
                      simp only [Int.toNat_natCast, ← HD.out] at hDz
                      have hzm : z ∈ NN := by rw [HNN.out]; exact (nbL_right (n := m) HRG.out).2 hz
                      obtain ⟨i, hi', rfl⟩ := List.getElem_of_mem hzm
                      by_cases e : i < c
                      · exact absurd hDz (hnt.out _ (by rw [List.mem_take_iff_getElem]; exact ⟨i, by omega, rfl⟩))
                      · rw [HY.out]
                        by_cases e2 : i = c
                        · subst e2; exact Int.le_refl _
                        · have hrise := nbL_rises (n := m) (v := (u : Int)) HRG.out
                          rw [← HNN.out] at hrise
                          exact Int.le_of_lt (List.pairwise_iff_getElem.1 hrise c i HCL.out hi' (by omega))
                    have hQ : ∃ q, wr = wo.drewN q := hq.out
                    have hown2 : wr.ownsRow BB 3 1 (.slice (some ⟨gr, 0, none⟩) (k + 1) cr) (k + 1) (L.map (Value.int .i64)) := by
                      obtain ⟨q, e⟩ := hQ
                      have h := hown.out
                      rw [← HK.out] at h
                      rw [e]; exact h
                    have hszr : BB ≤ wr.heap.size := by
                      obtain ⟨q, e⟩ := hQ
                      rw [e]; exact hszo
                    have HOW : Hid (∀ q, ((wr.drewN q).alloc (.cells #[.int .i64 y] 3)).ownsRow BB 3 1 (.slice (some ⟨gr, 0, none⟩) (k + 1) cr) (k + 1) (L.map (Value.int .i64))) := fun q => World.ownsRow.alloc (w := wr.drewN q) hown2 _
                    have HNW : Hid (∀ q, ∀ p, some (⟨wr.heap.size, 0, none⟩ : Addr) = some p → ∀ j u, [Value.int .i64 (y : Int)][j]? = some u → ((wr.drewN q).alloc (.cells #[.int .i64 y] 3)).cell? (p.add j) = some u) := fun q => by have h := news_oneI (w := wr.drewN q) (x := .int .i64 (y : Int)) (t := 3); simpa using h
                    have HON : Hid (∀ v ∈ [Value.int .i64 (y : Int)], v.oneCell' = true) := fun v hv => by simp at hv; rw [hv]; rfl
                    have H63 : Hid (k + 1 + 1 ≤ maxLen) := by show k + 1 + 1 ≤ maxLen; unfold maxLen; omega
                    have HBS : Hid (∀ q, BB ≤ ((wr.drewN q).alloc (.cells #[.int .i64 y] 3)).heap.size) := fun q => by simp; omega
                    have HKP : Hid (∀ q w4, ((wr.drewN q).alloc (.cells #[.int .i64 y] 3)).grownBy w4 (Value.slice (some ⟨gr, 0, none⟩) (k + 1) cr).ownBlock → Below BB w3 w4 ∧ BB ≤ w4.heap.size) := fun q w4 hg =>
                      ⟨Below.grown ((below_drewN hbr q).alloc (by simpa using hszr) _) hg (HBS.out q) (fun j hj => by obtain rfl : gr = j := by { simpa [Value.ownBlock] using hj }; exact hgrB), Nat.le_trans (HBS.out q) hg.size⟩
                    have HLN : Hid ((L ++ [(y : Int)]).length = k + 1 + 1) := by show _ = _; rw [List.length_append, hLl.out]; rfl
                    clear hnt HDY HY HADJ hq hQ hown2 hgr hLl hown
                    go_wp2_with fail
                    go_quiet (fail)
                    go_wp2_with (at_builtin; refine wpList_append_any _ rfl _ _ 25 rfl BB 3 i0 _ 1 8 Try.underlying25 hi hz0 hz1 hz2 rfl (by decide) _ _ _ rfl (HOW.out _) (some ⟨wr.heap.size, 0, none⟩) 1 1 [.int .i64 y] rfl (fun h => by cases h) rfl (HNW.out _) HON.out H63.out ?c4 (HBS.out _) ?_)
                    case c4 => omega
                    intro v4 w4 hown4 hgrow _
                    obtain ⟨hb4, hsz4⟩ := HKP.out _ w4 hgrow
                    have HOX : Hid (w4.ownsRow BB 3 1 v4 (L ++ [(y : Int)]).length ((L ++ [(y : Int)]).map (Value.int .i64))) := by
                      show World.ownsRow _ _ _ _ _ _ _
                      rw [HLN.out, List.map_append]; exact hown4
                    clear hown4 hgrow HKP HBS H63 HON HNW HOW
                    go_wp2
                    go_roundw
                    case rel => exact ⟨k + 1, L ++ [(y : Int)], by omega, by go_num, HLN, HOX, HGP, hb4, hsz4⟩
                    case measure => simp [RowKit.intOf]; omega
                  · have b1 : (dy == (T : Int) - (k : Int) - 1) = false := beq_eq_false_iff_ne.2 heq
                    have HNX : Hid (NoneTo (fun z => D z.toNat) NN ((T : Int) - k - 1) (c + 1)) := fun z hz => by
                      rw [List.take_append_getElem HCL.out |>.symm] at hz
                      rcases List.mem_append.1 hz with hz | hz
                      · exact hnt.out z hz
                      · simp at hz
                        subst hz
                        rw [← HY.out]
                        simp only [Int.toNat_natCast, ← HDY.out]
                        exact heq
                    have HQ : Hid (∀ q, ∃ q', wr.drewN q = wo.drewN q') := fun q => by
                      obtain ⟨q', e⟩ := hq.out
                      exact ⟨q' + q, by rw [e, World.drewN_drewN]⟩
                    clear hnt HDY HY HADJ hq
                    go_wp2_with fail
                    go_quiet (fail)
                    go_wp2
                    go_roundg (J - (c + 1))
                    case measure => omega
                    case rel => exact ⟨c + 1, by omega, Nat.le_refl _, by go_num, rfl, HNX, HQ.out _⟩
                · exfalso
                  obtain rfl : c = J := by omega
                  have hlv := HLV.out
                  obtain ⟨z, hz, hDz⟩ := HLV2.out.down (u : Int) (by omega) q2 (by simp only [Int.toNat_natCast]; omega)
                  have hzm : z ∈ NN := by rw [HNN.out]; exact (nbL_right (n := m) HRG.out).2 hz.symm
                  refine hnt.out z (by rw [HJ.out, List.take_length]; exact hzm) ?_
                  simp only [Int.toNat_natCast] at hDz ⊢
                  omega
            · obtain rfl : k = T := by omega
              have HRI : Hid (RouteIs m es X Y away L) := hgr.out.route HRG.out HLV2.out (by omega) (by rw [hLl.out]; simp only [Int.toNat_natCast, ← HD.out]; omega)
              obtain ⟨ar, cr, hrv, hIA⟩ := iat_own hown.out
              obtain ⟨a5, c5, hsv, hsl⟩ := sl_own hown.out
              have HRT : Hid (RouteTold m es X Y away w wo u11) := by
                rw [hsv] at hrv
                obtain ⟨rfl, rfl⟩ : a5 = ar ∧ c5 = cr := by simpa using hrv
                exact ⟨a5, c5, L, hsv, Or.inl ⟨HRG.out, HRI.out⟩, hsl, hIA, HB3.out.trans (hbo.mono (by rw [HBB2.out]; exact HB3.out.size))⟩
              clear hrv hsv hown hgr HRI hIA hsl
              go_wp2
              rw [Exit.noGoto_ret]
              go_ret
              exact ⟨_, rfl, HRT.out⟩
      · have hv2 := hid (vtx_any m y false w1 (decide_eq_false hyr).symm)
        have HRT : Hid (RouteTold m es x y away w w1 (.slice none 0 0)) := routeTold_nil (Or.inl ⟨HRG.out, route_shut (Or.inr (Or.inr (Or.inr hyr)))⟩) HB1.out
        obtain ⟨X, rfl⟩ : ∃ X : Nat, x = X := ⟨x.toNat, by omega⟩
        have hne : ¬ (X : Int) = y := fun e => hyr (by rw [← e]; exact hxr)
        clear CN CA hb1 hbw1 HBB hnear hRG HNA HB1
        go_wp2_with (first
          | (go_at_call_of 41 (Value.int .i64 (X : Int)); refine hv.out.mono ?_; rintro e w' ⟨rfl, hw'⟩; rw [hw']; clear hw')
          | (go_at_call 41; refine hv2.out.mono ?_; rintro e w' ⟨rfl, hw'⟩; rw [hw']; clear hw'))
        rw [Exit.noGoto_ret]
        go_ret
        exact ⟨_, rfl, HRT.out⟩
    · have hv := hid (vtx_any m x false w1 (decide_eq_false hxr).symm)
      have HRT : Hid (RouteTold m es x y away w w1 (.slice none 0 0)) := routeTold_nil (Or.inl ⟨HRG.out, route_shut (Or.inr (Or.inr (Or.inl hxr)))⟩) HB1.out
      clear CN CA hb1 hbw1 HBB hnear hRG HNA HB1
      go_wp2_with (go_at_call 41; refine hv.out.mono ?_; rintro e w' ⟨rfl, hw'⟩; rw [hw']; clear hw')
      rw [Exit.noGoto_ret]
      go_ret
      exact ⟨_, rfl, HRT.out⟩
end Go.Proofs.Ytccbheijfnodjaa
namespace Go.Proofs.Ytccbheijfnodjaa
open Go.RowKit Go.Lib Go.Shelf Go.Sort
attribute [local go_sem] Oper.semAt_some

set_option maxRecDepth 100000 in
set_option maxHeartbeats 1000000 in
theorem vls1_in (m : Nat) (hm : 1 ≤ m) (l Bm n₀ : Nat) (a : Option Addr) (cap : Nat) (xs : List Int) (hN : xs.length ≤ 1000000) (J Jx : List Int → World → Prop) (W : World) (hI : ∀ X, Below n₀ W X → X.cell? ⟨Bm, 0, none⟩ = some (.slice a xs.length cap) ∧ IAt X a xs)
    (hY : ∀ pre x W, J pre W → pre.length < xs.length → YieldAt Fence.wide (m - 1) Try.prog l #[.int .i64 x] W fun e W' =>
      (e = .returned (.bool true) ∧ J (pre ++ [x]) W' ∧ Below n₀ W W') ∨ (e = .returned (.bool false) ∧ Jx (pre ++ [x]) W'))
    (h0 : J [] W) :
    CallsIn Fence.wide m Try.prog 78 #[.func (.yield l) #[] #[], .pointer (some ⟨Bm, 0, none⟩)] W fun e W' => (∃ v, e = .returned v) ∧ ((∃ ys, ys = xs ∧ J ys W') ∨ (∃ pre, True ∧ Jx pre W')) := by
  refine callsIn_of_wp Try.func78 rfl trivial ?_ rfl
  simp only [Try.ntmps78, List.size_toArray, List.length_cons, List.length_nil, Nat.reduceAdd, Nat.reduceSub, Array.replicate_succ, Array.replicate_zero, List.push_toArray, List.append_toArray, List.nil_append, List.cons_append]
  obtain ⟨N, hNe⟩ := ex_eq xs.length
  obtain ⟨c0, _⟩ := hI W (Below.refl _ _)
  rw [← hNe] at c0 hN
  have HI : Hid (∀ X, Below n₀ W X → IAt X a xs) := fun X hX => (hI X hX).2
  have HN := hid hNe
  have HY := hid hY
  have HJ0 := hid h0
  clear hI hNe hY h0
  gi_wp2
  try go_frame
  gi_loopw [7] (fun i wr => ∃ k : Nat, k ≤ N ∧ i = .int .i64 k ∧ Hid (J (xs.take k) wr) ∧ Hid (Below n₀ W wr)) (fun i _ => N - (RowKit.intOf i).toNat)
  case atStart => exact ⟨0, Nat.zero_le _, rfl, HJ0, Below.refl _ _⟩
  case round =>
    obtain ⟨k, hk, rfl, hJs, hbr⟩ := hrel
    by_cases hlt : k < N
    · have hkr : k < xs.length := by rw [← HN.out]; exact hlt
      obtain ⟨g, off, rfl, hg, hc⟩ := HI.out wr hbr.out (by omega)
      have d0 := hc k hkr
      obtain ⟨x, hx⟩ := ex_eq xs[k]
      rw [← hx] at d0
      have HX : Hid (xs.take (k + 1) = xs.take k ++ [x]) := by show _ = _; rw [hx]; exact (List.take_append_getElem hkr).symm
      obtain ⟨fn, tmps, assign, body, hy, hR⟩ := HY.out (xs.take k) x wr hJs.out (by rw [List.length_take]; omega)
      have q1 : (k : Int) < (N : Int) := by omega
      clear hc hx
      gi_wp2
      refine hR.mono ?_
      rintro e W3 (⟨rfl, hJ3, hk3⟩ | ⟨rfl, hJx3⟩)
      · have HJ3 : Hid (J (xs.take (k + 1)) W3) := by
          show J (xs.take (k + 1)) W3
          rw [HX.out]; exact hJ3
        have HB3 : Hid (Below n₀ W W3) := hbr.out.trans hk3
        clear hy hR hJ3 hk3 d0
        gi_wp2
        go_roundw
        case rel => exact ⟨k + 1, by omega, by go_num, HJ3, HB3⟩
        case measure => simp [RowKit.intOf]; omega
      · gi_wp2
        exact bodyPost_ret (results_none rfl _ _ _) rfl ⟨⟨_, rfl⟩, .inr ⟨_, trivial, hJx3⟩⟩
    · obtain rfl : k = N := by omega
      have HJE : Hid (J xs wr) := by
        have := hJs.out
        rw [HN.out, List.take_length] at this
        exact this
      clear hJs
      gi_wp2
      go_end0
      exact ⟨⟨_, rfl⟩, .inl ⟨_, rfl, HJE.out⟩⟩
theorem vls_stops (m : Nat) (hm : 1 ≤ m) (Bm n₀ : Nat) (a : Option Addr) (cap : Nat) (xs : List Int) (hN : xs.length ≤ 1000000) (w : World) (hn₀ : n₀ ≤ w.heap.size) (hI : ∀ X, Below n₀ w X → X.cell? ⟨Bm, 0, none⟩ = some (.slice a xs.length cap) ∧ IAt X a xs) :
    SeqStopsK Fence.wide m Try.prog 78 #[.pointer (some ⟨Bm, 0, none⟩)] (fun x : Int => #[Value.int .i64 x]) (Below n₀) (fun ys => ys = xs) (fun _ => True) xs.length w := fun l J Jx W hW _ _ hY h0 =>
  vls1_in m hm l Bm n₀ a cap xs hN J Jx W (fun X hX => hI X ((hW.mono hn₀).trans hX)) hY h0

set_option maxRecDepth 100000 in
set_option maxHeartbeats 2000000 in
theorem appendSeq_vls (Bm : Nat) (a : Option Addr) (cap : Nat) (xs : List Int) (w : World) (hN : xs.length ≤ 1000000) (hBm : Bm < w.heap.size) (hc0 : w.cell? ⟨Bm, 0, none⟩ = some (.slice a xs.length cap)) (hI : IAt w a xs) :
    Calls Try.prog 75 #[.slice none 0 0, .func (.func 78) #[] #[.pointer (some ⟨Bm, 0, none⟩)]] w fun e w' => ∃ v, e = .returned v ∧ w'.ownsRow w.heap.size 3 1 v xs.length (xs.map (Value.int .i64)) ∧ Below w.heap.size w w' := by
  obtain ⟨i0, hi, hz0, hz1, hz2⟩ := info_parts Try.info3
  refine (callsIn_wide (n := 6)).1 ?_
  refine callsIn_of_wp_marks Try.func75 rfl trivial ?_ rfl
  simp only [Try.ntmps75, List.size_toArray, List.length_cons, List.length_nil, Nat.reduceAdd, Nat.reduceSub, Array.replicate_succ, Array.replicate_zero, List.push_toArray, List.append_toArray, List.nil_append, List.cons_append]
  gi_wp2_with fail
  have bO := Boxed.new w 25 (.slice none 0 0)
  have hB0 : Below w.heap.size w (w.alloc (.cells #[.slice none 0 0] 25)) := (Below.refl _ w).alloc (Nat.le_refl _) _
  refine wpIn_rangeFunc_ownG rfl (by omega) (gf := 78) (lb := #[.pointer (some ⟨Bm, 0, none⟩)]) rfl trivial (enters_of Try.func78 (by kernel_rfl) rfl)
    (vls_stops 5 (by omega) Bm w.heap.size a cap xs hN _ (by simp) (fun X hX => ⟨((hB0.trans hX).cell (p := ⟨Bm, 0, none⟩) hBm).trans hc0, hI.below (hB0.trans hX)⟩)) belowK_t (belowK_b (by simp)) (Below.refl _ _) (fun _ => rfl)
    (fun pre W => (∃ v, Boxed W w.heap.size 25 v ∧ W.ownsRow w.heap.size 3 1 v pre.length (pre.map (Value.int .i64)) ∧ True) ∧ Below w.heap.size w W)
    (fun _ _ _ => False)
    (OwnFrom.and (Own.from (holdsRow_own w.heap.size w.heap.size 25 3 1 (fun pre : List Int => pre.length) (fun pre => pre.map (Value.int .i64)) (fun _ _ => True)) _) (ownFrom_below (Nat.le_refl _) (by simp)))
    (fun _ _ _ _ _ hs _ _ => hs)
    ⟨⟨_, bO, World.ownsRow_nil _ _ _ _, trivial⟩, hB0⟩
    (fun z => { tmps := #[.slice none 0 0, .func (.func 78) #[] #[.pointer (some ⟨Bm, 0, none⟩)], .pointer (some ⟨w.heap.size, 0, none⟩), undef, .slice none 0 0, .int .i64 z, .func (.func 78) #[] #[.pointer (some ⟨Bm, 0, none⟩)], .int .i64 z, undef, undef, undef, undef, undef], defers := [] }) ?assign ?body ?done ?stop
  case assign =>
    intro l z W K hK
    gi_wp2
    exact hK
  case body =>
    rintro l pre z W ⟨⟨v, hv, hrow, _⟩, hB⟩ hlt
    have hc := hv.cell
    gi_wp2_with (gi_at_builtin; refine wpListIn_append_own _ rfl _ _ 25 rfl w.heap.size 3 i0 (.int .i64 0) 1 8 Try.underlying25 hi hz0 hz1 hz2 rfl (by decide) _ _ _ rfl (hrow.alloc _) ⟨W.heap.size, 0, none⟩ 1 1 [.int .i64 z] rfl rfl (cell_one_new _ _ _) (by simp [Value.oneCell']) (by unfold maxLen; omega) (by omega) (by have := hB.size; simp; omega) ?_; intro v' w1 hown' hgrow _; obtain ⟨g', cap', rfl⟩ := ownsRow_succ hown'; obtain ⟨hv1, hv2, hr2, hk2, hb2⟩ := hv.appended (by decide) hrow hB.size (Nat.le_refl _) hown' hgrow; have hc1 := hv1.cell; have hf1 := hv1.frozen)
    exact ⟨hk2.from _, hb2, ⟨_, hv2, by simpa using hr2, trivial⟩, hB.trans hb2⟩
  case done =>
    rintro D ys W hD rfl ⟨⟨v, hv, hrow, _⟩, hB⟩ hK
    have hc := hv.cell
    gi_wp2
    refine ⟨by simp, .inl ⟨_, _, rfl, run_takeDeferred hK, ?_⟩⟩
    exact ⟨_, results_tmp rfl _ _ _, v, rfl, ownsRow_putObj hrow _ hK rfl, hB.trans (belowK_b (w := w) (Nat.le_refl _) W D _ _ (by simp at hD; omega) hK rfl rfl)⟩
  case stop =>
    rintro D c pre W _ _ h _
    exact h.elim

set_option maxHeartbeats 1000000 in
set_option maxRecDepth 100000 in
theorem collect_vls (Bm : Nat) (a : Option Addr) (cap : Nat) (xs : List Int) (w : World) (hN : xs.length ≤ 1000000) (hBm : Bm < w.heap.size) (hc0 : w.cell? ⟨Bm, 0, none⟩ = some (.slice a xs.length cap)) (hI : IAt w a xs) :
    Calls Try.prog 56 #[.func (.func 78) #[] #[.pointer (some ⟨Bm, 0, none⟩)]] w fun e w' => ∃ v, e = .returned v ∧ w'.ownsRow w.heap.size 3 1 v xs.length (xs.map (Value.int .i64)) ∧ Below w.heap.size w w' := by
  have hap := hid (appendSeq_vls Bm a cap xs w hN hBm hc0 hI)
  clear hc0 hI hN
  go_enter Try.func56, Try.ntmps56
  go_wp2_with fail
  refine hap.out.mono ?_
  rintro e w1 ⟨v, rfl, hc⟩
  have HC := hid hc
  clear hc
  go_wp2
  go_ret
  exact ⟨v, rfl, HC.out⟩
end Go.Proofs.Ytccbheijfnodjaa
namespace Go.Proofs.Ytccbheijfnodjaa
open Go.RowKit Go.Lib Go.Shelf Go.Sort

/-- A row, sorted. -/
def srtI (xs : List Int) : List Int := xs.mergeSort fun x y => decide (x ≤ y)
theorem srtI_perm (xs : List Int) : (srtI xs).Perm xs := List.mergeSort_perm xs _
theorem srtI_len (xs : List Int) : (srtI xs).length = xs.length := (srtI_perm xs).length_eq
theorem srtI_up (xs : List Int) : (srtI xs).Pairwise (· ≤ ·) := by
  have h := List.pairwise_mergeSort (le := fun x y : Int => decide (x ≤ y)) (fun a b c h1 h2 => by simp at *; omega) (fun a b => by simp; omega) xs
  exact h.imp (fun h => by simpa using h)
theorem compact_nodup {s : List Int} (hs : s.Pairwise (· ≤ ·)) : (Lib.compact s).length = s.length ↔ s.Nodup := by
  have h1 : (Lib.compact s).length = s.length ↔ ∀ j, j < s.length → Lib.keeps s.toArray j = true := by
    unfold Lib.compact Lib.compactUpTo
    rw [List.length_map]
    have := List.length_filter_eq_length_iff (p := Lib.keeps s.toArray) (l := List.range s.length)
    rw [List.length_range] at this
    rw [this]
    simp
  rw [h1]
  constructor
  · intro hk
    rw [List.nodup_iff_pairwise_ne, List.pairwise_iff_getElem]
    intro i j hi hj hij e
    have hk' := hk j hj
    unfold Lib.keeps at hk'
    have hj1 : j ≠ 0 := by omega
    simp [hj1] at hk'
    have h2 := List.pairwise_iff_getElem.1 hs (j - 1) j (by omega) hj (by omega)
    rw [List.getElem?_eq_getElem hj, List.getElem?_eq_getElem (show j - 1 < s.length by omega)] at hk'
    simp at hk'
    by_cases e2 : i = j - 1
    · subst e2; omega
    · have h3 := List.pairwise_iff_getElem.1 hs i (j - 1) hi (by omega) (by omega)
      omega
  · intro hn j hj
    unfold Lib.keeps
    by_cases hj1 : j = 0
    · simp [hj1]
    · have := List.pairwise_iff_getElem.1 hn (j - 1) j (by omega) hj (by omega)
      simp [hj1]
      rw [List.getElem?_eq_getElem hj, List.getElem?_eq_getElem (show j - 1 < s.length by omega)]
      simp
      omega
theorem own_holds {w : World} {B : Nat} {fv : Value} {F : List Int} (h : w.ownsRow B 3 1 fv F.length (F.map (Value.int .i64))) (h0 : 0 < F.length) : ∃ g cap, fv = .slice (some ⟨g, 0, none⟩) F.length cap ∧ F.length ≤ cap ∧ B ≤ g ∧ g < w.heap.size ∧ Holds (Value.int .i64) w g 0 F.toArray := by
  rcases h.2 with ⟨_, h0'⟩ | ⟨g, cap, cur, hv, hg, hgb, hc, _⟩
  · omega
  · refine ⟨g, cap, hv, hc, hg, (Array.getElem?_eq_some_iff.1 hgb).1, fun j hj => ?_⟩
    have hj' : j < F.length := by simpa using hj
    have := h.cells (g := g) (by rw [hv]; rfl) j (.int .i64 F[j]) (by rw [List.getElem?_map, List.getElem?_eq_getElem hj']; rfl)
    rw [add_at] at this
    refine ⟨?_, frozen_of_heap hgb _⟩
    rw [this, getElem!_pos F.toArray j hj]
    simp
theorem grown_sortI {w : World} {g n : Nat} {os : Array Obj} (d : Array Int) : w.grownBy (sortWorld (Value.int .i64) w g 0 n d os) (some g) := by
  refine ⟨rfl, rfl, rfl, ?_, fun k hk hne => ?_⟩
  · unfold sortWorld
    rw [size_grow]
    simp [putRow, mapBlock, Sort.ahead]
  · unfold sortWorld
    rw [heap_grow_old _ _ (by simpa [putRow, mapBlock, Sort.ahead] using hk)]
    have : g ≠ k := fun e => hne (by rw [e])
    simp [putRow, mapBlock, Sort.ahead, Array.getElem?_modify, this]
theorem below_grown1 {w w' : World} {B g : Nat} {w0 : World} (hb : Below B w0 w) (h : w.grownBy w' (some g)) (hg : B ≤ g) (hB : B ≤ w.heap.size) : Below B w0 w' := Below.grown hb h hB (fun k hk => by cases hk; exact hg)

set_option maxHeartbeats 1000000 in
set_option maxRecDepth 100000 in
theorem sortedI_any (Bm : Nat) (a : Option Addr) (cap : Nat) (xs : List Int) (w : World) (hN : xs.length ≤ 1000000) (h0 : 0 < xs.length) (hBm : Bm < w.heap.size) (hc0 : w.cell? ⟨Bm, 0, none⟩ = some (.slice a xs.length cap)) (hI : IAt w a xs) :
    Calls Try.prog 62 #[.func (.func 78) #[] #[.pointer (some ⟨Bm, 0, none⟩)]] w fun e w' => ∃ g cap', e = .returned (.slice (some ⟨g, 0, none⟩) xs.length cap') ∧ xs.length ≤ cap' ∧ w.heap.size ≤ g ∧ g < w'.heap.size ∧ Holds (Value.int .i64) w' g 0 (srtI xs).toArray ∧ Below w.heap.size w w' := by
  have hap := hid (collect_vls Bm a cap xs w hN hBm hc0 hI)
  have HN : Hid (xs.length ≤ 1000000) := hN
  have H0 : Hid (0 < xs.length) := h0
  obtain ⟨N, hNe⟩ := ex_eq xs.length
  have HNe := hid hNe
  rw [← hNe]
  clear hc0 hI hN h0 hNe
  go_enter Try.func62, Try.ntmps62
  go_wp2_with fail
  refine hap.out.mono ?_
  rintro e w1 ⟨v, rfl, hown, hb1⟩
  obtain ⟨g, cap', rfl, hcap, hg, hgl, hH⟩ := own_holds hown H0.out
  have hs := Any.slices_Sort_int Try.sortI g 0 cap' xs w1 hH hgl (by have := HN.out; omega)
  change Calls Try.prog 77 _ _ _ at hs
  have HS := hid hs
  have HH := hid hH
  have HB1 := hid hb1
  rw [← HNe.out] at HS hcap ⊢
  clear hs hH hown hb1 hap
  go_wp2_with fail
  refine HS.out.mono ?_
  rintro e w2 ⟨rfl, q, os, hw2⟩
  have hw2' : w2 = sortWorld (Value.int .i64) w1 g 0 q (srtI xs).toArray os := hw2
  have hsz : (srtI xs).toArray.size = xs.toArray.size := by simp [srtI_len]
  have HH2 : Hid (Holds (Value.int .i64) w2 g 0 (srtI xs).toArray) := by
    rw [hw2']
    exact SW.holds (⟨q, os, rfl⟩ : SW (Value.int .i64) w1 g 0 (srtI xs).toArray (sortWorld (Value.int .i64) w1 g 0 q (srtI xs).toArray os)) hgl HH.out hsz
  have HB2 : Hid (Below w.heap.size w w2) := by
    rw [hw2']
    exact below_grown1 HB1.out (grown_sortI _) hg HB1.out.size
  have hgl2 : g < w2.heap.size := Nat.lt_of_lt_of_le hgl (by rw [hw2']; exact (grown_sortI (w := w1) (srtI xs).toArray).size)
  clear hw2 hw2' HS HH HB1 hsz
  go_wp2
  go_ret
  exact ⟨g, cap', rfl, hcap, hg, hgl2, HH2.out, HB2.out⟩

set_option maxHeartbeats 1000000 in
set_option maxRecDepth 100000 in
theorem unl_any (a : Option Addr) (cap : Nat) (xs : List Int) (r : Bool) (w : World) (hN : xs.length ≤ 1000000) (h0 : 0 < xs.length) (hI : IAt w a xs) (hr : r = true ↔ xs.Nodup) :
    Calls Try.prog 44 #[.slice a xs.length cap] w fun e w' => e = .returned (.bool r) ∧ Below w.heap.size w w' := by
  have hbA : Below w.heap.size w (w.alloc (.cells #[.slice a xs.length cap] 25)) := (Below.refl _ _).alloc (Nat.le_refl _) _
  have HS := hid (sortedI_any w.heap.size a cap xs (w.alloc (.cells #[.slice a xs.length cap] 25)) hN h0 (by simp) (cell_of_heap (heap_alloc_new w _) 0) (hI.below hbA))
  have HBA := hid hbA
  have HN : Hid (xs.length ≤ 1000000) := hN
  have HR := hid hr
  obtain ⟨N, hNe⟩ := ex_eq xs.length
  have HNe := hid hNe
  rw [← hNe] at HS HBA ⊢
  clear hbA hI hr hNe hN h0
  go_enter Try.func44, Try.ntmps44
  go_wp2_with (first
    | (go_at_call 62; refine HS.out.mono ?_; rintro e w1 ⟨g, cap', rfl, hcap, hg, hgl, hH, hb1⟩)
    | (go_at_call 63; go_in))
  have hN2 := HN.out
  have hlen : (srtI xs).length = N := by rw [srtI_len, HNe.out]
  have hc := Any.slices_Compact_int Try.compact g 0 cap' (srtI xs) w1 hH (by rw [srtI_len]; omega) (by rw [hlen]; exact hcap)
  change Calls Try.prog 64 _ _ _ at hc
  rw [hlen] at hc
  obtain ⟨C, hC⟩ := ex_eq (Lib.compact (srtI xs)).length
  rw [← hC] at hc
  have HRC : Hid (r = true ↔ C = N) := by
    show r = true ↔ C = N
    rw [HR.out, hC, ← hlen, compact_nodup (srtI_up xs)]
    exact (srtI_perm xs).nodup_iff.symm
  have HCC := hid hc
  have hsA : (w.alloc (.cells #[.slice a N cap] 25)).heap.size = w.heap.size + 1 := by simp
  rw [hsA] at hg hb1
  have HB1 : Hid (Below w.heap.size w w1) := HBA.out.trans (hb1.mono (by omega))
  clear hc hC hH hb1 HS hsA hlen hN2
  refine HCC.out.mono ?_
  rintro e w2 ⟨rfl, q, hw2⟩
  have HB2 : Hid (Below w.heap.size w w2) := by
    rw [hw2]
    refine below_grown1 (g := g) HB1.out (⟨rfl, rfl, rfl, ?_, fun k hk hne => ?_⟩) (by omega) HB1.out.size
    · simp [putRow, mapBlock, Sort.ahead]
    · have : g ≠ k := fun e => hne (by rw [e])
      simp [putRow, mapBlock, Sort.ahead, Array.getElem?_modify, this]
  clear hw2 HCC HB1
  by_cases hCN : C = N
  · obtain rfl : r = true := HRC.out.2 hCN
    have b1 : ((C : Int) == (N : Int)) = true := by rw [hCN]; simp
    clear HRC HR
    go_wp2
    go_ret
    exact ⟨by simp, HB2.out⟩
  · obtain rfl : r = false := b_false HRC.out hCN
    have b1 : ((C : Int) == (N : Int)) = false := beq_eq_false_iff_ne.2 (by omega)
    clear HRC HR
    go_wp2
    go_ret
    exact ⟨by simp, HB2.out⟩
end Go.Proofs.Ytccbheijfnodjaa
