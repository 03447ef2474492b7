/-
  The program's follow: the way from a top to the next vertex that has not just two neighbours (layer 9).
  The program's between: the ways from tops to greater ones, in order (layer 9).
-/
import Derived.Test.YtckcbaegehfkoaaC20
import Derived.Test.YtckcbaegehfkoaaC13
import Derived.Test.YtckcbaegehfkoaaC15
import Derived.Test.YtckcbaegehfkoaaC18
import Derived.Test.YtckcbaegehfkoaaC03
namespace Go.Proofs.Ytckcbaegehfkoaa
open Go.RowKit Go.Lib

theorem own_twoI (w : World) (x y : Int) : (w.alloc (.cells #[.int .i64 x, .int .i64 y] 3)).ownsRow w.heap.size 3 1 (.slice (some ⟨w.heap.size, 0, none⟩) 2 2) 2 [.int .i64 x, .int .i64 y] :=
  ⟨rfl, Or.inr ⟨w.heap.size, 2, #[.int .i64 x, .int .i64 y], rfl, Nat.le_refl _, heap_alloc_new _ _, Nat.le_refl _, by unfold maxLen; omega, rfl, rfl⟩⟩
set_option maxHeartbeats 8000000 in
set_option maxRecDepth 100000 in
theorem follow_any (m g : Nat) (es : List (Int × Int)) (x y : Int) (w : World) (hR : RightG m es) (hN : NearAt w g m es) (ht : dg es x ≠ 2) (hx : Adj es x y) :
    Calls Try.prog 78 #[.slice (some ⟨g, 0, none⟩) m m, .int .i64 x, .int .i64 y] w fun e w' => ∃ a c, e = .returned (.slice a (folL es m x y).length c) ∧ w'.ownsRow w.heap.size 3 1 (.slice a (folL es m x y).length c) (folL es m x y).length ((folL es m x y).map (Value.int .i64)) ∧ Below w.heap.size w w' := by
  have hm : m ≤ 1000 := by have := hR.2.1; omega
  obtain ⟨W1, hW1⟩ := ex_eq (w.alloc (.cells #[.int .i64 x, .int .i64 y] 3))
  obtain ⟨BB, hBB⟩ := ex_eq w.heap.size
  have hbW1 : Below BB w W1 := by rw [hW1, hBB]; exact below_one _ _
  have HO1 : Hid (W1.ownsRow BB 3 1 (.slice (some ⟨BB, 0, none⟩) 2 2) ([x, y] : List Int).length (([x, y] : List Int).map (Value.int .i64))) := by
    show World.ownsRow _ _ _ _ _ _ _
    rw [hW1, hBB]; exact own_twoI w x y
  have hszB : BB ≤ W1.heap.size := by rw [hBB]; exact hbW1.size
  have HT := hid (tr_two hR ht hx)
  have HFO := hid (fol_ok hR ht hx)
  have HRG := hid hR
  have HNE : Hid (∀ X, Below BB w X → ∀ j, j < m → ∃ aj cj, X.cell? ⟨g, j, none⟩ = some (.slice aj (nbL (j : Int) es).length cj) ∧ IAt X aj (nbL (j : Int) es)) := fun X hX j hj => by
    obtain ⟨aj, cj, h1, h2, _⟩ := (hN.below (by rw [← hBB]; exact hX)).2 j hj
    exact ⟨aj, cj, h1, h2⟩
  have HW1 := hid hW1
  have HBB := hid hBB
  obtain ⟨R, hRL⟩ := ex_eq (folL es m x y)
  rw [← hRL] at HFO ⊢
  obtain ⟨i0, hi, hz0, hz1, hz2⟩ := info_parts Try.info3
  rw [← hBB]
  clear hR hN ht hx hW1 hBB hRL
  go_enter Try.func78, Try.ntmps78
  go_wp2_with fail
  go_step3
  go_wp2
  rw [← HW1.out, ← HBB.out]
  go_step3
  go_wp2
  clear HW1
  go_loopg [7, 8] m (fun Gh rv lv wo => ∃ (k : Nat) (L : List Int) (z : Int), Hid (Tr es L ∧ L[0]? = some x ∧ L[1]? = some y ∧ L[k + 1]? = some z ∧ L.length = k + 2) ∧ k + 1 ≤ m ∧ m - k ≤ Gh ∧ lv = .int .i64 z ∧ Hid (wo.ownsRow BB 3 1 rv (k + 2) (L.map (Value.int .i64))) ∧ Below BB w wo ∧ BB ≤ wo.heap.size)
  case atStart => exact ⟨0, [x, y], y, ⟨HT.out, rfl, rfl, rfl, rfl⟩, by have := HT.out.in HRG.out y (by simp); omega, by omega, rfl, HO1.out, hbW1, hszB⟩
  case round =>
    rename World => wo
    obtain ⟨k, L, z, hL, hk, hGh, rfl, hown, hbo, hszo⟩ := hrel
    obtain ⟨hT, h0, h1, hz, hl⟩ := hL.out
    have hzi := hT.in HRG.out z (List.mem_of_getElem? hz)
    obtain ⟨zz, hzz⟩ : ∃ zz : Nat, (zz : Int) = z := ⟨z.toNat, by omega⟩
    subst hzz
    have hzm : zz < m := by omega
    obtain ⟨au, cu, a1, hIA⟩ := HNE.out wo hbo zz hzm
    obtain ⟨NN, hNN⟩ := ex_eq (nbL (zz : Int) es)
    rw [← hNN] at a1 hIA
    obtain ⟨J, hJ⟩ := ex_eq NN.length
    rw [← hJ] at a1
    have HNN := hid hNN
    have HJ := hid hJ
    have hkl : k < L.length := by omega
    have hown1 := hown.out
    rw [show k + 2 = L.length from hl.symm] at hown1
    obtain ⟨gr, cr, hrv, hgrB, cL⟩ := own_at hown1 hkl
    rw [hl] at hrv
    obtain ⟨pv, hpv⟩ := ex_eq L[k]
    rw [← hpv] at cL
    have HPV : Hid (L[k]? = some pv) := by show _ = _; rw [hpv]; exact List.getElem?_eq_getElem hkl
    have q2 : (zz : Int) < (m : Int) := by omega
    by_cases hJ2 : J = 2
    · subst hJ2
      have HD : Hid (dg es (zz : Int) = 2) := by show _ = _; unfold dg; rw [← HNN.out, ← HJ.out]
      have HNXT : Hid (∀ u, u ∈ NN → u ≠ pv → Tr es (L ++ [u])) := fun u hu hne => by
        have e1 : L[L.length - 1]'(by omega) = (zz : Int) := by
          have : L.length - 1 = k + 1 := by omega
          simp only [this]
          rw [List.getElem?_eq_getElem (by omega)] at hz
          exact Option.some.inj hz
        have e2 : L[L.length - 2]'(by omega) = pv := by
          have : L.length - 2 = k := by omega
          simp only [this]
          exact hpv.symm
        refine hT.snoc (by rw [e1]; exact HD.out) (by rw [e1]; exact (nb_adj HRG.out).1 (by rw [← HNN.out]; exact hu)) (by rw [e2]; exact hne)
      have HND : Hid (NN.Nodup) := by show NN.Nodup; rw [HNN.out]; exact nbL_nodup HRG.out
      have HI2 := hid hIA
      have HLS := hid hL.out
      subst hrv
      clear hpv hz hT h0 h1 hL hown1 hNN hJ hIA hkl hl
      go_wp2
      go_loopw [7, 8, 26] (fun rv lv i wz => ∃ c : Nat, c ≤ 2 ∧ i = .int .i64 c ∧ rv = .slice (some ⟨gr, 0, none⟩) (k + 2) cr ∧ lv = .int .i64 (zz : Int) ∧ Hid (∀ j, j < c → NN[j]? = some pv) ∧ wz = wo) (fun _ _ i _ => 2 - (RowKit.intOf i).toNat)
      case atStart => exact ⟨0, by omega, rfl, rfl, rfl, (fun j hj => absurd hj (by omega)), rfl⟩
      case round =>
        obtain ⟨c, hc, rfl, rfl, rfl, hnt, rfl⟩ := hrel
        by_cases hlc : c < 2
        · have hcl : c < NN.length := by rw [← HJ.out]; exact hlc
          obtain ⟨ga, oa, rfl, _, hca⟩ := HI2.out (by omega)
          have d0 := hca c hcl
          obtain ⟨u, hu⟩ := ex_eq NN[c]
          rw [← hu] at d0
          have HU : Hid (u ∈ NN ∧ NN[c]? = some u) := ⟨by rw [hu]; exact List.getElem_mem hcl, by rw [hu]; exact List.getElem?_eq_getElem hcl⟩
          have q4 : (c : Int) < 2 := by omega
          have q5 : ((k + 2 : Nat) : Int) - 2 = (k : Int) := by omega
          have q6 : IntKind.i64.wrap (k : Int) = (k : Int) := by rw [IntKind.wrap_i64]; omega
          have q7 : (k : Int) < ((k + 2 : Nat) : Int) := by omega
          have q8 : k < k + 2 := by omega
          clear hca hu hcl
          by_cases hup : u = pv
          · have b1 : (u != pv) = false := by simp [hup]
            have HNX : Hid (∀ j, j < c + 1 → NN[j]? = some pv) := fun j hj => by
              by_cases e : j < c
              · exact hnt.out j e
              · obtain rfl : j = c := by omega
                rw [HU.out.2, hup]
            clear hnt HU
            go_wp2
            go_roundw
            case rel => exact ⟨c + 1, by omega, by go_num, rfl, rfl, HNX, trivial⟩
            case measure => simp [RowKit.intOf]; omega
          · have b1 : (u != pv) = true := by simp [hup]
            have HTN := hid (HNXT.out u HU.out.1 hup)
            have hown2 := hown.out
            have HKM : Hid (k + 2 ≤ m) := by
              have h3 := HTN.out.len HRG.out
              rw [List.length_append, HLS.out.2.2.2.2] at h3
              show k + 2 ≤ m
              simp at h3; omega
            have hkm := HKM.out
            clear hown hnt
            go_wp2_with (at_builtin; refine wpList_append_any _ rfl _ _ 25 rfl BB 3 i0 _ 1 8 Try.underlying25 hi hz0 hz1 hz2 rfl (by decide) _ _ _ rfl (hown2.alloc _) (some ⟨wr.heap.size, 0, none⟩) 1 1 [.int .i64 u] rfl (fun h => by cases h) rfl (fun pp hpp => by cases hpp; exact cells_one (heap_alloc_new _ _)) (fun x hx => by simp at hx; rw [hx]; rfl) (by unfold maxLen; omega) (by omega) (by simp; omega) ?_)
            intro v4 w4 hown4 hgrow _
            have hb4 : Below BB w w4 := Below.grown (hbo.alloc hszo _) hgrow (by simp; omega) (fun j hj => (hown2.lt j hj).1)
            have hsz4 : BB ≤ w4.heap.size := by have := hgrow.size; simp at this; omega
            have HOX : Hid (w4.ownsRow BB 3 1 v4 (k + 1 + 2) ((L ++ [u]).map (Value.int .i64))) := by
              show World.ownsRow _ _ _ _ _ _ _
              rw [List.map_append]; exact hown4
            have HLX : Hid (Tr es (L ++ [u]) ∧ (L ++ [u])[0]? = some x ∧ (L ++ [u])[1]? = some y ∧ (L ++ [u])[k + 1 + 1]? = some u ∧ (L ++ [u]).length = k + 1 + 2) := by
              obtain ⟨_, g0, g1, _, g2⟩ := HLS.out
              refine ⟨HTN.out, ?_, ?_, ?_, by simp [g2]⟩
              · rw [List.getElem?_append_left (by omega)]; exact g0
              · rw [List.getElem?_append_left (by omega)]; exact g1
              · rw [List.getElem?_append_right (by omega), g2]; simp
            clear hown4 hgrow hown2
            go_wp2
            go_roundg (m - (k + 1))
            case measure => omega
            case rel => exact ⟨k + 1, L ++ [u], u, HLX, hkm, Nat.le_refl _, rfl, HOX, hb4, hsz4⟩
        · exfalso
          obtain rfl : c = 2 := by omega
          have e0 := hnt.out 0 (by omega)
          have e1 := hnt.out 1 (by omega)
          have h3 := HND.out
          have h4 := HJ.out
          rw [List.getElem?_eq_getElem (by omega)] at e0 e1
          rw [List.nodup_iff_pairwise_ne, List.pairwise_iff_getElem] at h3
          exact h3 0 1 (by omega) (by omega) (by omega) (by rw [Option.some.inj e0, Option.some.inj e1])
    · have b1 : ((J : Int) == 2) = false := by simp; omega
      have b2 : ¬ (J : Int) = 2 := by omega
      have HFIN : Hid (L = R) := by
        refine Fol.one HRG.out ⟨hT, h0, h1, fun v hv => ?_⟩ HFO.out
        rw [List.getLast?_eq_getElem?, show L.length - 1 = k + 1 by omega, hz] at hv
        cases hv
        unfold dg
        rw [← HNN.out, ← HJ.out]
        exact hJ2
      have HOX : Hid (wo.ownsRow BB 3 1 u7 R.length (R.map (Value.int .i64))) := by
        show World.ownsRow _ _ _ _ _ _ _
        rw [← HFIN.out, hl]; exact hown.out
      obtain ⟨ax, cx, hvx, _⟩ := own_form HOX.out
      have HOY := HOX
      rw [hvx] at HOY
      have HBO := hid hbo
      clear hpv hz hT h0 h1 hL hown hNN hJ hIA hown1 hrv hbo
      subst hvx
      go_wp2
      rw [Exit.noGoto_ret]
      go_ret
      exact ⟨ax, cx, rfl, HOY.out, HBO.out⟩
end Go.Proofs.Ytckcbaegehfkoaa
namespace Go.Proofs.Ytckcbaegehfkoaa
open Go.RowKit Go.Lib

theorem llownY_none (w : World) (base : Nat) (A : Nat → Prop) : LLOwn w base A (.slice none 0 0) [] [] := ⟨⟨rfl, Or.inl ⟨rfl, rfl⟩⟩, rfl, (fun g h => by cases h), fun k hk => absurd hk (by simp)⟩
/-- The ways from t by those of l, as far as they end at a greater one; all of them. -/
def wayF (m : Nat) (es : List (Int × Int)) (t : Int) (l : List Int) : List (List Int) := (l.map (folL es m t)).filter (fun p => decide (t < p.getLastD 0))
def betL (m : Nat) (es : List (Int × Int)) (T : List Int) : List (List Int) := T.flatMap (fun t => wayF m es t (nbL t es))
theorem wayF_len (m : Nat) (es : List (Int × Int)) (t : Int) (l : List Int) : (wayF m es t l).length ≤ l.length := by
  unfold wayF
  refine Nat.le_trans (List.length_filter_le _ _) ?_
  rw [List.length_map]; exact Nat.le_refl _
theorem wayF_next (m : Nat) (es : List (Int × Int)) (t : Int) (l : List Int) (k : Nat) (hk : k < l.length) : wayF m es t (l.take (k + 1)) = wayF m es t (l.take k) ++ (if t < (folL es m t l[k]).getLastD 0 then [folL es m t l[k]] else []) := by
  unfold wayF
  rw [← List.take_append_getElem hk, List.map_append, List.filter_append]
  congr 1
  simp only [List.map_cons, List.map_nil]
  by_cases h : t < (folL es m t l[k]).getLastD 0
  · rw [if_pos h, List.filter_cons_of_pos (by simpa using h)]; rfl
  · rw [if_neg h, List.filter_cons_of_neg (by simpa using h)]; rfl
theorem betL_next (m : Nat) (es : List (Int × Int)) (T : List Int) (k : Nat) (hk : k < T.length) : betL m es (T.take (k + 1)) = betL m es (T.take k) ++ wayF m es T[k] (nbL T[k] es) := by
  unfold betL
  rw [← List.take_append_getElem hk, List.flatMap_append]
  simp
theorem betL_len {m : Nat} {es : List (Int × Int)} : ∀ {T : List Int}, (∀ t ∈ T, dg es t = 3) → (betL m es T).length ≤ 3 * T.length
  | [], _ => by simp [betL]
  | t :: T, h => by
    have h1 := betL_len (m := m) (fun u hu => h u (List.mem_cons_of_mem _ hu))
    have h2 := wayF_len m es t (nbL t es)
    have h3 := h t (by simp)
    unfold dg at h3
    have e : betL m es (t :: T) = wayF m es t (nbL t es) ++ betL m es T := by unfold betL; rw [List.flatMap_cons]
    rw [e, List.length_append, List.length_cons]
    omega
theorem betL_mem {m : Nat} {es : List (Int × Int)} {T : List Int} {p : List Int} : p ∈ betL m es T ↔ ∃ t ∈ T, ∃ x ∈ nbL t es, p = folL es m t x ∧ t < p.getLastD 0 := by
  unfold betL wayF
  simp only [List.mem_flatMap, List.mem_filter, List.mem_map, decide_eq_true_eq]
  constructor
  · rintro ⟨t, ht, ⟨x, hx, rfl⟩, h⟩; exact ⟨t, ht, x, hx, rfl, h⟩
  · rintro ⟨t, ht, x, hx, rfl, h⟩; exact ⟨t, ht, ⟨x, hx, rfl⟩, h⟩
theorem betL_each {m : Nat} {es : List (Int × Int)} {T : List Int} (hR : RightG m es) (hT : ∀ t ∈ T, dg es t = 3) : ∀ p ∈ betL m es T, 2 ≤ p.length ∧ p.length ≤ 1000000 := fun p hp => by
  obtain ⟨t, ht, x, hx, rfl, _⟩ := betL_mem.1 hp
  have h := (fol_ok hR (by rw [hT t ht]; decide) ((nb_adj hR).1 hx)).tr
  have h1 := h.len hR
  have h2 := hR.2.1
  exact ⟨h.two, by omega⟩

set_option maxHeartbeats 8000000 in
set_option maxRecDepth 100000 in
theorem between_any (m : Nat) (a : Option Addr) (cap : Nat) (es : List (Int × Int)) (ta : Option Addr) (tc : Nat) (T : List Int) (w : World) (hE : EAt w a es) (hR : RightG m es) (hI : IAt w ta T) (hT4 : T.length ≤ 4) (hT : ∀ t ∈ T, dg es t = 3) :
    Calls Try.prog 44 #[.agg #[.int .i64 m, .slice a es.length cap], .slice ta T.length tc] w fun e w' => ∃ a' c' LL, e = .returned (.slice a' LL.length c') ∧ LL.Perm (betL m es T) ∧ LL.Pairwise (fun A B => lt3 (keyL B) (keyL A) = false) ∧ LLFar w' w.heap.size a' LL ∧ Below w.heap.size w w' := by
  obtain ⟨N, hNe⟩ := ex_eq es.length
  obtain ⟨NT, hNT⟩ := ex_eq T.length
  obtain ⟨V, hV⟩ := ex_eq (w.alloc (.cells #[.int .i64 m, .slice a N cap] 30))
  have hbV : Below w.heap.size w V := by rw [hV]; exact below_one _ _
  obtain ⟨b0, hb0⟩ := ex_eq w.heap.size
  have o := heap_alloc_new w (.cells #[.int .i64 m, .slice a N cap] 30)
  rw [← hV, ← hb0] at o
  have x0 := cell_of_heap o 0
  have x1 := cell_of_heap o 1
  have CN := hid (tnear_any m a cap es V (hE.below hbV) hR)
  rw [← hNe] at CN ⊢
  have HI : Hid (∀ X, Below V.heap.size V X → IAt X ta T) := fun X hX => hI.below (hbV.trans (hX.mono hbV.size))
  have HBV := hid hbV
  have HV := hid hV
  have HB0 := hid hb0
  have HNT := hid hNT
  have HRG := hid hR
  have HT3 := hid hT
  have hm : m ≤ 1000 := by have := hR.2.1; omega
  obtain ⟨i0, hi, hz0, hz1, hz2⟩ := info_parts Try.info25
  rw [← hNT] at hT4 ⊢
  clear hE hR hI hT hNe hNT hV hbV o hb0
  go_enter Try.func44, Try.ntmps44
  go_upto_region 1 with fail
  rw [← HV.out, ← HB0.out]
  clear HV
  go_wp2_with fail
  refine CN.out.mono ?_
  rintro e w1 ⟨g, rfl, hg, hN, hb1⟩
  obtain ⟨B, hB⟩ := ex_eq w1.heap.size
  have HNA : Hid (∀ X, Below B w1 X → NearAt X g m es) := fun X hX => hN.below (by rw [← hB]; exact hX)
  have HIX : Hid (∀ X, Below B w1 X → IAt X ta T) := fun X hX => HI.out X (hb1.trans (hX.mono (by rw [hB]; exact hb1.size)))
  have HFI : Hid (∀ X, Below B w1 X → Below b0 w X) := fun X hX => by
    rw [HB0.out]
    have h1 := HBV.out.size
    have h2 := hb1.size
    exact HBV.out.trans ((hb1.trans (hX.mono (by rw [hB]; exact hb1.size))).mono h1)
  have hb11 : Below B w1 w1 := by rw [hB]; exact Below.refl _ _
  have hs11 : B ≤ w1.heap.size := by omega
  have HBE := hid hB
  have HBL : Hid (b0 ≤ B) := by
    show b0 ≤ B
    rw [hB, HB0.out]
    exact Nat.le_trans HBV.out.size hb1.size
  clear CN hN hb1 hg x0 x1 hB HI HBV
  go_wp2
  go_loopw [16, 6] (fun i v wz => ∃ t : Nat, t ≤ NT ∧ i = .int .i64 t ∧ (∃ Q, Q ≤ 3 * t ∧ Hid (∃ us, (∀ u ∈ us, CapU u) ∧ LLOwn wz B (fun q => B ≤ q) v us (betL m es (T.take t)) ∧ Q = (betL m es (T.take t)).length)) ∧ Below B w1 wz ∧ B ≤ wz.heap.size) (fun i _ _ => NT - (RowKit.intOf i).toNat)
  case atStart => exact ⟨0, Nat.zero_le _, rfl, ⟨0, by omega, ⟨[], (fun u hu => by simp at hu), llownY_none _ _ _, rfl⟩⟩, hb11, hs11⟩
  case round =>
    obtain ⟨t, ht, rfl, ⟨Q, hQ, hll⟩, hbz, hsz⟩ := hrel
    by_cases hlt : t < NT
    · have htr : t < T.length := by rw [← HNT.out]; exact hlt
      obtain ⟨gt, ot, rfl, _, hct⟩ := (HIX.out wr hbz) (by omega)
      have d0 := hct t htr
      obtain ⟨z, hz⟩ := ex_eq T[t]
      rw [← hz] at d0
      have hd3 : dg es z = 3 := by rw [hz]; exact HT3.out _ (List.getElem_mem htr)
      have HNXT : Hid (betL m es (T.take (t + 1)) = betL m es (T.take t) ++ wayF m es z (nbL z es)) := by show _ = _; rw [betL_next m es T t htr, hz]
      obtain ⟨NN, hNN⟩ := ex_eq (nbL z es)
      have hJ : NN.length = 3 := by rw [hNN]; exact hd3
      have hzi : 0 ≤ z ∧ z < m := by
        have h0 : 0 < NN.length := by omega
        have h1 : NN[0] ∈ nbL z es := by rw [← hNN]; exact List.getElem_mem h0
        exact (Adj.in HRG.out ((nb_adj HRG.out).1 h1)).1
      obtain ⟨zz, hzz⟩ : ∃ zz : Nat, (zz : Int) = z := ⟨z.toNat, by omega⟩
      subst hzz
      have hzm : zz < m := by omega
      obtain ⟨_, hnr⟩ := HNA.out wr hbz
      obtain ⟨au, cu, a1, _, _⟩ := hnr zz hzm
      rw [← hNN, hJ] at a1
      rw [← hNN] at HNXT
      have HIA : Hid (∀ X, Below B w1 X → IAt X au NN) := fun X hX => by
        obtain ⟨au', cu', b1, b2, _⟩ := (HNA.out X hX).2 zz hzm
        obtain ⟨au0, cu0, e1, _, _⟩ := (HNA.out w1 hb11).2 zz hzm
        have hgl := (HNA.out w1 hb11).1
        have k1 := (hbz.cell (p := ⟨g, zz, none⟩) (by have := block_lt_of_cell e1; have hBe := HBE.out; simp only at this ⊢; omega)).trans e1
        have k2 := (hX.cell (p := ⟨g, zz, none⟩) (by have := block_lt_of_cell e1; have hBe := HBE.out; simp only at this ⊢; omega)).trans e1
        rw [← hNN, hJ] at k1 k2
        rw [a1] at k1
        rw [← hNN, hJ] at b1
        rw [b1] at k2
        simp only [Option.some.injEq, Value.slice.injEq] at k1 k2
        rw [hNN, k1.1, ← k2.1]
        exact b2
      have HJ := hid hJ
      have HNN := hid hNN
      have HD3 := hid hd3
      have HST : Hid (∃ us, (∀ u ∈ us, CapU u) ∧ LLOwn wr B (fun q => B ≤ q) u6 us (betL m es (T.take t) ++ wayF m es (zz : Int) (NN.take 0)) ∧ Q = (betL m es (T.take t) ++ wayF m es (zz : Int) (NN.take 0)).length) := by
        have h := hll.out
        have e : wayF m es (zz : Int) (NN.take 0) = [] := rfl
        rw [e, List.append_nil]
        exact h
      have q1 : (t : Int) < (NT : Int) := by omega
      have q2 : (zz : Int) < (m : Int) := by omega
      clear hll hz hd3 hNN hJ hnr hct
      go_wp2
      clear a1 d0
      go_loopw [25, 6] (fun i v wz => ∃ k : Nat, k ≤ 3 ∧ i = .int .i64 k ∧ (∃ Q, Q ≤ 3 * t + k ∧ Hid (∃ us, (∀ u ∈ us, CapU u) ∧ LLOwn wz B (fun q => B ≤ q) v us (betL m es (T.take t) ++ wayF m es (zz : Int) (NN.take k)) ∧ Q = (betL m es (T.take t) ++ wayF m es (zz : Int) (NN.take k)).length)) ∧ Below B w1 wz ∧ B ≤ wz.heap.size) (fun i _ _ => 3 - (RowKit.intOf i).toNat)
      case atStart => exact ⟨0, by omega, rfl, ⟨Q, by omega, HST.out⟩, hbz, hsz⟩
      case round =>
        clear HST
        obtain ⟨k, hk, rfl, ⟨Q1, hQ1, hll⟩, hbz, hsz⟩ := hrel
        by_cases hltk : k < 3
        · have hkr : k < NN.length := by rw [HJ.out]; exact hltk
          obtain ⟨gn, on, rfl, _, hcn⟩ := (HIA.out wr hbz) (by omega)
          have d1 := hcn k hkr
          obtain ⟨x, hx⟩ := ex_eq NN[k]
          rw [← hx] at d1
          have hadj : Adj es (zz : Int) x := (nb_adj HRG.out).1 (by rw [← HNN.out, hx]; exact List.getElem_mem hkr)
          have CF := hid (follow_any m g es (zz : Int) x wr HRG.out (HNA.out wr hbz) (by rw [HD3.out]; decide) hadj)
          have HFO := hid (fol_ok HRG.out (by rw [HD3.out]; decide) hadj)
          obtain ⟨p, hp⟩ := ex_eq (folL es m (zz : Int) x)
          have HNXK : Hid (wayF m es (zz : Int) (NN.take (k + 1)) = wayF m es (zz : Int) (NN.take k) ++ (if (zz : Int) < p.getLastD 0 then [p] else [])) := by
            show _ = _
            rw [wayF_next m es zz NN k hkr, ← hx, ← hp]
          rw [← hp] at CF HFO
          obtain ⟨K, hK⟩ := ex_eq p.length
          rw [← hK] at CF
          have HKK := hid hK
          have q3 : (k : Int) < 3 := by omega
          have HLLx := hll
          clear hx hp hcn hkr hadj hK hll
          go_wp2_with fail
          refine CF.out.mono ?_
          rintro e w2 ⟨aw, cw, rfl, how, hb2⟩
          have h2 := HFO.out.tr.two
          have hK2 : 2 ≤ K := by rw [HKK.out]; exact h2
          have hK9 : K ≤ m + 1 := by rw [HKK.out]; exact HFO.out.tr.len HRG.out
          obtain ⟨l1, hl1⟩ : ∃ l1, l1 = K - 1 := ⟨_, rfl⟩
          have how' := how
          rw [HKK.out] at how'
          obtain ⟨ga, ca, hva, hgaB, cL⟩ := own_at how' (j := l1) (by rw [← HKK.out]; omega)
          simp only [Value.slice.injEq, true_and] at hva
          obtain ⟨rfl, rfl⟩ := hva
          obtain ⟨lv, hlv⟩ := ex_eq (p[l1]'(by rw [← HKK.out]; omega))
          rw [← hlv] at cL
          have hgl : p.getLastD 0 = lv := by
            rw [List.getLastD_eq_getLast?, List.getLast?_eq_getElem?, hlv, show p.length - 1 = l1 by rw [← HKK.out]; omega, List.getElem?_eq_getElem (by rw [← HKK.out]; omega)]
            rfl
          rw [hgl] at HNXK
          have hbz2 : Below B w1 w2 := hbz.trans (hb2.mono hsz)
          have hsz2 : B ≤ w2.heap.size := Nat.le_trans hsz hb2.size
          have HIW : Hid (IAt w2 (some ⟨ga, 0, none⟩) p) := by
            obtain ⟨a7, c7, hv7, hI7⟩ := own_form how'
            simp only [Value.slice.injEq, true_and] at hv7
            rw [← hv7.1] at hI7
            exact hI7
          have HLL2 : Hid (∃ us, (∀ u ∈ us, CapU u) ∧ LLOwn w2 B (fun q => B ≤ q) u6 us (betL m es (T.take t) ++ wayF m es (zz : Int) (NN.take k)) ∧ Q1 = (betL m es (T.take t) ++ wayF m es (zz : Int) (NN.take k)).length) := by
            obtain ⟨us, h0, h1, h2⟩ := HLLx.out
            exact ⟨us, h0, h1.below hb2, h2⟩
          have HGA : Hid (∀ q, u6.ownBlock = some q → q < wr.heap.size) := fun q hq => by
            obtain ⟨us, _, h1, _⟩ := HLLx.out
            exact (h1.1.lt q hq).2
          have HGB : Hid (wr.heap.size ≤ ga) := hgaB
          have HCW : Hid (K ≤ cw) := by
            obtain ⟨a8, c8, e8, hs8⟩ := sl_own how
            simp only [Value.slice.injEq, true_and] at e8
            show K ≤ cw
            rw [e8.2]; exact hs8.1
          have i1 : (K : Int) - 1 = (l1 : Int) := by omega
          have i2 : IntKind.i64.wrap (l1 : Int) = (l1 : Int) := by rw [IntKind.wrap_i64]; omega
          have i3 : (l1 : Int) < (K : Int) := by omega
          have i4 : l1 < K := by omega
          clear CF how how' hb2 h2 hgaB hlv hgl hl1 HLLx HFO d1 hbz
          by_cases hgt : (zz : Int) < lv
          · have b1 : decide (lv > (zz : Int)) = true := decide_eq_true hgt
            obtain ⟨us, hCU, hLL, hQL⟩ := HLL2.out
            have HCU := hid hCU
            obtain ⟨L0, hL0⟩ := ex_eq (betL m es (T.take t) ++ wayF m es (zz : Int) (NN.take k))
            rw [← hL0] at hLL hQL
            have hown2 := hLL.1
            rw [← hQL] at hown2
            have HNXL : Hid (betL m es (T.take t) ++ wayF m es (zz : Int) (NN.take (k + 1)) = L0 ++ [p]) := by
              show _ = _
              rw [HNXK.out, if_pos hgt, ← List.append_assoc, ← hL0]
            have HLX := hid hLL
            have HQL := hid hQL
            clear HLL2 hL0 hLL hQL HNXK hCU
            go_wp2_with (at_builtin; refine wpList_append_any _ rfl _ _ 26 rfl B 25 i0 _ 1 24 Try.underlying26 hi hz0 hz1 hz2 rfl (by decide) _ _ _ rfl (hown2.alloc _) (some ⟨w2.heap.size, 0, none⟩) 1 1 [.slice (some ⟨ga, 0, none⟩) K cw] rfl (fun h => by cases h) rfl (fun pp hpp => by cases hpp; exact cells_one (heap_alloc_new _ _)) (fun x hx => by simp at hx; rw [hx]; rfl) (by unfold maxLen; omega) (by omega) (by simp; omega) ?_)
            intro v4 w4 hown4 hgrow hat
            have hb4 : Below B w1 w4 := Below.grown (hbz2.alloc hsz2 _) hgrow (by simp; omega) (fun j hj => (hown2.lt j hj).1)
            have hsz4 : B ≤ w4.heap.size := by have := hgrow.size; simp at this; omega
            have HOX : Hid (∃ us, (∀ u ∈ us, CapU u) ∧ LLOwn w4 B (fun q => B ≤ q) v4 us (betL m es (T.take t) ++ wayF m es (zz : Int) (NN.take (k + 1))) ∧ Q1 + 1 = (betL m es (T.take t) ++ wayF m es (zz : Int) (NN.take (k + 1))).length) := by
              rw [HNXL.out]
              refine ⟨_, (fun u hu => ?_), HLX.out.put (L := p) (ar := some ⟨ga, 0, none⟩) (cr := cw) (X := _) HIW.out (fun q off e _ => ?_) ?_ (by rw [← HQL.out, ← HKK.out]; exact hown4) hgrow (hat.imp id (fun h => by rw [h]; simp)), by rw [List.length_append, ← HQL.out]; rfl⟩
              · rcases List.mem_append.1 hu with hu | hu
                · exact HCU.out u hu
                · simp at hu
                  subst hu
                  intro a n c e
                  cases e
                  rw [← HKK.out]; exact HCW.out
              · cases e
                have h1 := HGB.out
                exact ⟨by show B ≤ ga; omega, fun e2 => by have := HGA.out _ e2; omega⟩
              · show B ≤ _
                simp; omega
            clear hown4 hgrow hown2 hat cL
            go_wp2
            go_roundw
            case rel => exact ⟨k + 1, by omega, by go_num, ⟨Q1 + 1, by omega, HOX⟩, hb4, hsz4⟩
            case measure => simp [RowKit.intOf]; omega
          · have b1 : decide (lv > (zz : Int)) = false := decide_eq_false hgt
            have HOX : Hid (∃ us, (∀ u ∈ us, CapU u) ∧ LLOwn w2 B (fun q => B ≤ q) u6 us (betL m es (T.take t) ++ wayF m es (zz : Int) (NN.take (k + 1))) ∧ Q1 = (betL m es (T.take t) ++ wayF m es (zz : Int) (NN.take (k + 1))).length) := by
              rw [HNXK.out, if_neg hgt, List.append_nil]
              exact HLL2.out
            clear HLL2 HNXK
            go_wp2
            go_roundw
            case rel => exact ⟨k + 1, by omega, by go_num, ⟨Q1, by omega, HOX⟩, hbz2, hsz2⟩
            case measure => simp [RowKit.intOf]; omega
        · obtain rfl : k = 3 := by omega
          have HOX : Hid (∃ us, (∀ u ∈ us, CapU u) ∧ LLOwn wr B (fun q => B ≤ q) u6 us (betL m es (T.take (t + 1))) ∧ Q1 = (betL m es (T.take (t + 1))).length) := by
            have h := hll.out
            have e : NN.take 3 = NN := List.take_of_length_le (by rw [HJ.out]; exact Nat.le_refl _)
            rw [e, ← HNXT.out] at h
            exact h
          clear hll
          go_wp2
          go_roundw
          case rel => exact ⟨t + 1, by omega, by go_num, ⟨Q1, by omega, HOX⟩, hbz, hsz⟩
          case measure => simp [RowKit.intOf]; omega
    · obtain rfl : t = NT := by omega
      have htk : T.take t = T := by rw [HNT.out, List.take_length]
      rw [htk] at hll
      obtain ⟨us, hCU, hLL, hQL⟩ := hll.out
      obtain ⟨a5, c5, rfl, HS⟩ := sort3_any hLL (fun _ h => h) hCU (by rw [← hQL]; omega) (betL_each HRG.out HT3.out)
      rw [← hQL] at HS ⊢
      have HSS := hid HS
      have HBZ := hid hbz
      have HEND : Hid (∀ X, (∀ b0 w0, Below b0 w0 wr → b0 ≤ B → b0 ≤ wr.heap.size → Below b0 w0 X) → Below b0 w X) := fun X h => HFI.out X (h B w1 HBZ.out (Nat.le_refl _) hsz)
      have HQL := hid hQL
      clear hll hLL HS htk hbz hQL
      go_wp2_with fail
      refine HSS.out.mono ?_
      rintro e w3 ⟨rfl, LL, hperm, hpw, hat, hbel⟩
      have HF1 : Hid (LL.Perm (betL m es T) ∧ LL.Pairwise (fun A B => lt3 (keyL B) (keyL A) = false) ∧ LLFar w3 b0 a5 LL ∧ Below b0 w w3 ∧ Q = LL.length) := ⟨hperm, hpw, hat.lower HBL.out, HEND.out w3 hbel, by rw [HQL.out]; exact hperm.length_eq.symm⟩
      clear hperm hpw hat hbel HSS
      go_wp2
      go_ret
      obtain ⟨f1, f2, f3, f4, f5⟩ := HF1.out
      exact ⟨a5, c5, LL, by rw [f5]; rfl, f1, f2, by rw [← HB0.out]; exact f3, by rw [← HB0.out]; exact f4⟩
end Go.Proofs.Ytckcbaegehfkoaa
