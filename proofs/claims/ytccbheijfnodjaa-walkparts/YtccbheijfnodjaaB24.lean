/-
  The program's Turn keeps its contract: the walk.
-/
import Derived.Test.YtccbheijfnodjaaB23
namespace Go.Proofs.Ytccbheijfnodjaa
open Go.RowKit Go.Lib Go.Shelf Go.Sort

theorem TurnTold.on {c : List Int} {w w1 w' : World} {v : Value} (h : TurnTold c w1 w' v) (hb : Below w.heap.size w w1) : TurnTold c w w' v := by
  obtain ⟨a, cap, L, h1, h2, h3, h4, h5⟩ := h
  exact ⟨a, cap, L, h1, h2, h3, h4, hb.trans (h5.mono hb.size)⟩
/-- A ring in a row of its own: told as it is, or turned round. -/
theorem turnTold_own {c R : List Int} {w w' : World} {v : Value} {B : Nat} (h : w'.ownsRow B 3 1 v R.length (R.map (Value.int .i64))) (ht : TurnIs c R) (hb : Below w.heap.size w w') : TurnTold c w w' v := by
  obtain ⟨a1, c1, e1, hI1⟩ := iat_own h
  obtain ⟨a2, c2, e2, hs2⟩ := sl_own h
  rw [e2] at e1
  obtain ⟨rfl, rfl⟩ : a2 = a1 ∧ c2 = c1 := by simpa using e1
  exact ⟨a2, c2, R, e2, ht, hs2, hI1, hb⟩
theorem turnTold_rev {c R : List Int} {w w3 : World} {g cap q B : Nat} (h : w3.ownsRow B 3 1 (.slice (some ⟨g, 0, none⟩) R.length cap) R.length (R.map (Value.int .i64))) (h0 : 0 < R.length) (ht : TurnIs c (R.headD 0 :: R.tail.reverse)) (hb : Below w.heap.size w w3) (hB : w.heap.size ≤ B) : TurnTold c w (putRow (Value.int .i64) (Sort.ahead w3 q) g 1 R.tail.reverse.toArray) (.slice (some ⟨g, 0, none⟩) R.length cap) := by
  obtain ⟨g', cap', hv, hcap, hg, hgl, hH⟩ := own_holds h h0
  simp only [Value.slice.injEq, Option.some.injEq, Addr.mk.injEq, and_true, true_and] at hv
  obtain ⟨rfl, rfl⟩ := hv
  have hlen : (R.headD 0 :: R.tail.reverse).length = R.length := by simp; omega
  have hH1 : Holds (Value.int .i64) (Sort.ahead w3 q) g 1 R.tail.toArray := fun j hj => by
    have hj' : j < R.tail.length := by simpa using hj
    have hj2 : 1 + j < R.toArray.size := by simp at hj' ⊢; omega
    have := hH (1 + j) hj2
    rw [Nat.zero_add] at this
    have e : R.toArray[1 + j]! = R.tail.toArray[j]! := by
      rw [getElem!_pos R.toArray (1 + j) hj2, getElem!_pos R.tail.toArray j hj]
      simp [Nat.add_comm]
    rw [e] at this
    exact this
  have hH2 := holds_putRow (Value.int .i64) (Sort.ahead w3 q) g 1 R.tail.toArray R.tail.reverse.toArray hH1 (by simp)
  have hsz : (putRow (Value.int .i64) (Sort.ahead w3 q) g 1 R.tail.reverse.toArray).heap.size = w3.heap.size := by simp [putRow, mapBlock, Sort.ahead]
  refine ⟨some ⟨g, 0, none⟩, cap, R.headD 0 :: R.tail.reverse, by rw [hlen], ht, by rw [hlen]; exact sl_some hcap, fun _ => ⟨g, 0, rfl, by rw [hsz]; exact hgl, fun k hk => ?_⟩, ?_⟩
  · rw [Nat.zero_add]
    cases k with
    | zero =>
      rw [cell?_putRow_other _ _ _ _ _ _ (Or.inr (Or.inl (by simp)))]
      have := (hH 0 (by simpa using h0)).1
      rw [Nat.zero_add, getElem!_pos R.toArray 0 (by simpa using h0)] at this
      have e : R.headD 0 = R.toArray[0]'(by simpa using h0) := by
        cases R with
        | nil => simp at h0
        | cons x l => rfl
      simp only [List.getElem_cons_zero, e]
      exact this
    | succ k =>
      have hk' : k < R.tail.reverse.toArray.size := by simp at hk ⊢; omega
      have := (hH2 k hk').1
      rw [getElem!_pos _ k hk', Nat.add_comm] at this
      simpa using this
  · refine below_grown1 (g := g) hb ⟨rfl, rfl, rfl, Nat.le_of_eq hsz.symm, fun k hk hne => ?_⟩ (by omega) hb.size
    have : g ≠ k := fun e => hne (by rw [e])
    simp [putRow, mapBlock, Sort.ahead, Array.getElem?_modify, this]

set_option maxHeartbeats 4000000 in
set_option maxRecDepth 100000 in
theorem turn_any (ca : Option Addr) (cc : Nat) (c : List Int) (w : World) (hN : c.length ≤ 1000000) (hw : Slw ca cc c.length) (hI : IAt w ca c) :
    Calls Try.prog 22 #[.slice ca c.length cc] w fun e w' => ∃ v, e = .returned v ∧ TurnTold c w w' v := by
  by_cases hring : Ring c
  · have h0 : 0 < c.length := by have := hring.1; omega
    have HU := hid (unl_any ca cc c true w hN h0 hI ⟨fun _ => hring.2, fun _ => rfl⟩)
    obtain ⟨k, hk, hmin, hle⟩ := min_at h0
    have hidx := idx_at hk hring.2
    obtain ⟨g, off, rfl, hg, hcs⟩ := hI h0
    have HC : Hid (∀ X, Below w.heap.size w X → ∀ i (hi : i < c.length), X.cell? ⟨g, off + i, none⟩ = some (.int .i64 c[i])) := fun X hX i hi => (hX.cell (p := ⟨g, off + i, none⟩) hg).trans (hcs i hi)
    have HMIN : Hid (∀ X, Below w.heap.size w X → Calls Try.prog 47 #[.slice (some ⟨g, off, none⟩) c.length cc] X fun e w' => e = .returned (.int .i64 c[k]) ∧ w' = X) := fun X hX => by
      have h := Any.slices_Min_int Try.min g off c.length cc c X h0 (Nat.le_refl _) (by omega) (getD_cells (HC.out X hX))
      change Calls Try.prog 47 _ _ _ at h
      rw [List.take_length, hmin] at h
      exact h
    have HIDX : Hid (∀ X, Below w.heap.size w X → Calls Try.prog 46 #[.slice (some ⟨g, off, none⟩) c.length cc, .int .i64 c[k]] X fun e w' => e = .returned (.int .i64 k) ∧ w' = X) := fun X hX => by
      have h := Any.slices_Index_int Try.index g off c.length cc c c[k] X (Nat.le_refl _) (by omega) (getD_cells (HC.out X hX))
      change Calls Try.prog 46 _ _ _ at h
      rw [hidx] at h
      exact h
    obtain ⟨R, hR⟩ := ex_eq (oneL c k)
    have HT := hid (turn_two hring hk hle hR)
    have hRl : R.length = c.length := by rw [hR, oneL_len]
    have HRC : Hid (R = c.drop k ++ c.take k) := by show _ = _; rw [hR]; exact oneL_cut hk
    obtain ⟨N, hNe⟩ := ex_eq c.length
    obtain ⟨x, hx⟩ := ex_eq c[k]
    have hcap := hw.1
    have h3 := hring.1
    rw [← hNe] at HU HMIN HIDX hN hRl hcap h3 ⊢
    rw [← hx] at HMIN HIDX
    have hkN : k < N := by omega
    have HNe := hid hNe
    have HX : Hid (∃ h : k < c.length, x = c[k]) := ⟨hk, hx⟩
    have HRl := hid hRl
    obtain ⟨i0, hi, hz0, hz1, hz2⟩ := info_parts Try.info3
    have q0 : decide ((N : Int) < 3) = false := decide_eq_false (by omega)
    have q1 : ¬ (N : Int) < 3 := by omega
    clear hw hI hring h0 hmin hidx hcs hle hR hRl hNe hx
    go_enter Try.func22, Try.ntmps22
    go_wp2_with fail
    refine HU.out.mono ?_
    rintro e w1 ⟨rfl, hb1⟩
    have HM1 := hid (HMIN.out w1 hb1)
    have HI1 := hid (HIDX.out w1 hb1)
    have HB1 := hid hb1
    clear HU HMIN HIDX hb1
    go_upto_region 4 with (first
      | (go_at_call 47; refine HM1.out.mono ?_; rintro e w' ⟨rfl, hw'⟩; rw [hw']; clear hw')
      | (go_at_call 46; refine HI1.out.mono ?_; rintro e w' ⟨rfl, hw'⟩; rw [hw']; clear hw'))
    clear HM1 HI1
    obtain ⟨tk, htk⟩ := ex_eq ((c.take k).map (Value.int .i64))
    have HTL : Hid (tk.length = k * 1) := by
      show _ = _
      have := HNe.out
      rw [htk, List.length_map, List.length_take]; omega
    have HTW : Hid (∀ X, Below w.heap.size w X → ∀ j u, tk[j]? = some u → X.cell? ((⟨g, off, none⟩ : Addr).add j) = some u) := fun X hX j u hj => by
      rw [htk, List.getElem?_map, List.getElem?_take] at hj
      by_cases e : j < k
      · have hjc : j < c.length := by have := HNe.out; omega
        rw [if_pos e, List.getElem?_eq_getElem hjc] at hj
        cases hj
        rw [add_at]
        exact HC.out X hX j hjc
      · rw [if_neg e] at hj; cases hj
    have HON : Hid (∀ u ∈ tk, u.oneCell' = true) := fun u hu => by
      rw [htk] at hu
      obtain ⟨z, _, rfl⟩ := List.mem_map.1 hu
      rfl
    have HXO : Hid (∀ X, Below w.heap.size w X → ∀ j u, [Value.int .i64 x][j]? = some u → X.cell? ((⟨g, off + k, none⟩ : Addr).add j) = some u) := fun X hX j u hj => by
      cases j with
      | zero =>
        simp at hj
        subst hj
        obtain ⟨h, e⟩ := HX.out
        rw [add_at, Nat.add_zero, e]
        exact HC.out X hX k h
      | succ j => simp at hj
    have HTK := hid htk
    have p1 : IntKind.i64.wrap ((k : Int) + 1) = ((k + 1 : Nat) : Int) := by simp [IntKind.wrap, IntKind.bits, IntKind.signed]; omega
    have p2 : (k : Int) ≤ ((k + 1 : Nat) : Int) := by omega
    have p3 : ((k + 1 : Nat) : Int) ≤ (cc : Int) := by omega
    have p4 : ((k + 1 : Nat) : Int) ≤ (N : Int) := by omega
    have p5 : (k : Int) ≤ (cc : Int) := by omega
    have p6 : (0 : Int) ≤ (k : Int) := by omega
    have p7 : ¬ cc = k := by omega
    have r1 : (0 : Int) ≤ (k : Int) + 1 := by omega
    have r2 : (k : Int) + 1 ≤ (cc : Int) := by omega
    have r3 : (k : Int) + 1 ≤ (N : Int) := by omega
    have HBD : Hid (Below w.heap.size w w1.drew) := HB1.out.drew
    clear htk
    by_cases hlast : k + 1 < N
    · have p8 : ¬ cc = k + 1 := by omega
      obtain ⟨nw, hnw⟩ := ex_eq ((c.drop (k + 1)).map (Value.int .i64))
      have HNL : Hid (nw.length = (N - (k + 1)) * 1) := by
        show _ = _
        have := HNe.out
        rw [hnw, List.length_map, List.length_drop]; omega
      have HNW : Hid (∀ j u, nw[j]? = some u → w1.drew.cell? ((⟨g, off + (k + 1), none⟩ : Addr).add j) = some u) := fun j u hj => by
        rw [hnw, List.getElem?_map, List.getElem?_drop] at hj
        by_cases e : k + 1 + j < c.length
        · rw [List.getElem?_eq_getElem e] at hj
          cases hj
          rw [add_at, Nat.add_assoc]
          exact HC.out w1.drew HBD.out (k + 1 + j) e
        · rw [List.getElem?_eq_none (by omega)] at hj; cases hj
      have HOL := hid (HXO.out w1.drew HBD.out)
      have H63 : Hid (1 + (N - (k + 1)) ≤ maxLen) := by show _ ≤ _; unfold maxLen; omega
      have HBY : Hid ((1 + (N - (k + 1))) * 8 ≤ 140737488355328) := by show _ ≤ _; omega
      have HFU : Hid (1 < 1 + (N - (k + 1))) := by show _ < _; omega
      have HNWe := hid hnw
      clear hnw
      go_wp2_with fail
      go_region_law (refine step_append_grows rfl (.tmp 25) (.tmp 29) 25 rfl 3 i0 _ 1 8 Try.underlying25 hi hz0 hz1 hz2 rfl (by decide) ⟨g, off + k, none⟩ 1 1 [.int .i64 x] (by simp [Act.eval, Act.put]) rfl HOL.out ⟨g, off + (k + 1), none⟩ (N - (k + 1)) (cc - (k + 1)) nw (by simp [Act.eval, Act.put]) HNL.out HNW.out HFU.out H63.out HBY.out ?_; intro v2 w2 hown2 hgrow2)
      all_goals
        try simp only [List.getElem_toArray, List.getElem_cons_succ, List.getElem_cons_zero]
        try simp only [Act.put, List.setIfInBounds_toArray, List.set_cons_zero, List.set_cons_succ]
        have hb2 : Below w.heap.size w w2 := Below.grown HBD.out hgrow2 HBD.out.size (fun q hq => by cases hq)
        have hsz2 : w1.heap.size ≤ w2.heap.size := hgrow2.size
        have HOW : Hid (w2.ownsRow w1.heap.size 3 1 v2 (1 + (N - (k + 1))) ([.int .i64 x] ++ nw)) := hown2
        have HT2 := hid (HTW.out w2 hb2)
        have HT3 : Hid (∀ p, some (⟨g, off, none⟩ : Addr) = some p → ∀ j u, tk[j]? = some u → w2.cell? (p.add j) = some u) := fun p hp => by cases hp; exact HT2.out
        have H64 : Hid (1 + (N - (k + 1)) + k ≤ maxLen) := by show _ ≤ _; unfold maxLen; omega
        have HB2 := hid hb2
        have HS2 : Hid (w1.heap.size ≤ w2.heap.size) := hsz2
        have HG2 : Hid (∀ w4, w2.grownBy w4 v2.ownBlock → Below w.heap.size w w4) := fun w4 hg4 => Below.grown HB2.out hg4 HB2.out.size (fun q hq => Nat.le_trans HB1.out.size (HOW.out.lt q hq).1)
        clear hown2 hgrow2 HOL HNW H63 HBY HFU hb2 hsz2
        go_wp2_with (at_builtin; refine wpList_append_any _ rfl _ _ 25 rfl w1.heap.size 3 i0 _ 1 8 Try.underlying25 hi hz0 hz1 hz2 rfl (by decide) _ _ _ rfl HOW.out (some ⟨g, off, none⟩) k cc tk rfl (fun h => by cases h) HTL.out HT3.out HON.out H64.out ?c4 HS2.out ?_)
        case c4 => omega
        intro v3 w3 hown3 hgrow3 _
        have hb3 := HG2.out w3 hgrow3
        obtain ⟨BB, hBBe⟩ := ex_eq w1.heap.size
        have hBB : w.heap.size ≤ BB := by rw [hBBe]; exact HB1.out.size
        have HOWN : Hid (w3.ownsRow BB 3 1 v3 R.length (R.map (Value.int .i64))) := by
          show World.ownsRow _ _ _ _ _ _ _
          obtain ⟨hkc, hxc⟩ := HX.out
          have hl := HRl.out
          rw [hBBe, hl, show N = 1 + (N - (k + 1)) + k by omega, HRC.out, List.map_append, List.drop_eq_getElem_cons hkc, ← hxc, List.map_cons, ← HNWe.out, ← HTK.out]
          exact hown3
        clear hown3 hgrow3 HG2 HS2 HB2 HT3 HT2 HOW H64 hBBe HNWe HNL
        have hR1 : 1 < R.length := by rw [HRl.out]; omega
        obtain ⟨gr, cr, hv3, hrcap, hgr, hgrl, _⟩ := own_holds HOWN.out (by omega)
        subst hv3
        obtain ⟨_, _, hva, hIR⟩ := iat_own HOWN.out
        simp only [Value.slice.injEq, true_and] at hva
        obtain ⟨hva, hcr⟩ := hva
        clear hcr
        subst hva
        obtain ⟨ga, oa, hea, _, hcR⟩ := hIR (by omega)
        simp only [Option.some.injEq, Addr.mk.injEq, and_true] at hea
        obtain ⟨rfl, rfl⟩ := hea
        have d1 := hcR 1 hR1
        have d2 := hcR (R.length - 1) (by omega)
        rw [Nat.zero_add] at d1 d2
        obtain ⟨y1, hy1⟩ := ex_eq (R[1]'hR1)
        obtain ⟨y2, hy2⟩ := ex_eq (R[R.length - 1]'(by omega))
        rw [← hy1] at d1
        rw [← hy2] at d2
        obtain ⟨n1, hn1⟩ : ∃ n1, n1 = N - 1 := ⟨_, rfl⟩
        rw [show R.length - 1 = n1 by rw [HRl.out]; omega] at d2
        have HYY : Hid ((y1 < y2 → TurnIs c R) ∧ (y2 < y1 → TurnIs c (R.headD 0 :: R.tail.reverse)) ∧ y1 ≠ y2) := by
          rw [hy1, hy2]
          exact ⟨HT.out.1 hR1, HT.out.2.1 hR1, HT.out.2.2 hR1⟩
        rw [HRl.out] at hrcap ⊢
        have HBX : Hid (∀ q, Below w.heap.size w (w3.drewN q)) := fun q => below_drewN hb3 q
        have e1 : IntKind.i64.wrap ((N : Int) - 1) = (n1 : Int) := by simp [IntKind.wrap, IntKind.bits, IntKind.signed]; omega
        have e2 : (n1 : Int) < (N : Int) := by omega
        have e3 : (1 : Int) < (N : Int) := by omega
        have e4 : (0 : Int) ≤ (n1 : Int) := by omega
        have hne := HYY.out.2.2
        have HHO : Hid (w3.ownsRow BB 3 1 (.slice (some ⟨gr, 0, none⟩) R.length cr) R.length (R.map (Value.int .i64))) := by
          have := HOWN.out
          rw [HRl.out] at this ⊢
          exact this
        have HR1 : Hid (1 < R.length) := hR1
        clear hy1 hy2 hcR hIR HOWN hR1 HT hn1
        by_cases hlt : y2 < y1
        · have f1 : decide (y2 < y1) = true := decide_eq_true hlt
          have HRV : Hid (∀ q, Calls Try.prog 48 #[.slice (some ⟨gr, 1, none⟩) (N - 1) (cr - 1)] (w3.drewN q) fun e w' => e = .returned (.tuple #[]) ∧ ∃ n, w' = putRow (Value.int .i64) (Sort.ahead (w3.drewN q) n) gr 1 R.tail.reverse.toArray) := fun q => by
            obtain ⟨g', cap', hv, _, _, _, hH⟩ := own_holds HHO.out (by have := HR1.out; omega)
            simp only [Value.slice.injEq, Option.some.injEq, Addr.mk.injEq, and_true, true_and] at hv
            obtain ⟨rfl, _⟩ := hv
            have hl := HRl.out
            have h := Any.slices_Reverse_int Try.reverse gr 1 (cr - 1) R.tail (w3.drewN q) (fun j hj => by
              have hj' : j < R.tail.length := by simpa using hj
              have hj2 : 1 + j < R.toArray.size := by simp at hj' ⊢; omega
              have := hH (1 + j) hj2
              rw [Nat.zero_add] at this
              have e : R.toArray[1 + j]! = R.tail.toArray[j]! := by
                rw [getElem!_pos R.toArray (1 + j) hj2, getElem!_pos R.tail.toArray j hj]
                simp [Nat.add_comm]
              rw [e] at this
              exact this) (by simp; omega)
            change Calls Try.prog 48 _ _ _ at h
            rw [show R.tail.length = N - 1 by simp; omega] at h
            exact h
          have HTT : Hid (∀ q n, TurnTold c w (putRow (Value.int .i64) (Sort.ahead (w3.drewN q) n) gr 1 R.tail.reverse.toArray) (.slice (some ⟨gr, 0, none⟩) N cr)) := fun q n => by
            have := turnTold_rev (w := w) (w3 := w3.drewN q) (q := n) (B := BB) HHO.out (by have := HR1.out; omega) (HYY.out.2.1 hlt) (HBX.out q) hBB
            rw [HRl.out] at this
            exact this
          have f2 : ¬ cr = 1 := by omega
          have f3 : (1 : Int) ≤ (N : Int) := by omega
          clear HYY HHO
          go_wp2_with fail
          go_quiet (fail)
          go_wp2_with fail
          refine (HRV.out _).mono ?_
          rintro e w5 ⟨rfl, n5, hw5⟩
          rw [hw5]
          clear hw5 HRV
          go_wp2
          go_ret
          exact ⟨_, rfl, HTT.out _ n5⟩
        · have f1 : decide (y2 < y1) = false := decide_eq_false hlt
          have HTT : Hid (∀ q, TurnTold c w (w3.drewN q) (.slice (some ⟨gr, 0, none⟩) N cr)) := fun q => by
            have := turnTold_own (w := w) (w' := w3.drewN q) (B := BB) HHO.out (HYY.out.1 (by omega)) (HBX.out q)
            rw [HRl.out] at this
            exact this
          clear HYY HHO
          go_wp2_with fail
          go_quiet (fail)
          go_wp2
          go_ret
          exact ⟨_, rfl, HTT.out _⟩
    · have hkl : N = k + 1 := by omega
      have H63 : Hid (1 + k ≤ maxLen) := by show _ ≤ _; unfold maxLen; omega
      have HOL : Hid (∀ b, some (⟨g, off + k, none⟩ : Addr) = some b → ∀ j u, [Value.int .i64 x][j]? = some u → w1.drew.cell? (b.add j) = some u) := fun b hb => by cases hb; exact HXO.out w1.drew HBD.out
      have HTD := hid (HTW.out w1.drew HBD.out)
      have hk2 : 2 ≤ k := by omega
      have s1 : ((k + 1 : Nat) : Int) = (N : Int) := by omega
      have HG2 : Hid (∀ w4, w1.drew.grownBy w4 none → Below w.heap.size w w4) := fun w4 hg4 => Below.grown HBD.out hg4 HBD.out.size (fun q hq => by cases hq)
      subst hkl
      by_cases hcc : cc = k + 1
      · subst hcc
        go_wp2_with fail
        go_region_law (refine step_append_room rfl (.tmp 25) (.tmp 29) 25 rfl 3 i0 1 Try.underlying25 hi hz1 g (off + k) 1 1 (by simp [Act.eval, Act.put]) ⟨g, off, none⟩ 0 0 [] (by simp [Act.eval, Act.put]) rfl (fun j u h => by simp at h) (fun u h => by cases h) (by omega) (fun j h => by simp at h) ?_)
        all_goals
          try simp only [List.getElem_toArray, List.getElem_cons_succ, List.getElem_cons_zero]
          try simp only [Act.put, List.setIfInBounds_toArray, List.set_cons_zero, List.set_cons_succ]
          try simp only [World.setCells]
          go_wp2_with (at_builtin; refine wpList_append_grows _ rfl _ _ 25 rfl 3 i0 _ 1 8 Try.underlying25 hi hz0 hz1 hz2 rfl (by decide) (some ⟨g, off + k, none⟩) 1 1 [.int .i64 x] rfl (fun h => by cases h) rfl HOL.out ⟨g, off, none⟩ k (k + 1) tk rfl HTL.out HTD.out HON.out (by omega) H63.out ?c4 ?_)
          case c4 => omega
          intro v3 w3 hown3 hgrow3
          have hb3 := HG2.out w3 hgrow3
          obtain ⟨BB, hBBe⟩ := ex_eq w1.heap.size
          have hBB : w.heap.size ≤ BB := by rw [hBBe]; exact HB1.out.size
          obtain ⟨N, hNk⟩ := ex_eq (k + 1)
          have HOWN : Hid (w3.ownsRow BB 3 1 v3 R.length (R.map (Value.int .i64))) := by
            show World.ownsRow _ _ _ _ _ _ _
            obtain ⟨hkc, hxc⟩ := HX.out
            have hl := HRl.out
            have hn := HNe.out
            rw [hBBe, hl, show k + 1 = 1 + k by omega, HRC.out, List.map_append, List.drop_eq_getElem_cons hkc, List.drop_eq_nil_of_le (by omega), ← hxc, List.map_cons, ← HTK.out]
            exact hown3
          clear hown3 hgrow3 HG2 HOL HTD hBBe
          rw [← hNk] at HRl ⊢
          have hkN2 : 3 ≤ N := by omega
          have hN9 : N ≤ 1000000 := by omega
          clear hNk
          have hR1 : 1 < R.length := by rw [HRl.out]; omega
          obtain ⟨gr, cr, hv3, hrcap, hgr, hgrl, _⟩ := own_holds HOWN.out (by omega)
          subst hv3
          obtain ⟨_, _, hva, hIR⟩ := iat_own HOWN.out
          simp only [Value.slice.injEq, true_and] at hva
          obtain ⟨hva, hcr⟩ := hva
          clear hcr
          subst hva
          obtain ⟨ga, oa, hea, _, hcR⟩ := hIR (by omega)
          simp only [Option.some.injEq, Addr.mk.injEq, and_true] at hea
          obtain ⟨rfl, rfl⟩ := hea
          have d1 := hcR 1 hR1
          have d2 := hcR (R.length - 1) (by omega)
          rw [Nat.zero_add] at d1 d2
          obtain ⟨y1, hy1⟩ := ex_eq (R[1]'hR1)
          obtain ⟨y2, hy2⟩ := ex_eq (R[R.length - 1]'(by omega))
          rw [← hy1] at d1
          rw [← hy2] at d2
          obtain ⟨n1, hn1⟩ : ∃ n1, n1 = N - 1 := ⟨_, rfl⟩
          rw [show R.length - 1 = n1 by rw [HRl.out]; omega] at d2
          have HYY : Hid ((y1 < y2 → TurnIs c R) ∧ (y2 < y1 → TurnIs c (R.headD 0 :: R.tail.reverse)) ∧ y1 ≠ y2) := by
            rw [hy1, hy2]
            exact ⟨HT.out.1 hR1, HT.out.2.1 hR1, HT.out.2.2 hR1⟩
          rw [HRl.out] at hrcap ⊢
          have HBX : Hid (∀ q, Below w.heap.size w (w3.drewN q)) := fun q => below_drewN hb3 q
          have e1 : IntKind.i64.wrap ((N : Int) - 1) = (n1 : Int) := by simp [IntKind.wrap, IntKind.bits, IntKind.signed]; omega
          have e2 : (n1 : Int) < (N : Int) := by omega
          have e3 : (1 : Int) < (N : Int) := by omega
          have e4 : (0 : Int) ≤ (n1 : Int) := by omega
          have hne := HYY.out.2.2
          have HHO : Hid (w3.ownsRow BB 3 1 (.slice (some ⟨gr, 0, none⟩) R.length cr) R.length (R.map (Value.int .i64))) := by
            have := HOWN.out
            rw [HRl.out] at this ⊢
            exact this
          have HR1 : Hid (1 < R.length) := hR1
          clear hy1 hy2 hcR hIR HOWN hR1 HT hn1
          by_cases hlt : y2 < y1
          · have f1 : decide (y2 < y1) = true := decide_eq_true hlt
            have HRV : Hid (∀ q, Calls Try.prog 48 #[.slice (some ⟨gr, 1, none⟩) (N - 1) (cr - 1)] (w3.drewN q) fun e w' => e = .returned (.tuple #[]) ∧ ∃ n, w' = putRow (Value.int .i64) (Sort.ahead (w3.drewN q) n) gr 1 R.tail.reverse.toArray) := fun q => by
              obtain ⟨g', cap', hv, _, _, _, hH⟩ := own_holds HHO.out (by have := HR1.out; omega)
              simp only [Value.slice.injEq, Option.some.injEq, Addr.mk.injEq, and_true, true_and] at hv
              obtain ⟨rfl, _⟩ := hv
              have hl := HRl.out
              have h := Any.slices_Reverse_int Try.reverse gr 1 (cr - 1) R.tail (w3.drewN q) (fun j hj => by
                have hj' : j < R.tail.length := by simpa using hj
                have hj2 : 1 + j < R.toArray.size := by simp at hj' ⊢; omega
                have := hH (1 + j) hj2
                rw [Nat.zero_add] at this
                have e : R.toArray[1 + j]! = R.tail.toArray[j]! := by
                  rw [getElem!_pos R.toArray (1 + j) hj2, getElem!_pos R.tail.toArray j hj]
                  simp [Nat.add_comm]
                rw [e] at this
                exact this) (by simp; omega)
              change Calls Try.prog 48 _ _ _ at h
              rw [show R.tail.length = N - 1 by simp; omega] at h
              exact h
            have HTT : Hid (∀ q n, TurnTold c w (putRow (Value.int .i64) (Sort.ahead (w3.drewN q) n) gr 1 R.tail.reverse.toArray) (.slice (some ⟨gr, 0, none⟩) N cr)) := fun q n => by
              have := turnTold_rev (w := w) (w3 := w3.drewN q) (q := n) (B := BB) HHO.out (by have := HR1.out; omega) (HYY.out.2.1 hlt) (HBX.out q) hBB
              rw [HRl.out] at this
              exact this
            have f2 : ¬ cr = 1 := by omega
            have f3 : (1 : Int) ≤ (N : Int) := by omega
            clear HYY HHO
            go_wp2_with fail
            go_quiet (fail)
            go_wp2_with fail
            refine (HRV.out _).mono ?_
            rintro e w5 ⟨rfl, n5, hw5⟩
            rw [hw5]
            clear hw5 HRV
            go_wp2
            go_ret
            exact ⟨_, rfl, HTT.out _ n5⟩
          · have f1 : decide (y2 < y1) = false := decide_eq_false hlt
            have HTT : Hid (∀ q, TurnTold c w (w3.drewN q) (.slice (some ⟨gr, 0, none⟩) N cr)) := fun q => by
              have := turnTold_own (w := w) (w' := w3.drewN q) (B := BB) HHO.out (HYY.out.1 (by omega)) (HBX.out q)
              rw [HRl.out] at this
              exact this
            clear HYY HHO
            go_wp2_with fail
            go_quiet (fail)
            go_wp2
            go_ret
            exact ⟨_, rfl, HTT.out _⟩
      · go_wp2_with fail
        go_region_law (refine step_append_room rfl (.tmp 25) (.tmp 29) 25 rfl 3 i0 1 Try.underlying25 hi hz1 g (off + k) 1 1 (by simp [Act.eval, Act.put]) ⟨g, off + (k + 1), none⟩ 0 (cc - (k + 1)) [] (by simp [Act.eval, Act.put]) rfl (fun j u h => by simp at h) (fun u h => by cases h) (by omega) (fun j h => by simp at h) ?_)
        all_goals
          try simp only [List.getElem_toArray, List.getElem_cons_succ, List.getElem_cons_zero]
          try simp only [Act.put, List.setIfInBounds_toArray, List.set_cons_zero, List.set_cons_succ]
          try simp only [World.setCells]
          go_wp2_with (at_builtin; refine wpList_append_grows _ rfl _ _ 25 rfl 3 i0 _ 1 8 Try.underlying25 hi hz0 hz1 hz2 rfl (by decide) (some ⟨g, off + k, none⟩) 1 1 [.int .i64 x] rfl (fun h => by cases h) rfl HOL.out ⟨g, off, none⟩ k cc tk rfl HTL.out HTD.out HON.out (by omega) H63.out ?c4 ?_)
          case c4 => omega
          intro v3 w3 hown3 hgrow3
          have hb3 := HG2.out w3 hgrow3
          obtain ⟨BB, hBBe⟩ := ex_eq w1.heap.size
          have hBB : w.heap.size ≤ BB := by rw [hBBe]; exact HB1.out.size
          obtain ⟨N, hNk⟩ := ex_eq (k + 1)
          have HOWN : Hid (w3.ownsRow BB 3 1 v3 R.length (R.map (Value.int .i64))) := by
            show World.ownsRow _ _ _ _ _ _ _
            obtain ⟨hkc, hxc⟩ := HX.out
            have hl := HRl.out
            have hn := HNe.out
            rw [hBBe, hl, show k + 1 = 1 + k by omega, HRC.out, List.map_append, List.drop_eq_getElem_cons hkc, List.drop_eq_nil_of_le (by omega), ← hxc, List.map_cons, ← HTK.out]
            exact hown3
          clear hown3 hgrow3 HG2 HOL HTD hBBe
          rw [← hNk] at HRl ⊢
          have hkN2 : 3 ≤ N := by omega
          have hN9 : N ≤ 1000000 := by omega
          clear hNk
          have hR1 : 1 < R.length := by rw [HRl.out]; omega
          obtain ⟨gr, cr, hv3, hrcap, hgr, hgrl, _⟩ := own_holds HOWN.out (by omega)
          subst hv3
          obtain ⟨_, _, hva, hIR⟩ := iat_own HOWN.out
          simp only [Value.slice.injEq, true_and] at hva
          obtain ⟨hva, hcr⟩ := hva
          clear hcr
          subst hva
          obtain ⟨ga, oa, hea, _, hcR⟩ := hIR (by omega)
          simp only [Option.some.injEq, Addr.mk.injEq, and_true] at hea
          obtain ⟨rfl, rfl⟩ := hea
          have d1 := hcR 1 hR1
          have d2 := hcR (R.length - 1) (by omega)
          rw [Nat.zero_add] at d1 d2
          obtain ⟨y1, hy1⟩ := ex_eq (R[1]'hR1)
          obtain ⟨y2, hy2⟩ := ex_eq (R[R.length - 1]'(by omega))
          rw [← hy1] at d1
          rw [← hy2] at d2
          obtain ⟨n1, hn1⟩ : ∃ n1, n1 = N - 1 := ⟨_, rfl⟩
          rw [show R.length - 1 = n1 by rw [HRl.out]; omega] at d2
          have HYY : Hid ((y1 < y2 → TurnIs c R) ∧ (y2 < y1 → TurnIs c (R.headD 0 :: R.tail.reverse)) ∧ y1 ≠ y2) := by
            rw [hy1, hy2]
            exact ⟨HT.out.1 hR1, HT.out.2.1 hR1, HT.out.2.2 hR1⟩
          rw [HRl.out] at hrcap ⊢
          have HBX : Hid (∀ q, Below w.heap.size w (w3.drewN q)) := fun q => below_drewN hb3 q
          have e1 : IntKind.i64.wrap ((N : Int) - 1) = (n1 : Int) := by simp [IntKind.wrap, IntKind.bits, IntKind.signed]; omega
          have e2 : (n1 : Int) < (N : Int) := by omega
          have e3 : (1 : Int) < (N : Int) := by omega
          have e4 : (0 : Int) ≤ (n1 : Int) := by omega
          have hne := HYY.out.2.2
          have HHO : Hid (w3.ownsRow BB 3 1 (.slice (some ⟨gr, 0, none⟩) R.length cr) R.length (R.map (Value.int .i64))) := by
            have := HOWN.out
            rw [HRl.out] at this ⊢
            exact this
          have HR1 : Hid (1 < R.length) := hR1
          clear hy1 hy2 hcR hIR HOWN hR1 HT hn1
          by_cases hlt : y2 < y1
          · have f1 : decide (y2 < y1) = true := decide_eq_true hlt
            have HRV : Hid (∀ q, Calls Try.prog 48 #[.slice (some ⟨gr, 1, none⟩) (N - 1) (cr - 1)] (w3.drewN q) fun e w' => e = .returned (.tuple #[]) ∧ ∃ n, w' = putRow (Value.int .i64) (Sort.ahead (w3.drewN q) n) gr 1 R.tail.reverse.toArray) := fun q => by
              obtain ⟨g', cap', hv, _, _, _, hH⟩ := own_holds HHO.out (by have := HR1.out; omega)
              simp only [Value.slice.injEq, Option.some.injEq, Addr.mk.injEq, and_true, true_and] at hv
              obtain ⟨rfl, _⟩ := hv
              have hl := HRl.out
              have h := Any.slices_Reverse_int Try.reverse gr 1 (cr - 1) R.tail (w3.drewN q) (fun j hj => by
                have hj' : j < R.tail.length := by simpa using hj
                have hj2 : 1 + j < R.toArray.size := by simp at hj' ⊢; omega
                have := hH (1 + j) hj2
                rw [Nat.zero_add] at this
                have e : R.toArray[1 + j]! = R.tail.toArray[j]! := by
                  rw [getElem!_pos R.toArray (1 + j) hj2, getElem!_pos R.tail.toArray j hj]
                  simp [Nat.add_comm]
                rw [e] at this
                exact this) (by simp; omega)
              change Calls Try.prog 48 _ _ _ at h
              rw [show R.tail.length = N - 1 by simp; omega] at h
              exact h
            have HTT : Hid (∀ q n, TurnTold c w (putRow (Value.int .i64) (Sort.ahead (w3.drewN q) n) gr 1 R.tail.reverse.toArray) (.slice (some ⟨gr, 0, none⟩) N cr)) := fun q n => by
              have := turnTold_rev (w := w) (w3 := w3.drewN q) (q := n) (B := BB) HHO.out (by have := HR1.out; omega) (HYY.out.2.1 hlt) (HBX.out q) hBB
              rw [HRl.out] at this
              exact this
            have f2 : ¬ cr = 1 := by omega
            have f3 : (1 : Int) ≤ (N : Int) := by omega
            clear HYY HHO
            go_wp2_with fail
            go_quiet (fail)
            go_wp2_with fail
            refine (HRV.out _).mono ?_
            rintro e w5 ⟨rfl, n5, hw5⟩
            rw [hw5]
            clear hw5 HRV
            go_wp2
            go_ret
            exact ⟨_, rfl, HTT.out _ n5⟩
          · have f1 : decide (y2 < y1) = false := decide_eq_false hlt
            have HTT : Hid (∀ q, TurnTold c w (w3.drewN q) (.slice (some ⟨gr, 0, none⟩) N cr)) := fun q => by
              have := turnTold_own (w := w) (w' := w3.drewN q) (B := BB) HHO.out (HYY.out.1 (by omega)) (HBX.out q)
              rw [HRl.out] at this
              exact this
            clear HYY HHO
            go_wp2_with fail
            go_quiet (fail)
            go_wp2
            go_ret
            exact ⟨_, rfl, HTT.out _⟩
  · by_cases h3 : 3 ≤ c.length
    · have hnd : ¬ c.Nodup := fun h => hring ⟨h3, h⟩
      have HU := hid (unl_any ca cc c false w hN (by omega) hI ⟨(fun h => by cases h), fun h => absurd h hnd⟩)
      have HCL : Hid (∀ X, Below w.heap.size w X → Calls Try.prog 45 #[.slice ca c.length cc] X fun e w' => ∃ v, e = .returned v ∧ TurnTold c X w' v) := fun X hX => cloneI_any ca cc c X hN hw (hI.below hX) hring
      obtain ⟨N, hNe⟩ := ex_eq c.length
      rw [← hNe] at HU HCL h3 ⊢
      have q0 : decide ((N : Int) < 3) = false := decide_eq_false (by omega)
      have q1 : ¬ (N : Int) < 3 := by omega
      clear hw hI hring hnd hN hNe
      go_enter Try.func22, Try.ntmps22
      go_wp2_with fail
      refine HU.out.mono ?_
      rintro e w1 ⟨rfl, hb1⟩
      have HB1 := hid hb1
      have HC1 := hid (HCL.out w1 hb1)
      clear HU HCL hb1
      go_wp2_with fail
      refine HC1.out.mono ?_
      rintro e w2 ⟨v, rfl, ht⟩
      have HTT := hid (ht.on HB1.out)
      clear ht HC1
      go_wp2
      go_ret
      exact ⟨v, rfl, HTT.out⟩
    · have HCL := hid (cloneI_any ca cc c w hN hw hI hring)
      obtain ⟨N, hNe⟩ := ex_eq c.length
      rw [← hNe] at HCL h3 ⊢
      have q0 : decide ((N : Int) < 3) = true := decide_eq_true (by omega)
      have q1 : (N : Int) < 3 := by omega
      clear hw hI hring hN hNe
      go_enter Try.func22, Try.ntmps22
      go_wp2_with fail
      refine HCL.out.mono ?_
      rintro e w2 ⟨v, rfl, ht⟩
      have HTT := hid ht
      clear ht HCL
      go_wp2
      go_ret
      exact ⟨v, rfl, HTT.out⟩
end Go.Proofs.Ytccbheijfnodjaa
