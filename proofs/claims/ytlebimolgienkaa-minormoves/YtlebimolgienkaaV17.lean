/-
  The document's Drop (H3, layer 8).
  Rows that may be written: the headers in one block, each row in a block of its own (layer 8).
-/
import Derived.Test.YtlebimolgienkaaV12
import Derived.Test.YtlebimolgienkaaV13
namespace Go.Proofs.Ytlebimolgienkaa
open Go.RowKit Go.Lib Go.Shelf

/-- A number, as the document drops it. -/
def dropF (v x : Int) : Int := if v < 0 then x else upI v x
theorem dropL_F (v : Int) (Ss : List (List Int)) : dropL v Ss = Ss.map (List.map (dropF v)) := by
  unfold dropL
  by_cases h : v < 0
  · rw [if_pos h]
    have e : dropF v = fun x => x := by funext x; unfold dropF; rw [if_pos h]
    rw [e]
    simp
  · rw [if_neg h]
    have e : dropF v = upI v := by funext x; unfold dropF; rw [if_neg h]
    rw [e]
theorem below_oneR (W : World) (o : Obj) : Below W.heap.size W (W.alloc o) := (Below.refl _ _).alloc (Nat.le_refl _) o
set_option maxHeartbeats 16000000 in
set_option maxRecDepth 100000 in
theorem rdrop_any (k : Int) (sa : Option Addr) (sc : Nat) (Ss : List (List Int)) (v : Int) (w : World) (hS : Ss.length ≤ 1000) (hSl : ∀ S ∈ Ss, S.length ≤ 1000) (hL : LLAt w sa Ss) (hx : ∀ S ∈ Ss, InR S) :
    Calls Try.prog 26 #[.agg #[.int .i64 k, .slice sa Ss.length sc], .int .i64 v] w fun e w' => ∃ u, e = .returned u ∧ SmallTold k (dropL v Ss) w w' u := by
  obtain ⟨i0, hi0, hz0, hz1, hz2⟩ := info_parts Try.info3
  obtain ⟨i1, hj1, hy0, hy1, hy2⟩ := info_parts Try.info28
  obtain ⟨N, hNe⟩ := ex_eq Ss.length
  obtain ⟨b0, hb0⟩ := ex_eq w.heap.size
  obtain ⟨W, hW, hsW, hO0, hO1, hO2, hbW⟩ := new_threeM w (.cells #[.int .i64 k, .slice sa N sc] 39) (.cells #[.int .i64 0, .slice none 0 0] 39) (.cells #[.int .i64 k, .slice none 0 0] 39)
  rw [← hb0] at hsW hO0 hO1 hO2 hbW
  have HB0 := hid hb0
  have HL := hid hL
  have HN := hid hNe
  have HSL := hid hSl
  have HXR := hid hx
  have HW := hid hW
  have HBX : Hid (∀ X, Below (b0 + 2) W X → X.cell? ⟨b0, 0, none⟩ = some (.int .i64 k) ∧ X.cell? ⟨b0, 1, none⟩ = some (.slice sa N sc) ∧ X.heap[b0 + 1]? = some (.cells #[.int .i64 0, .slice none 0 0] 39 (0, 0)) ∧ Below b0 w X) := fun X hX => by
    have o0 := (hX.block b0 (by omega)).trans hO0
    have o1 := (hX.block (b0 + 1) (by omega)).trans hO1
    exact ⟨cell_of_heap o0 0, cell_of_heap o0 1, o1, hbW.trans (hX.mono (by omega))⟩
  have HST : Hid (∃ u us, SmSt W W b0 k u us ((Ss.take 0).map (List.map (dropF v)))) := ⟨.slice none 0 0, [], cell_of_heap hO2 0, cell_of_heap hO2 1, frozen_of_heap hO2 1, llown_none _ _ _, (fun k hk => by simp at hk), Below.refl _ _, by omega⟩
  rw [← hNe] at hS ⊢
  rw [dropL_F]
  obtain ⟨Ts, hTs⟩ := ex_eq (Ss.map (List.map (dropF v)))
  rw [← hTs]
  have HTS := hid hTs
  clear hNe hL hSl hx hb0 hbW hO0 hO1 hO2 hW hTs
  obtain ⟨x0, x1, _, _⟩ := HBX.out W (Below.refl _ _)
  go_enter Try.func26, Try.ntmps26
  go_upto_region 2 with fail
  rw [← HB0.out]
  rw [← HW.out]
  go_wp2
  clear x0 x1
  go_loopg [6] N (fun G i wz => ∃ t : Nat, t ≤ N ∧ N - t ≤ G ∧ i = .int .i64 t ∧ Hid (∃ u us, SmSt W wz b0 k u us ((Ss.take t).map (List.map (dropF v)))))
  case atStart => exact ⟨0, Nat.zero_le _, by omega, rfl, HST⟩
  case round =>
    clear HST
    obtain ⟨t, ht, hG, rfl, hst⟩ := hrel
    obtain ⟨u5, us, hSt⟩ := hst.out
    obtain ⟨x0, x1, ho1, hbz⟩ := HBX.out wr hSt.kp
    by_cases hlt : t < N
    · have htr : t < Ss.length := by rw [← HN.out]; exact hlt
      obtain ⟨g, off, ak, ck, rfl, c00, hI0⟩ := HL.out.at htr
      have hSR : Ss[t].length ≤ 1000 := HSL.out _ (List.getElem_mem htr)
      have hXX := HXR.out _ (List.getElem_mem htr)
      obtain ⟨S, hSe⟩ := ex_eq Ss[t]
      obtain ⟨R, hR⟩ := ex_eq S.length
      rw [← hSe] at c00 hI0 hSR hXX
      rw [← hR] at c00 hSR
      have HXS := hid hXX
      have HR := hid hR
      obtain ⟨D, hD⟩ := ex_eq wr.heap.size
      obtain ⟨W1, hW1⟩ := ex_eq (wr.alloc (.cells #[] 3))
      have hsz := hSt.sz
      have HOW0 : Hid (W1.ownsRow D 3 1 (.slice (some ⟨D, 0, none⟩) 0 0) 0 (((S.take 0).map (dropF v)).map (Value.int .i64)) ∧ Below D wr W1) := by
        show _ ∧ _
        rw [hW1, hD]; exact ⟨own_emptyI (w := wr) _ rfl, below_oneR _ _⟩
      have hct : ((Ss.take t).map (List.map (dropF v))).length = t := by rw [List.length_map, List.length_take]; omega
      have HCELL : Hid (∀ X, Below D wr X → X.cell? ⟨b0, 1, none⟩ = some (.slice (some ⟨g, off, none⟩) N sc) ∧ X.cell? ⟨g, off + t, none⟩ = some (.slice ak R ck) ∧ IAt X ak S ∧ X.cell? ⟨b0 + 2, 1, none⟩ = some u5) := fun X hX => by
        obtain ⟨_, z1, _, z3⟩ := HBX.out X (hSt.kp.trans (hX.mono (by omega)))
        rw [hD] at hX
        exact ⟨z1, (z3.cell (p := ⟨g, off + t, none⟩) (by rw [HB0.out]; exact block_lt_of_cell c00)).trans c00, hI0.below (by rw [← HB0.out]; exact z3), (hX.cell (p := ⟨b0 + 2, 1, none⟩) (by simp only; omega)).trans hSt.c1⟩
      have HNXT : Hid ((Ss.take (t + 1)).map (List.map (dropF v)) = (Ss.take t).map (List.map (dropF v)) ++ [S.map (dropF v)]) := by
        show _ = _
        rw [hSe, ← List.take_append_getElem htr, List.map_append]; rfl
      have hDb : b0 + 3 ≤ D := by omega
      have HPUT : Hid (∀ X va vc, Below D wr X → X.ownsRow D 3 1 (.slice va R vc) R ((S.map (dropF v)).map (Value.int .i64)) → (X.alloc (.cells #[.slice va R vc] 28)).ownsRow (b0 + 3) 28 1 u5 t us ∧ ∀ v6 w6, w6.ownsRow (b0 + 3) 28 1 v6 (t + 1) (us ++ [.slice va R vc]) → (X.alloc (.cells #[.slice va R vc] 28)).grownBy w6 u5.ownBlock → (v6.ownBlock = u5.ownBlock ∨ v6.ownBlock = some (X.alloc (.cells #[.slice va R vc] 28)).heap.size) → (w6.cell? ⟨b0 + 2, 1, none⟩ = some u5 ∧ w6.frozen? ⟨b0 + 2, 1, none⟩ = false) ∧ ∃ us', SmSt W (w6.setCell ⟨b0 + 2, 1, none⟩ v6) b0 k v6 us' ((Ss.take (t + 1)).map (List.map (dropF v)))) := fun X va vc hX ho => by
        have hl : R = (S.map (dropF v)).length := by rw [List.length_map, hR]
        rw [hD] at hX ho
        have h1 := (hSt.ll.below hX).1
        rw [hct] at h1
        refine ⟨h1.alloc _, fun v6 w6 g1 g2 g3 => ?_⟩
        rw [hl] at ho g1 g2 g3
        obtain ⟨r1, _, r3⟩ := hSt.put (L := S.map (dropF v)) hX ho (by rw [hct]; exact g1) g2 g3
        exact ⟨r1, _, by rw [HNXT.out]; exact r3⟩
      obtain ⟨wo, hwo⟩ := ex_eq wr
      have HW1 := hid hW1
      have HDD := hid hD
      have q1 : (t : Int) < (N : Int) := by omega
      have q2 : (0 : Int) ≤ (t : Int) := by omega
      have htN : t ≤ 1000 := by omega
      clear hst hSt hSe hR hD hW1 c00 hI0 hbz ho1 x0 hXX
      go_wp2
      rw [← HW1.out, ← HDD.out]
      clear HW1 x1
      subst hwo
      go_loopg [7, 8] R (fun G v7 i wz => ∃ j : Nat, j ≤ R ∧ R - j ≤ G ∧ i = .int .i64 j ∧ Hid (wz.ownsRow D 3 1 v7 j (((S.take j).map (dropF v)).map (Value.int .i64)) ∧ Below D wo wz))
      case atStart => exact ⟨0, Nat.zero_le _, by omega, rfl, HOW0⟩
      case round =>
        clear HOW0
        obtain ⟨j, hj, hGj, rfl, hown⟩ := hrel
        obtain ⟨va, vc, rfl, _⟩ := sl_own hown.out.1
        obtain ⟨x1, c0, hI, _⟩ := HCELL.out wr hown.out.2
        by_cases hlt2 : j < R
        · have hjr : j < S.length := by rw [← HR.out]; exact hlt2
          obtain ⟨gk, ok, rfl, hgk, hcs⟩ := hI (by omega)
          have d0 := hcs j hjr
          have hxb := HXS.out _ (List.getElem_mem hjr)
          obtain ⟨x, hx⟩ := ex_eq S[j]
          rw [← hx] at d0 hxb
          obtain ⟨y, hy⟩ := ex_eq (dropF v x)
          obtain ⟨xs0, hxs0⟩ := ex_eq (((S.take j).map (dropF v)).map (Value.int .i64))
          have hown1 := hown.out.1
          rw [← hxs0] at hown1
          have HNX : Hid (((S.take (j + 1)).map (dropF v)).map (Value.int .i64) = xs0 ++ [.int .i64 y]) := by
            show _ = _
            rw [hxs0, ← List.take_append_getElem hjr, List.map_append, List.map_append, ← hx, hy]; rfl
          have HOW : Hid ((wr.alloc (.cells #[.int .i64 y] 3)).ownsRow D 3 1 (.slice va j vc) j xs0) := hown1.alloc _
          have HNW : Hid (∀ p', some (⟨wr.heap.size, 0, none⟩ : Addr) = some p' → ∀ r u, [Value.int .i64 y][r]? = some u → (wr.alloc (.cells #[.int .i64 y] 3)).cell? (p'.add r) = some u) := news_one _
          have HON : Hid (∀ v' ∈ [Value.int .i64 y], v'.oneCell' = true) := fun v' hv => by simp at hv; rw [hv]; rfl
          have H63 : Hid (j + 1 ≤ maxLen) := by show _ ≤ _; unfold maxLen; omega
          have HBY : Hid ((j + 1) * 8 ≤ 140737488355328) := by show _ ≤ _; omega
          have hszr := hown.out.2.size
          have hDw : D ≤ wr.heap.size := Nat.le_trans (Nat.le_of_eq HDD.out) hszr
          have HBS : Hid (D ≤ (wr.alloc (.cells #[.int .i64 y] 3)).heap.size) := by show D ≤ _; simp; omega
          have HBR := hid hown.out.2
          have q3 : (j : Int) < (R : Int) := by omega
          have q4 : (0 : Int) ≤ (j : Int) := by omega
          have hway : (v < 0 ∧ y = x) ∨ (¬ v < 0 ∧ x < v ∧ y = x) ∨ (¬ v < 0 ∧ ¬ x < v ∧ y = x + 1) := by
            rw [hy]; unfold dropF upI
            by_cases h1 : v < 0
            · exact Or.inl ⟨h1, if_pos h1⟩
            · by_cases h2 : x < v
              · exact Or.inr (Or.inl ⟨h1, h2, by rw [if_neg h1, if_pos h2]⟩)
              · exact Or.inr (Or.inr ⟨h1, h2, by rw [if_neg h1, if_neg h2]⟩)
          clear hcs hx hy hxs0 hown hown1 hgk hszr
          rcases hway with ⟨v1, rfl⟩ | ⟨v1, v2, rfl⟩ | ⟨v1, v2, rfl⟩
          · have e1 : decide (v ≥ 0) = false := decide_eq_false (by omega)
            have e2 : decide (0 ≤ v) = false := decide_eq_false (by omega)
            go_wp2_with (at_builtin; refine wpList_append_any _ rfl _ _ 28 rfl D 3 i0 _ 1 8 Try.underlying28 hi0 hz0 hz1 hz2 rfl (by decide) _ _ _ rfl HOW.out (some ⟨wr.heap.size, 0, none⟩) 1 1 [.int .i64 y] rfl (fun h => by cases h) rfl HNW.out HON.out H63.out HBY.out HBS.out ?_)
            intro v4 w4 hown4 hgrow4 hat4
            have HO4 : Hid (w4.ownsRow D 3 1 v4 (j + 1) (((S.take (j + 1)).map (dropF v)).map (Value.int .i64)) ∧ Below D wo w4) := by
              refine ⟨by rw [HNX.out]; exact hown4, (HBR.out.alloc hDw _).grown hgrow4 HBS.out (fun q hq => (HOW.out.lt q hq).1)⟩
            clear hown4 hgrow4 hat4 HNX HOW HNW HON H63 HBY HBS HBR d0 c0 x1
            go_wp2
            go_roundg (R - (j + 1))
            case measure => omega
            case rel => exact ⟨j + 1, by omega, Nat.le_refl _, by go_num, HO4⟩
          · have e1 : decide (v ≥ 0) = true := decide_eq_true (by omega)
            have e2 : decide (0 ≤ v) = true := decide_eq_true (by omega)
            have e3 : decide (y ≥ v) = false := decide_eq_false (by omega)
            have e4 : decide (v ≤ y) = false := decide_eq_false (by omega)
            go_wp2_with (at_builtin; refine wpList_append_any _ rfl _ _ 28 rfl D 3 i0 _ 1 8 Try.underlying28 hi0 hz0 hz1 hz2 rfl (by decide) _ _ _ rfl HOW.out (some ⟨wr.heap.size, 0, none⟩) 1 1 [.int .i64 y] rfl (fun h => by cases h) rfl HNW.out HON.out H63.out HBY.out HBS.out ?_)
            intro v4 w4 hown4 hgrow4 hat4
            have HO4 : Hid (w4.ownsRow D 3 1 v4 (j + 1) (((S.take (j + 1)).map (dropF v)).map (Value.int .i64)) ∧ Below D wo w4) := by
              refine ⟨by rw [HNX.out]; exact hown4, (HBR.out.alloc hDw _).grown hgrow4 HBS.out (fun q hq => (HOW.out.lt q hq).1)⟩
            clear hown4 hgrow4 hat4 HNX HOW HNW HON H63 HBY HBS HBR d0 c0 x1
            go_wp2
            go_roundg (R - (j + 1))
            case measure => omega
            case rel => exact ⟨j + 1, by omega, Nat.le_refl _, by go_num, HO4⟩
          · have e1 : decide (v ≥ 0) = true := decide_eq_true (by omega)
            have e2 : decide (0 ≤ v) = true := decide_eq_true (by omega)
            have e3 : decide (x ≥ v) = true := decide_eq_true (by omega)
            have e4 : decide (v ≤ x) = true := decide_eq_true (by omega)
            have q6 : IntKind.i64.wrap (x + 1) = x + 1 := by rw [IntKind.wrap_i64]; omega
            go_wp2_with (at_builtin; refine wpList_append_any _ rfl _ _ 28 rfl D 3 i0 _ 1 8 Try.underlying28 hi0 hz0 hz1 hz2 rfl (by decide) _ _ _ rfl HOW.out (some ⟨wr.heap.size, 0, none⟩) 1 1 [.int .i64 (x + 1)] rfl (fun h => by cases h) rfl HNW.out HON.out H63.out HBY.out HBS.out ?_)
            intro v4 w4 hown4 hgrow4 hat4
            have HO4 : Hid (w4.ownsRow D 3 1 v4 (j + 1) (((S.take (j + 1)).map (dropF v)).map (Value.int .i64)) ∧ Below D wo w4) := by
              refine ⟨by rw [HNX.out]; exact hown4, (HBR.out.alloc hDw _).grown hgrow4 HBS.out (fun q hq => (HOW.out.lt q hq).1)⟩
            clear hown4 hgrow4 hat4 HNX HOW HNW HON H63 HBY HBS HBR d0 c0 x1
            go_wp2
            go_roundg (R - (j + 1))
            case measure => omega
            case rel => exact ⟨j + 1, by omega, Nat.le_refl _, by go_num, HO4⟩
        · obtain rfl : j = R := by omega
          have htk : S.take j = S := by rw [HR.out, List.take_length]
          obtain ⟨hown1, hbr⟩ := hown.out
          rw [htk] at hown1
          obtain ⟨_, _, _, k1⟩ := HCELL.out wr hbr
          obtain ⟨hOW2, hNEXT⟩ := HPUT.out wr va vc hbr hown1
          have HOW2 := hid hOW2
          have HNEXT := hid hNEXT
          have HNW2 : Hid (∀ p', some (⟨wr.heap.size, 0, none⟩ : Addr) = some p' → ∀ r u, [Value.slice va j vc][r]? = some u → (wr.alloc (.cells #[.slice va j vc] 28)).cell? (p'.add r) = some u) := news_one _
          have HON2 : Hid (∀ v' ∈ [Value.slice va j vc], v'.oneCell' = true) := fun v' hv => by simp at hv; rw [hv]; rfl
          have H632 : Hid (t + 1 ≤ maxLen) := by show _ ≤ _; unfold maxLen; omega
          have HBY2 : Hid ((t + 1) * 24 ≤ 140737488355328) := by show _ ≤ _; omega
          have HBS2 : Hid (b0 + 3 ≤ (wr.alloc (.cells #[.slice va j vc] 28)).heap.size) := by
            have h1 := hbr.size
            have h2 := HDD.out
            show b0 + 3 ≤ _; simp; omega
          clear hown hown1 hbr htk hI hOW2 hNEXT
          go_wp2_with (at_builtin; refine wpList_append_any _ rfl _ _ 29 rfl (b0 + 3) 28 i1 _ 1 24 Try.underlying29 hj1 hy0 hy1 hy2 rfl (by decide) _ _ _ rfl HOW2.out (some ⟨wr.heap.size, 0, none⟩) 1 1 [.slice va j vc] rfl (fun h => by cases h) rfl HNW2.out HON2.out H632.out HBY2.out HBS2.out ?_)
          intro v6 w6 hown6 hgrow6 hat6
          obtain ⟨va6, vc6, rfl, _⟩ := sl_own hown6
          obtain ⟨⟨k2, k3⟩, us6, hst6⟩ := HNEXT.out _ w6 hown6 hgrow6 (hat6.imp id (fun h => by rw [World.size_alloc]; exact h))
          have HS6 : Hid (∃ u us, SmSt W (w6.setCell ⟨b0 + 2, 1, none⟩ (.slice va6 (t + 1) vc6)) b0 k u us ((Ss.take (t + 1)).map (List.map (dropF v)))) := ⟨_, _, hst6⟩
          clear hown6 hgrow6 hat6 hst6 HNEXT HOW2 HNW2 HON2 HBS2 H632 HBY2 HPUT HCELL k1 c0 x1
          go_wp2
          go_roundg (N - (t + 1))
          case measure => omega
          case rel => exact ⟨t + 1, by omega, Nat.le_refl _, by go_num, HS6⟩
    · obtain rfl : t = N := by omega
      have et : (Ss.take t).map (List.map (dropF v)) = Ss.map (List.map (dropF v)) := by rw [HN.out, List.take_length]
      rw [et, ← HTS.out] at hSt
      obtain ⟨av, cv, hv, _, _⟩ := hSt.ll.at
      subst hv
      have d0 := hSt.c0
      have d1 := hSt.c1
      have z0 := cell_of_heap ho1 0
      have z1 := cell_of_heap ho1 1
      have zf0 := frozen_of_heap ho1 0
      have zf1 := frozen_of_heap ho1 1
      obtain ⟨M, hM⟩ := ex_eq Ts.length
      have HFI : Hid (SmallTold k Ts w ((wr.setCell ⟨b0 + 1, 0, none⟩ (.int .i64 k)).setCell ⟨b0 + 1, 1, none⟩ (.slice av M cv)) (.agg #[.int .i64 k, .slice av M cv])) := by
        rw [hM]
        have hkk : KeptBut (fun q => q = b0 + 1) wr ((wr.setCell ⟨b0 + 1, 0, none⟩ (.int .i64 k)).setCell ⟨b0 + 1, 1, none⟩ (.slice av Ts.length cv)) := (kept_set wr ⟨b0 + 1, 0, none⟩ _).trans (kept_set _ ⟨b0 + 1, 1, none⟩ _)
        refine ⟨av, cv, us, rfl, ?_, ?_, ?_⟩
        · rw [← HB0.out]; exact (hSt.ll.kept hkk (fun q hq _ e => by omega)).lower (by omega)
        · rw [← HB0.out]; exact (hSt.rw.kept hkk (fun q hq _ e => by omega)).lower (by omega)
        · rw [← HB0.out]
          exact (hbz.setCell (p := ⟨b0 + 1, 0, none⟩) (by simp) _).setCell (p := ⟨b0 + 1, 1, none⟩) (by simp) _
      rw [← hM] at d1
      clear hst hSt ho1 hM hbz x0 et
      go_wp2
      refine bodyPost_ret (v := .agg #[.int .i64 k, .slice av M cv]) ?_ rfl ⟨_, rfl, HFI.out⟩
      rw [results_cell1 rfl]
      go_simp
end Go.Proofs.Ytlebimolgienkaa
namespace Go.Proofs.Ytlebimolgienkaa
open Go.RowKit Go.Lib Go.Shelf

/-- A list of rows that may be written. -/
structure RW (w : World) (base : Nat) (v : Value) (us : List Value) (LL : List (List Int)) : Prop where
  own : w.ownsRow base 28 1 v LL.length us
  len : us.length = LL.length
  rows : RowsW w base v us LL
theorem SmallTold.rw8 {k : Int} {Ts : List (List Int)} {w w' : World} {v : Value} (h : SmallTold k Ts w w' v) : ∃ a' c' us, v = .agg #[.int .i64 k, .slice a' Ts.length c'] ∧ RW w' w.heap.size (.slice a' Ts.length c') us Ts ∧ Below w.heap.size w w' := by
  obtain ⟨a', c', us, hv, hl, hr, hb⟩ := h
  exact ⟨a', c', us, hv, ⟨hl.1, hl.2.1, hr⟩, hb⟩
theorem RW.kept {S : Nat → Prop} {w w' : World} {base : Nat} {v : Value} {us : List Value} {LL : List (List Int)} (h : RW w base v us LL) (hk : KeptBut S w w') (hs : ∀ q, base ≤ q → q < w.heap.size → ¬ S q) : RW w' base v us LL :=
  ⟨own_kept h.own hk (fun q hq => hs q (h.own.lt q hq).1 (h.own.lt q hq).2), h.len, h.rows.kept hk hs⟩
theorem RW.below {w w' : World} {base : Nat} {v : Value} {us : List Value} {LL : List (List Int)} (h : RW w base v us LL) (hb : Below w.heap.size w w') : RW w' base v us LL := h.kept (KeptBut.of_whole (fun _ => False) hb) (fun _ _ _ e => e)
/-- Two rows do not lie in one block. -/
theorem RW.ne {w : World} {base : Nat} {v : Value} {us : List Value} {LL : List (List Int)} (h : RW w base v us LL) {i k : Nat} (hi : i < LL.length) (hk : k < LL.length) (hne : i ≠ k) {ui uk : Value} (h1 : us[i]? = some ui) (h2 : us[k]? = some uk) {q : Nat} (hq : ui.ownBlock = some q) : uk.ownBlock ≠ some q := by
  rcases Nat.lt_or_gt_of_ne hne with hlt | hlt
  · intro e
    obtain ⟨ak, ck, g1, _, g3⟩ := h.rows k hk
    rw [h2] at g1
    cases g1
    exact (g3 q e).2 i hlt ui h1 hq
  · obtain ⟨ai, ci, g1, _, g3⟩ := h.rows i hi
    rw [h1] at g1
    cases g1
    exact (g3 q hq).2 k hlt uk h2
theorem RW.lls {w : World} {base : Nat} {a : Option Addr} {c : Nat} {us : List Value} {LL : List (List Int)} (h : RW w base (.slice a LL.length c) us LL) : LLS w a LL := fun h0 => by
  obtain ⟨g, cap', hv', _, hg, _, hcs⟩ := own_row h.own h0
  simp only [Value.slice.injEq, true_and] at hv'
  refine ⟨g, 0, hv'.1, hg, fun j hj => ?_⟩
  obtain ⟨ak, ck, h1, h2, _⟩ := h.rows j hj
  obtain ⟨a3, c3, e3, hs3⟩ := sl_own h2
  simp only [Value.slice.injEq, true_and] at e3
  obtain ⟨rfl, rfl⟩ := e3
  obtain ⟨a4, c4, e4, hI⟩ := iat_own h2
  simp only [Value.slice.injEq, true_and] at e4
  obtain ⟨rfl, rfl⟩ := e4
  exact ⟨ak, ck, by rw [Nat.zero_add]; exact hcs j _ h1, hI, hs3.1, hs3.2.1⟩
theorem lls_llat {w : World} {a : Option Addr} {LL : List (List Int)} (h : LLS w a LL) : LLAt w a LL := fun h0 => by
  obtain ⟨g, off, ha, hg, hc⟩ := h h0
  refine ⟨g, off, ha, hg, fun k hk => ?_⟩
  obtain ⟨ak, ck, h1, h2, _⟩ := hc k hk
  exact ⟨ak, ck, h1, h2⟩
/-- A number of a row is written. -/
theorem RW.cell {w : World} {base : Nat} {v : Value} {us : List Value} {LL : List (List Int)} (h : RW w base v us LL) {i : Nat} (hi : i < LL.length) {q ck : Nat} (hu : us[i]? = some (.slice (some ⟨q, 0, none⟩) LL[i].length ck)) (j : Nat) (y : Int) :
    RW (w.setCell ⟨q, j, none⟩ (.int .i64 y)) base v us (LL.set i (LL[i].set j y)) := by
  have hks := kept_set w ⟨q, j, none⟩ (.int .i64 y)
  obtain ⟨ai, ci, g1, g2, g3⟩ := h.rows i hi
  rw [hu] at g1
  simp only [Option.some.injEq, Value.slice.injEq, true_and] at g1
  obtain ⟨rfl, rfl⟩ := g1
  have hq : Value.ownBlock (.slice (some ⟨q, 0, none⟩) LL[i].length ck) = some q := rfl
  refine ⟨?_, by rw [List.length_set]; exact h.len, fun k hk => ?_⟩
  · rw [List.length_set]
    exact own_kept h.own hks (fun g hg e => (g3 q hq).1 (by rw [hg]; exact congrArg some e))
  · rw [List.length_set] at hk
    by_cases e : i = k
    · subst e
      refine ⟨some ⟨q, 0, none⟩, ck, ?_, ?_, ?_⟩
      · rw [List.getElem_set_self, List.length_set]; exact hu
      · rw [List.getElem_set_self, List.length_set, List.map_set]
        exact (g2.stored j _).1
      · rw [List.getElem_set_self, List.length_set]
        exact g3
    · obtain ⟨ak, ck2, k1, k2, k3⟩ := h.rows k hk
      refine ⟨ak, ck2, ?_, ?_, ?_⟩
      · rw [List.getElem_set_ne e]; exact k1
      · rw [List.getElem_set_ne e]
        exact own_kept k2 hks (fun g hg e2 => h.ne hi hk e hu k1 hq (by rw [hg]; exact congrArg some e2))
      · rw [List.getElem_set_ne e]; exact k3
/-- A row has been made longer: its header is written. -/
theorem RW.turn {X w4 : World} {base gh cap : Nat} {us : List Value} {LL : List (List Int)} (h : RW X base (.slice (some ⟨gh, 0, none⟩) LL.length cap) us LL) {i : Nat} (hi : i < LL.length) {ui : Value} (hu : us[i]? = some ui) {o : Obj} {ar : Option Addr} {cr : Nat} {L : List Int}
    (ho : w4.ownsRow base 3 1 (.slice ar L.length cr) L.length (L.map (Value.int .i64))) (hg : (X.alloc o).grownBy w4 ui.ownBlock) (hat : Value.ownBlock (.slice ar L.length cr) = ui.ownBlock ∨ Value.ownBlock (.slice ar L.length cr) = some (X.alloc o).heap.size) :
    w4.ownsRow base 28 1 (.slice (some ⟨gh, 0, none⟩) LL.length cap) LL.length us ∧ RW (w4.setCell ⟨gh, i, none⟩ (.slice ar L.length cr)) base (.slice (some ⟨gh, 0, none⟩) LL.length cap) (us.set i (.slice ar L.length cr)) (LL.set i L) := by
  have hk4 : KeptBut (fun k => some k = ui.ownBlock) X w4 := (kept_alloc X o _).trans (KeptBut.of_grown hg)
  obtain ⟨ai, ci, g1, g2, g3⟩ := h.rows i hi
  rw [hu] at g1
  simp only [Option.some.injEq] at g1
  subst g1
  have hv : Value.ownBlock (.slice (some ⟨gh, 0, none⟩) LL.length cap) = some gh := rfl
  have hgh := h.own.lt gh hv
  have hown4 : w4.ownsRow base 28 1 (.slice (some ⟨gh, 0, none⟩) LL.length cap) LL.length us := own_kept h.own hk4 (fun g hg e => (g3 g e.symm).1 hg)
  have hks := kept_set w4 ⟨gh, i, none⟩ (.slice ar L.length cr)
  have hnew : ∀ q, Value.ownBlock (.slice ar L.length cr) = some q → q ≠ gh ∧ ∀ k u, k < LL.length → k ≠ i → us[k]? = some u → u.ownBlock ≠ some q := fun q hq => by
    rcases hat with e | e
    · rw [e] at hq
      refine ⟨fun e2 => (g3 q hq).1 (by rw [e2]; rfl), fun k u hk hne hku => h.ne hi hk (fun e3 => hne e3.symm) hu hku hq⟩
    · rw [e, World.size_alloc] at hq
      simp only [Option.some.injEq] at hq
      refine ⟨by omega, fun k u hk _ hku e3 => ?_⟩
      obtain ⟨ak, ck2, k1, k2, _⟩ := h.rows k hk
      rw [hku] at k1
      cases k1
      have := (k2.lt q e3).2
      omega
  refine ⟨hown4, ?_, by rw [List.length_set, List.length_set]; exact h.len, fun k hk => ?_⟩
  · rw [List.length_set]; exact (hown4.stored i _).1
  · rw [List.length_set] at hk
    by_cases e : i = k
    · subst e
      refine ⟨ar, cr, ?_, ?_, ?_⟩
      · rw [List.getElem_set_self, List.getElem?_set_self (by rw [h.len]; exact hk)]
      · rw [List.getElem_set_self]
        exact own_kept ho hks (fun q hq e2 => (hnew q hq).1 e2)
      · rw [List.getElem_set_self]
        intro q hq
        refine ⟨fun e2 => (hnew q hq).1 (by cases e2; rfl), fun j hj u hju => ?_⟩
        rw [List.getElem?_set_ne (by omega)] at hju
        exact (hnew q hq).2 j u (by omega) (by omega) hju
    · obtain ⟨ak, ck2, k1, k2, k3⟩ := h.rows k hk
      refine ⟨ak, ck2, ?_, ?_, ?_⟩
      · rw [List.getElem_set_ne e, List.getElem?_set_ne e]; exact k1
      · rw [List.getElem_set_ne e]
        refine own_kept (own_kept k2 hk4 (fun q hq e2 => h.ne hi hk e hu k1 e2.symm hq)) hks (fun q hq e2 => (k3 q hq).1 ?_)
        rw [show q = gh from e2]; rfl
      · rw [List.getElem_set_ne e]
        intro q hq
        refine ⟨(k3 q hq).1, fun j hj u hju => ?_⟩
        by_cases e2 : i = j
        · subst e2
          rw [List.getElem?_set_self (by rw [h.len]; exact hi)] at hju
          simp only [Option.some.injEq] at hju
          subst hju
          intro e3
          exact (hnew q e3).2 k _ hk (fun e4 => e e4.symm) k1 hq
        · rw [List.getElem?_set_ne e2] at hju
          exact (k3 q hq).2 j hj u hju
end Go.Proofs.Ytlebimolgienkaa
