/-
  The document's Lift (H3, layer 8).
  Two models are the same; numbers cut at a greatest one (layer 8).
-/
import Derived.Test.YtlebimolgienkaaV17
namespace Go.Proofs.Ytlebimolgienkaa
open Go.RowKit Go.Lib Go.Shelf

/-- The sets while they are lifted. -/
def liL (lo hi : Int) (Ss : List (List Int)) (t : Nat) : List (List Int) := (Ss.take t).map (liftS lo hi) ++ (Ss.drop t).map (List.map (upI hi))
theorem liL_len (lo hi : Int) (Ss : List (List Int)) (t : Nat) : (liL lo hi Ss t).length = Ss.length := by
  unfold liL
  rw [List.length_append, List.length_map, List.length_map, List.length_take, List.length_drop]; omega
theorem liL_at {lo hi : Int} {Ss : List (List Int)} {t : Nat} (h : t < Ss.length) (h' : t < (liL lo hi Ss t).length) : (liL lo hi Ss t)[t] = Ss[t].map (upI hi) := by
  have hl : ((Ss.take t).map (liftS lo hi)).length = t := by rw [List.length_map, List.length_take]; omega
  unfold liL at h' ⊢
  rw [List.getElem_append_right (by omega)]
  simp [List.length_take, Nat.min_eq_left (Nat.le_of_lt h)]
theorem liL_next {lo hi : Int} {Ss : List (List Int)} {t : Nat} (h : t < Ss.length) : liL lo hi Ss (t + 1) = (liL lo hi Ss t).set t (liftS lo hi Ss[t]) := by
  have hl : ((Ss.take t).map (liftS lo hi)).length = t := by rw [List.length_map, List.length_take]; omega
  unfold liL
  rw [List.set_append_right _ _ (by omega), hl, Nat.sub_self, List.drop_eq_getElem_cons h, List.map_cons, List.set_cons_zero, ← List.take_append_getElem h, List.map_append, List.append_assoc]
  rfl
theorem liL_same {lo hi : Int} {Ss : List (List Int)} {t : Nat} (h : t < Ss.length) (hn : lo ∉ Ss[t]) : liL lo hi Ss (t + 1) = liL lo hi Ss t := by
  rw [liL_next h]
  have e : liftS lo hi Ss[t] = Ss[t].map (upI hi) := by unfold liftS; rw [if_neg hn, List.append_nil]
  rw [e, ← liL_at (lo := lo) h (by rw [liL_len]; exact h), List.set_getElem_self]
theorem liL_zero (lo hi : Int) (Ss : List (List Int)) : liL lo hi Ss 0 = Ss.map (List.map (upI hi)) := by unfold liL; simp
theorem liL_all (lo hi : Int) (Ss : List (List Int)) : liL lo hi Ss Ss.length = Ss.map (liftS lo hi) := by unfold liL; simp
/-- A model in a variable, its rows to be written. -/
structure LiSt (W X : World) (base O : Nat) (k : Int) (a : Option Addr) (N c : Nat) (us : List Value) (LL : List (List Int)) : Prop where
  c0 : X.cell? ⟨O, 0, none⟩ = some (.int .i64 k)
  c1 : X.cell? ⟨O, 1, none⟩ = some (.slice a N c)
  hn : LL.length = N
  rw : RW X base (.slice a LL.length c) us LL
  no : ∀ (i : Nat) (u : Value), us[i]? = some u → u.ownBlock ≠ some O
  nh : Value.ownBlock (.slice a LL.length c) ≠ some O
  lt : O < X.heap.size
  bel : Below base W X
  sz : base ≤ X.heap.size
theorem LiSt.put {W X w4 : World} {base O gh N c : Nat} {k : Int} {us : List Value} {LL : List (List Int)} (h : LiSt W X base O k (some ⟨gh, 0, none⟩) N c us LL) {i : Nat} (hi : i < LL.length) {ui : Value} (hu : us[i]? = some ui) {o : Obj} {ar : Option Addr} {cr : Nat} {L : List Int}
    (ho : w4.ownsRow base 3 1 (.slice ar L.length cr) L.length (L.map (Value.int .i64))) (hg : (X.alloc o).grownBy w4 ui.ownBlock) (hat : Value.ownBlock (.slice ar L.length cr) = ui.ownBlock ∨ Value.ownBlock (.slice ar L.length cr) = some (X.alloc o).heap.size) :
    (w4.cell? ⟨O, 0, none⟩ = some (.int .i64 k) ∧ w4.cell? ⟨O, 1, none⟩ = some (.slice (some ⟨gh, 0, none⟩) N c) ∧ w4.cell? ⟨gh, i, none⟩ = some ui ∧ w4.frozen? ⟨gh, i, none⟩ = false) ∧ LiSt W (w4.setCell ⟨gh, i, none⟩ (.slice ar L.length cr)) base O k (some ⟨gh, 0, none⟩) N c (us.set i (.slice ar L.length cr)) (LL.set i L) := by
  obtain ⟨h1, h2⟩ := h.rw.turn hi hu ho hg hat
  have hk4 : KeptBut (fun k => some k = ui.ownBlock) X w4 := (kept_alloc X o _).trans (KeptBut.of_grown hg)
  have hO : ¬ some O = ui.ownBlock := fun e => h.no i ui hu e.symm
  have hgO : gh ≠ O := fun e => h.nh (by rw [e]; rfl)
  have hgh := h.rw.own.lt gh rfl
  have e0 := (hk4.cell (p := ⟨O, 0, none⟩) h.lt hO).trans h.c0
  have e1 := (hk4.cell (p := ⟨O, 1, none⟩) h.lt hO).trans h.c1
  obtain ⟨ai, ci, g1, g2, g3⟩ := h.rw.rows i hi
  rw [hu] at g1
  simp only [Option.some.injEq] at g1
  have hsz := hk4.size
  refine ⟨⟨e0, e1, ?_, h1.frozenAt i⟩, ?_⟩
  · rw [h1.cellAt i (by omega)]; exact hu
  · refine ⟨?_, ?_, by rw [List.length_set]; exact h.hn, by rw [List.length_set]; exact h2, fun j u hj => ?_, by rw [List.length_set]; exact h.nh, by have := h.lt; simp; omega, ?_, by have := h.sz; simp; omega⟩
    · rw [World.cell?_setCell_other _ _ _ _ (fun e => hgO (by have := congrArg Addr.block e; simpa using this))]; exact e0
    · rw [World.cell?_setCell_other _ _ _ _ (fun e => hgO (by have := congrArg Addr.block e; simpa using this))]; exact e1
    · by_cases e : i = j
      · subst e
        rw [List.getElem?_set_self (by rw [h.rw.len]; exact hi)] at hj
        simp only [Option.some.injEq] at hj
        subst hj
        rcases hat with e2 | e2
        · rw [e2]; exact h.no i ui hu
        · rw [e2, World.size_alloc]
          intro e3
          simp only [Option.some.injEq] at e3
          have := h.lt
          omega
      · rw [List.getElem?_set_ne e] at hj
        exact h.no j u hj
    · refine ((h.bel.alloc h.sz o).grown hg (by have := h.sz; rw [World.size_alloc]; omega) (fun q hq => ?_)).setCell (p := ⟨gh, i, none⟩) hgh.1 _
      rw [g1] at hq
      exact (g2.lt q hq).1
/-- What Lift tells. -/
def LiftTold (k : Int) (Ts : List (List Int)) (w w' : World) (v : Value) : Prop := ∃ a' c', v = .agg #[.int .i64 k, .slice a' Ts.length c'] ∧ LLAt w' a' Ts ∧ Below w.heap.size w w'
theorem LiftTold.of {k : Int} {Ts : List (List Int)} {w W X : World} {base : Nat} {a : Option Addr} {c : Nat} {us : List Value} {B : Nat} (hr : RW X base (.slice a Ts.length c) us Ts) (hb : Below base W X) (hbW : Below w.heap.size w W) (hsz : w.heap.size ≤ base) (hB : w.heap.size ≤ B) (hB2 : B < base) (x y : Value) :
    LiftTold k Ts w ((X.setCell ⟨B, 0, none⟩ x).setCell ⟨B, 1, none⟩ y) (.agg #[.int .i64 k, .slice a Ts.length c]) := by
  have hkk : KeptBut (fun q => q = B) X ((X.setCell ⟨B, 0, none⟩ x).setCell ⟨B, 1, none⟩ y) := (kept_set X ⟨B, 0, none⟩ _).trans (kept_set _ ⟨B, 1, none⟩ _)
  refine ⟨a, c, rfl, lls_llat ((hr.kept hkk (fun q hq _ e => by omega)).lls), ?_⟩
  exact ((hbW.trans (hb.mono hsz)).setCell (p := ⟨B, 0, none⟩) hB _).setCell (p := ⟨B, 1, none⟩) hB _
set_option maxHeartbeats 16000000 in
set_option maxRecDepth 100000 in
theorem rlift_any (k : Int) (sa : Option Addr) (sc : Nat) (Ss : List (List Int)) (x y : Int) (w : World) (hS : Ss.length ≤ 1000) (hSl : ∀ S ∈ Ss, S.length ≤ 1000) (hL : LLAt w sa Ss) (hx : ∀ S ∈ Ss, InR S) :
    Calls Try.prog 24 #[.agg #[.int .i64 k, .slice sa Ss.length sc], .int .i64 x, .int .i64 y] w fun e w' => ∃ u, e = .returned u ∧ LiftTold k (liftL x y Ss) w w' u := by
  obtain ⟨i0, hi0, hz0, hz1, hz2⟩ := info_parts Try.info3
  obtain ⟨N, hNe⟩ := ex_eq Ss.length
  obtain ⟨lo, hlo⟩ := ex_eq (min x y)
  obtain ⟨hi, hhi⟩ := ex_eq (max x y)
  obtain ⟨b0, hb0⟩ := ex_eq w.heap.size
  obtain ⟨W, hW, hsW, hO0, hO1, hbW⟩ := new_two w (.cells #[.int .i64 k, .slice sa N sc] 39) (.cells #[.int .i64 0, .slice none 0 0] 39)
  rw [← hb0] at hsW hO0 hO1 hbW
  obtain ⟨base, hbase⟩ := ex_eq W.heap.size
  have HBX : Hid (∀ X, Below base W X → X.cell? ⟨b0, 0, none⟩ = some (.int .i64 k) ∧ X.cell? ⟨b0, 1, none⟩ = some (.slice sa N sc) ∧ X.heap[b0 + 1]? = some (.cells #[.int .i64 0, .slice none 0 0] 39 (0, 0)) ∧ LLAt X sa Ss) := fun X hX => by
    have o0 := (hX.block b0 (by omega)).trans hO0
    have o1 := (hX.block (b0 + 1) (by omega)).trans hO1
    refine ⟨cell_of_heap o0 0, cell_of_heap o0 1, o1, hL.below ?_⟩
    rw [← hb0]; exact hbW.trans (hX.mono (by omega))
  have eL : liftL x y Ss = if lo < 0 ∨ lo = hi then Ss else Ss.map (liftS lo hi) := by unfold liftL; rw [← hlo, ← hhi]
  have HB0 := hid hb0
  have HBASE := hid hbase
  have HBW := hid hbW
  have HN := hid hNe
  have HW := hid hW
  have HLO := hid hlo
  have HHI := hid hhi
  have HSL := hid hSl
  have CD : Hid (∀ v, Calls Try.prog 26 #[.agg #[.int .i64 k, .slice sa N sc], .int .i64 v] W fun e w' => ∃ u, e = .returned u ∧ SmallTold k (dropL v Ss) W w' u) := fun v => by
    rw [hNe]; exact rdrop_any k sa sc Ss v W hS hSl (HBX.out W (Below.refl _ _)).2.2.2 hx
  have hbb : b0 + 1 < base := by omega
  have hN0 : N ≤ 1000 := by omega
  rw [← hNe]
  obtain ⟨Ts, hTs⟩ := ex_eq (liftL x y Ss)
  rw [← hTs]
  rw [← hTs] at eL
  clear hNe hL hSl hx hb0 hO0 hO1 hW hbW hbase hS hTs hlo hhi
  obtain ⟨x0, x1, ho1, _⟩ := HBX.out W (Below.refl _ _)
  have HO1 := hid ho1
  clear ho1
  by_cases hv : lo < 0 ∨ lo = hi
  · rw [if_pos hv] at eL
    subst eL
    have C := CD.out (-1)
    have e : dropL (-1) Ts = Ts := by unfold dropL; rw [if_pos (by omega)]
    rw [e] at C
    have HC := hid C
    have hway : (decide (lo < 0) = true ∧ lo < 0) ∨ (decide (lo < 0) = false ∧ ¬ lo < 0 ∧ lo = hi ∧ (lo == hi) = true) := by
      by_cases h : lo < 0
      · exact Or.inl ⟨decide_eq_true h, h⟩
      · have e : lo = hi := hv.resolve_left h
        exact Or.inr ⟨decide_eq_false h, h, e, by simp [e]⟩
    clear C e hv CD
    go_enter Try.func24, Try.ntmps24
    go_upto_region 3 with fail
    rw [← HLO.out, ← HHI.out]
    rw [← HB0.out]
    rw [← HW.out]
    rcases hway with ⟨q1, q2⟩ | ⟨q1, q2, q3, q4⟩
    all_goals
      go_wp2_with fail
      refine HC.out.mono ?_
      rintro e w2 ⟨u, rfl, hm⟩
      obtain ⟨a', c', us, rfl, hl, hb⟩ := hm.rw8
      rw [← HBASE.out] at hb hl
      obtain ⟨_, _, ho1, _⟩ := HBX.out w2 hb
      have z0 := cell_of_heap ho1 0
      have z1 := cell_of_heap ho1 1
      have zf0 := frozen_of_heap ho1 0
      have zf1 := frozen_of_heap ho1 1
      have HF : Hid (LiftTold k Ts w ((w2.setCell ⟨b0 + 1, 0, none⟩ (.int .i64 k)).setCell ⟨b0 + 1, 1, none⟩ (.slice a' Ts.length c')) (.agg #[.int .i64 k, .slice a' Ts.length c'])) := LiftTold.of hl hb (by rw [← HB0.out]; exact HBW.out) (by rw [← HB0.out]; omega) (by rw [← HB0.out]; omega) hbb _ _
      rw [← HN.out] at HF ⊢
      clear hl hb HC hm ho1 x0 x1
      go_wp2
      refine bodyPost_ret (v := .agg #[.int .i64 k, .slice a' N c']) ?_ rfl ⟨_, rfl, HF.out⟩
      rw [results_cell1 rfl]
      go_simp
  · rw [if_neg hv] at eL
    have q1 : decide (lo < 0) = false := decide_eq_false (fun h => hv (Or.inl h))
    have q2 : ¬ lo < 0 := fun h => hv (Or.inl h)
    have q3 : ¬ lo = hi := fun h => hv (Or.inr h)
    have q4 : (lo == hi) = false := by simp [q3]
    have hh0 : ¬ hi < 0 := by have h1 := HLO.out; have h2 := HHI.out; omega
    have C := CD.out hi
    have e : dropL hi Ss = liL lo hi Ss 0 := by rw [liL_zero]; unfold dropL; rw [if_neg hh0]
    rw [e] at C
    have HC := hid C
    have HTS : Hid (liL lo hi Ss N = Ts) := by show _ = _; rw [eL, HN.out]; exact liL_all lo hi Ss
    clear C e hv CD eL
    go_enter Try.func24, Try.ntmps24
    go_upto_region 3 with fail
    rw [← HLO.out, ← HHI.out]
    rw [← HB0.out]
    rw [← HW.out]
    go_wp2_with fail
    refine HC.out.mono ?_
    rintro e w2 ⟨u, rfl, hm⟩
    obtain ⟨a', c', us, rfl, hl, hb⟩ := hm.rw8
    rw [← HBASE.out] at hb hl
    have hlen : (liL lo hi Ss 0).length = N := by rw [liL_len]; exact HN.out.symm
    obtain ⟨O, hO⟩ := ex_eq w2.heap.size
    obtain ⟨V2, hV2⟩ := ex_eq (w2.alloc (.cells #[.int .i64 k, .slice a' N c'] 39))
    have hst : LiSt W V2 base O k a' N c' us (liL lo hi Ss 0) := by
      have hob : O < V2.heap.size := by rw [hV2, hO]; simp
      have hbs := hb.size
      have hbase := HBASE.out
      refine ⟨?_, ?_, hlen, ?_, fun i u hu e => ?_, fun e => ?_, hob, ?_, by omega⟩
      · rw [hV2, hO, cell_of_heap (heap_alloc_new w2 _)]; rfl
      · rw [hV2, hO, cell_of_heap (heap_alloc_new w2 _)]; rfl
      · rw [hV2]; exact hl.below (below_oneR _ _)
      · have hi' : i < (liL lo hi Ss 0).length := by
          rw [← hl.len]
          exact (List.getElem?_eq_some_iff.1 hu).1
        obtain ⟨ak, ck, g1, g2, _⟩ := hl.rows i hi'
        rw [hu] at g1
        cases g1
        have := (g2.lt O e).2
        omega
      · have := (hl.own.lt O e).2
        omega
      · rw [hV2]; exact hb.alloc (by omega) _
    have HST : Hid (∃ us, LiSt W V2 base O k a' N c' us (liL lo hi Ss 0)) := ⟨us, hst⟩
    have HV2 := hid hV2
    have HO := hid hO
    rw [hlen]
    clear hl hb HC hm x0 x1 hlen hst hV2 hO
    go_upto_region 6 with fail
    rw [← HV2.out, ← HO.out]
    clear HV2
    obtain ⟨x0, x1, _, _⟩ := HBX.out V2 (by obtain ⟨us', h⟩ := HST.out; exact h.bel)
    go_wp2
    clear x0 x1
    go_loopg [10] N (fun G i wz => ∃ t : Nat, t ≤ N ∧ N - t ≤ G ∧ i = .int .i64 t ∧ Hid (∃ us, LiSt W wz base O k a' N c' us (liL lo hi Ss t)))
    case atStart => exact ⟨0, Nat.zero_le _, by omega, rfl, HST⟩
    case round =>
      clear HST
      obtain ⟨t, ht, hG, rfl, hst⟩ := hrel
      obtain ⟨us, hSt⟩ := hst.out
      obtain ⟨x0, x1, ho1, hll⟩ := HBX.out wr hSt.bel
      by_cases hlt : t < N
      · have htr : t < Ss.length := by rw [← HN.out]; exact hlt
        obtain ⟨g, off, ak, ck, rfl, c0, hI0⟩ := hll.at htr
        have htl : t < (liL lo hi Ss t).length := by rw [liL_len]; exact htr
        obtain ⟨gh, cap', hv', -, -, -, hcs⟩ := own_row hSt.rw.own (by omega)
        simp only [Value.slice.injEq, true_and] at hv'
        obtain ⟨rfl, rfl⟩ := hv'
        obtain ⟨ai, ci, g1, g2, -⟩ := hSt.rw.rows t htl
        have d0 := hcs t _ g1
        obtain ⟨LL0, hLL0⟩ := ex_eq (liL lo hi Ss t)
        obtain ⟨A, hA⟩ := ex_eq (Ss[t].map (upI hi))
        have eA : (liL lo hi Ss t)[t] = A := by rw [hA]; exact liL_at htr htl
        rw [eA] at g1 g2 d0
        obtain ⟨J, hJ⟩ := ex_eq A.length
        rw [← hJ] at g1 g2 d0
        have hTl : Ss[t].length ≤ 1000 := HSL.out _ (List.getElem_mem htr)
        have hJ1 : J ≤ 1000 := by rw [hJ, hA, List.length_map]; exact hTl
        have CI := hid (in_any ak ck Ss[t] lo wr (by omega) hI0)
        obtain ⟨R, hR⟩ := ex_eq Ss[t].length
        rw [← hR] at c0 CI
        have z1 := hSt.c1
        have q5 : (t : Int) < (N : Int) := by omega
        have q6 : (0 : Int) ≤ (t : Int) := by omega
        by_cases hin : lo ∈ Ss[t]
        · rw [decide_eq_true hin] at CI
          have eN : liL lo hi Ss (t + 1) = (liL lo hi Ss t).set t (A ++ [hi]) := by
            rw [liL_next htr]
            unfold liftS
            rw [if_pos hin, ← hA]
          have HPUT : Hid (∀ v4 w4, w4.ownsRow base 3 1 v4 (J + 1) (A.map (Value.int .i64) ++ [.int .i64 hi]) → (wr.alloc (.cells #[.int .i64 hi] 3)).grownBy w4 (Value.slice ai J ci).ownBlock → (v4.ownBlock = (Value.slice ai J ci).ownBlock ∨ v4.ownBlock = some (wr.alloc (.cells #[.int .i64 hi] 3)).heap.size) → ∃ a4 c4, v4 = .slice a4 (J + 1) c4 ∧ (w4.cell? ⟨O, 0, none⟩ = some (.int .i64 k) ∧ w4.cell? ⟨O, 1, none⟩ = some (.slice (some ⟨gh, 0, none⟩) N c') ∧ w4.cell? ⟨gh, t, none⟩ = some (.slice ai J ci) ∧ w4.frozen? ⟨gh, t, none⟩ = false) ∧ ∃ us, LiSt W (w4.setCell ⟨gh, t, none⟩ (.slice a4 (J + 1) c4)) base O k (some ⟨gh, 0, none⟩) N c' us (liL lo hi Ss (t + 1))) := fun v4 w4 h1 h2 h3 => by
            obtain ⟨a4, c4, rfl, _⟩ := sl_own h1
            refine ⟨a4, c4, rfl, ?_⟩
            have eL : (A ++ [hi]).length = J + 1 := by rw [List.length_append, ← hJ]; rfl
            rw [← eL] at h1 h3 ⊢
            obtain ⟨p1, p2⟩ := hSt.put (L := A ++ [hi]) htl g1 (by rw [List.map_append]; exact h1) h2 h3
            exact ⟨p1, _, by rw [eN]; exact p2⟩
          have HOW : Hid ((wr.alloc (.cells #[.int .i64 hi] 3)).ownsRow base 3 1 (.slice ai J ci) J (A.map (Value.int .i64))) := g2.alloc _
          have HNW : Hid (∀ p', some (⟨wr.heap.size, 0, none⟩ : Addr) = some p' → ∀ r u, [Value.int .i64 hi][r]? = some u → (wr.alloc (.cells #[.int .i64 hi] 3)).cell? (p'.add r) = some u) := news_one _
          have HON : Hid (∀ v' ∈ [Value.int .i64 hi], v'.oneCell' = true) := fun v' hv => by simp at hv; rw [hv]; rfl
          have H63 : Hid (J + 1 ≤ maxLen) := by show _ ≤ _; unfold maxLen; omega
          have HBY : Hid ((J + 1) * 8 ≤ 140737488355328) := by show _ ≤ _; omega
          have HBS : Hid (base ≤ (wr.alloc (.cells #[.int .i64 hi] 3)).heap.size) := by have := hSt.sz; show base ≤ _; simp; omega
          clear hst hSt hll hI0 hcs g1 g2 eA eN hR ho1 hin hLL0 hA htl hJ hTl
          go_wp2_with fail
          refine CI.out.mono ?_
          rintro e w7 ⟨rfl, hw7⟩
          rw [hw7]
          clear hw7 CI
          go_wp2_with (at_builtin; refine wpList_append_any _ rfl _ _ 28 rfl base 3 i0 _ 1 8 Try.underlying28 hi0 hz0 hz1 hz2 rfl (by decide) _ _ _ rfl HOW.out (some ⟨wr.heap.size, 0, none⟩) 1 1 [.int .i64 hi] rfl (fun h => by cases h) rfl HNW.out HON.out H63.out HBY.out HBS.out ?_)
          intro v4 w4 hown4 hgrow4 hat4
          obtain ⟨a4, c4, rfl, ⟨_, y1, y2, y3⟩, us4, hst4⟩ := HPUT.out v4 w4 hown4 hgrow4 (hat4.imp id (fun h => by rw [World.size_alloc]; exact h))
          have HNX : Hid (∃ us, LiSt W (w4.setCell ⟨gh, t, none⟩ (.slice a4 (J + 1) c4)) base O k (some ⟨gh, 0, none⟩) N c' us (liL lo hi Ss (t + 1))) := ⟨_, hst4⟩
          clear hown4 hgrow4 hat4 hst4 HPUT HOW HNW HON H63 HBY HBS x0 x1 c0 d0 z1
          go_wp2
          go_roundg (N - (t + 1))
          case measure => omega
          case rel => exact ⟨t + 1, by omega, Nat.le_refl _, by go_num, HNX⟩
        · rw [decide_eq_false hin] at CI
          have HNX : Hid (∃ us, LiSt W wr base O k (some ⟨gh, 0, none⟩) N c' us (liL lo hi Ss (t + 1))) := ⟨us, by rw [liL_same htr hin]; exact hSt⟩
          clear hst hSt hll hI0 hcs g1 g2 eA hR ho1 hin hLL0 hA htl hJ hTl
          go_wp2_with fail
          refine CI.out.mono ?_
          rintro e w7 ⟨rfl, hw7⟩
          rw [hw7]
          clear hw7 CI
          go_wp2
          go_roundg (N - (t + 1))
          case measure => omega
          case rel => exact ⟨t + 1, by omega, Nat.le_refl _, by go_num, HNX⟩
      · obtain rfl : t = N := by omega
        rw [HTS.out] at hSt
        have d0 := hSt.c0
        have d1 := hSt.c1
        have z0 := cell_of_heap ho1 0
        have z1 := cell_of_heap ho1 1
        have zf0 := frozen_of_heap ho1 0
        have zf1 := frozen_of_heap ho1 1
        have HF : Hid (LiftTold k Ts w ((wr.setCell ⟨b0 + 1, 0, none⟩ (.int .i64 k)).setCell ⟨b0 + 1, 1, none⟩ (.slice a' Ts.length c')) (.agg #[.int .i64 k, .slice a' Ts.length c'])) := LiftTold.of hSt.rw hSt.bel (by rw [← HB0.out]; exact HBW.out) (by rw [← HB0.out]; omega) (by rw [← HB0.out]; omega) hbb _ _
        rw [hSt.hn] at HF
        clear hst hSt ho1 hll x0
        go_wp2
        refine bodyPost_ret (v := .agg #[.int .i64 k, .slice a' t c']) ?_ rfl ⟨_, rfl, HF.out⟩
        rw [results_cell1 rfl]
        go_simp
end Go.Proofs.Ytlebimolgienkaa
namespace Go.Proofs.Ytlebimolgienkaa
open Go.RowKit Go.Lib Go.Shelf

set_option maxHeartbeats 2000000 in
theorem same8_any (k : Int) (a1 a2 : Option Addr) (c1 c2 : Nat) (LL : List (List Int)) (w : World) (hN : LL.length ≤ 1000000) (hR : ∀ L ∈ LL, L.length ≤ 1000000) (h1 : LLAt w a1 LL) (h2 : LLAt w a2 LL) :
    Calls Try.prog 22 #[.agg #[.int .i64 k, .slice a1 LL.length c1], .agg #[.int .i64 k, .slice a2 LL.length c2]] w fun e w' => e = .returned (.bool true) ∧ Below w.heap.size w w' := by
  obtain ⟨N, hNe⟩ := ex_eq LL.length
  obtain ⟨b0, hb0⟩ := ex_eq w.heap.size
  obtain ⟨W, hW, hsW, hO0, hO1, hbW⟩ := new_two w (.cells #[.int .i64 k, .slice a1 N c1] 40) (.cells #[.int .i64 k, .slice a2 N c2] 39)
  have C := sameRows_any a1 a2 c1 c2 LL LL true W hN hR (h1.below hbW) (h2.below hbW) ⟨fun _ => rfl, fun _ => rfl⟩
  rw [← hNe] at C
  rw [← hNe]
  have HC := hid C
  rw [← hb0] at hsW hO0 hO1 hbW
  have x0 := cell_of_heap hO0 0
  have x1 := cell_of_heap hO0 1
  have z0 := cell_of_heap hO1 0
  have z1 := cell_of_heap hO1 1
  have HW := hid hW
  have HB0 := hid hb0
  have HBW := hid hbW
  have q1 : (k == k) = true := by simp
  clear C hW hsW hO0 hO1 hbW hb0 hNe h1 h2 hR hN
  go_enter Try.func22, Try.ntmps22
  go_upto_region 1 with fail
  rw [← HB0.out]
  rw [← HW.out]
  go_wp2_with fail
  refine HC.out.mono ?_
  rintro e w2 ⟨rfl, hb⟩
  have HF : Hid (Below w.heap.size w w2) := by show Below _ _ _; rw [← HB0.out]; exact HBW.out.trans (hb.mono (by have := HBW.out.size; have := HB0.out; omega))
  clear hb HC x0 x1 z0 z1
  go_wp2
  go_ret
  exact ⟨rfl, HF.out⟩
/-- The numbers of a list of rows, cut at the greatest one as far as it is gone. -/
def LoTo (LL : List (List Int)) (t j : Nat) : Prop := (∀ L ∈ LL, L.length ≤ 20 ∧ ∀ x ∈ L, -9223372036854775808 ≤ x) ∧ (∀ i (h : i < LL.length), i < t → ∀ x ∈ LL[i], x ≤ 4611686018427387904) ∧ ∀ (h : t < LL.length), ∀ q (hq : q < LL[t].length), q < j → LL[t][q] ≤ 4611686018427387904
theorem LoTo.start {LL : List (List Int)} (h : ∀ L ∈ LL, L.length ≤ 20 ∧ ∀ x ∈ L, -9223372036854775808 ≤ x) : LoTo LL 0 0 := ⟨h, fun _ _ h => absurd h (by omega), fun _ _ _ h => absurd h (by omega)⟩
theorem LoTo.put {LL : List (List Int)} {t j : Nat} (h : LoTo LL t j) (ht : t < LL.length) (hj : j < LL[t].length) {y : Int} (hy : y = min LL[t][j] 4611686018427387904) : LoTo (LL.set t (LL[t].set j y)) t (j + 1) := by
  obtain ⟨h1, h2, h3⟩ := h
  have hm := h1 _ (List.getElem_mem ht)
  have hx := hm.2 _ (List.getElem_mem hj)
  refine ⟨fun L hL => ?_, fun i hi hit => ?_, fun hh q hq hqj => ?_⟩
  · rcases List.mem_or_eq_of_mem_set hL with e | e
    · exact h1 L e
    · subst e
      refine ⟨by rw [List.length_set]; exact hm.1, fun x hxm => ?_⟩
      rcases List.mem_or_eq_of_mem_set hxm with e | e
      · exact hm.2 x e
      · omega
  · rw [List.length_set] at hi
    rw [List.getElem_set_ne (by omega)]
    exact h2 i hi hit
  · simp only [List.getElem_set_self] at hq ⊢
    rw [List.length_set] at hq
    by_cases e : j = q
    · subst e
      rw [List.getElem_set_self]; omega
    · rw [List.getElem_set_ne e]
      exact h3 ht q hq (by omega)
theorem LoTo.next {LL : List (List Int)} {t j : Nat} (h : LoTo LL t j) (ht : t < LL.length) (hj : j = LL[t].length) : LoTo LL (t + 1) 0 := by
  obtain ⟨h1, h2, h3⟩ := h
  refine ⟨h1, fun i hi hit x hx => ?_, fun _ _ _ h => absurd h (by omega)⟩
  by_cases e : i = t
  · subst e
    obtain ⟨q, hq, rfl⟩ := List.getElem_of_mem hx
    exact h3 ht q hq (by omega)
  · exact h2 i hi (by omega) x hx
theorem LoTo.end {LL : List (List Int)} {t : Nat} (h : LoTo LL t 0) (ht : t = LL.length) : ∀ S ∈ LL, InR S ∧ S.length ≤ 20 := fun S hS => by
  obtain ⟨i, hi, rfl⟩ := List.getElem_of_mem hS
  exact ⟨fun x hx => ⟨(h.1 _ hS).2 x hx, h.2.1 i hi (by omega) x hx⟩, (h.1 _ hS).1⟩
theorem small_lo {w : World} {a : Option Addr} {len cap : Nat} {LM : List (List Int)} (h : CameR w a len cap LM) : ∀ L ∈ smallR LM, L.length ≤ 20 ∧ ∀ x ∈ L, -9223372036854775808 ≤ x := fun L hL => by
  unfold smallR cutL at hL
  obtain ⟨T, hT, rfl⟩ := List.mem_map.1 hL
  refine ⟨by rw [List.length_take]; omega, fun x hx => ?_⟩
  obtain ⟨i, hi, rfl⟩ := List.getElem_of_mem (List.mem_of_mem_take hT)
  obtain ⟨g, off, _, _, hh⟩ := h.at_ (by omega)
  obtain ⟨ak, ck, _, hI⟩ := hh i hi
  have hw := hI.wf x (List.mem_of_mem_take hx)
  simp [Lit.wf, IntKind.min, IntKind.max, IntKind.signed, IntKind.bits] at hw
  omega
/-- A number of a row is written. -/
theorem LiSt.cell {W X : World} {base O N c : Nat} {k : Int} {a : Option Addr} {us : List Value} {LL : List (List Int)} (h : LiSt W X base O k a N c us LL) {i : Nat} (hi : i < LL.length) {q ck : Nat} (hu : us[i]? = some (.slice (some ⟨q, 0, none⟩) LL[i].length ck)) (hq : base ≤ q) (j : Nat) (y : Int) :
    LiSt W (X.setCell ⟨q, j, none⟩ (.int .i64 y)) base O k a N c us (LL.set i (LL[i].set j y)) := by
  have hqO : q ≠ O := fun e => h.no i _ hu (by rw [e]; rfl)
  refine ⟨?_, ?_, by rw [List.length_set]; exact h.hn, ?_, h.no, by rw [List.length_set]; exact h.nh, by simpa using h.lt, h.bel.setCell (p := ⟨q, j, none⟩) hq _, by simpa using h.sz⟩
  · rw [World.cell?_setCell_other _ _ _ _ (fun e => hqO (by have := congrArg Addr.block e; simpa using this))]; exact h.c0
  · rw [World.cell?_setCell_other _ _ _ _ (fun e => hqO (by have := congrArg Addr.block e; simpa using this))]; exact h.c1
  · have := h.rw.cell hi hu j y
    rw [List.length_set]
    exact this
end Go.Proofs.Ytlebimolgienkaa
