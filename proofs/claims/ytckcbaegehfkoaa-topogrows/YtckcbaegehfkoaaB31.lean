/-
  The document's Of of layer 3: a graph of a Net.
  Models in variables, and what the laws of layer 8 begin with.
  What the laws of layer 9 begin with.
  A subdivision's model is a model (what follows). No program is named here.
-/
import Derived.Test.YtckcbaegehfkoaaB09
import Derived.Test.YtckcbaegehfkoaaB25
import Derived.Test.YtckcbaegehfkoaaB28
import Derived.Test.YtckcbaegehfkoaaB24
import Derived.Test.YtckcbaegehfkoaaB13
import Derived.Test.YtckcbaegehfkoaaB05
import Derived.Test.YtckcbaegehfkoaaB04
import Derived.Test.YtckcbaegehfkoaaB29
import Derived.Test.YtckcbaegehfkoaaB30
namespace Go.Proofs.Ytckcbaegehfkoaa
open Go.RowKit Go.Lib

set_option maxHeartbeats 1000000 in
set_option maxRecDepth 100000 in
theorem net_any (n0 : Int) (a : Option Addr) (N cap : Nat) (l : List (Int × Int)) (most : Nat) (w : World) (hmost : most ≤ 1000) (hl : N = l.length) (hE : EAt w a l) :
    Calls Try.prog 12 #[.agg #[.int .i64 n0, .slice a N cap], .int .i64 most] w fun e w' => ∃ (m : Nat) (ys : List (Int × Int)) (a' : Option Addr) (cap' : Nat), e = .returned (.agg #[.int .i64 m, .slice a' ys.length cap']) ∧ m ≤ most ∧ RightG m ys ∧ ys.length ≤ 300 ∧ Sl a' cap' ys.length ∧ EAt w' a' ys ∧ Below w.heap.size w w' := by
  obtain ⟨W0, hW0, hsz, o1, o2, hB0⟩ := new_two' w (.cells #[.int .i64 n0, .slice a N cap] 24) (.cells #[.int .i64 0, .slice none 0 0] 30)
  have CA := hid (any_any n0 a N cap l most W0 hmost hl (hE.below hB0))
  have HW0 := hid hW0
  have HO2 := hid o2
  have HB0 := hid hB0
  clear hl hE hmost hW0 o1 o2 hB0
  go_enter Try.func12, Try.ntmps12
  go_wp2_with fail
  rw [← HW0.out]
  refine CA.out.mono ?_
  rintro e w3 ⟨m, ys, a3, c3, rfl, hm, hR, hys, hsl, hE3, hb3⟩
  obtain ⟨M, hM⟩ := ex_eq ys.length
  have HM := hid hM
  rw [← hM]
  have o3 : w3.heap[w.heap.size + 1]? = some (.cells #[.int .i64 0, .slice none 0 0] 30) := (hb3.block _ (by omega)).trans HO2.out
  have HNE := hid (eat_off_box o3 hE3)
  obtain ⟨x0, x1⟩ := two_cells o3
  have xf := frozen_of_heap o3
  have HB3 : Hid (Below w.heap.size w w3) := HB0.out.trans (hb3.mono HB0.out.size)
  have HE3 := hid hE3
  have HR := hid hR
  have HSL := hid hsl
  clear hM hE3 hb3 hR hsl o3 CA HW0 HO2 HB0
  go_wp2
  refine bodyPost_ret (v := .agg #[.int .i64 m, .slice a3 M c3]) ?_ rfl ⟨m, ys, a3, c3, by rw [← HM.out], hm, HR.out, hys, HSL.out, (HE3.out.set (p := ⟨w.heap.size + 1, 0, none⟩) HNE.out _).set (p := ⟨w.heap.size + 1, 1, none⟩) HNE.out _, (HB3.out.setCell (p := ⟨w.heap.size + 1, 0, none⟩) (by simp) _).setCell (p := ⟨w.heap.size + 1, 1, none⟩) (by simp) _⟩
  rw [results_cell1 rfl]
  go_simp
end Go.Proofs.Ytckcbaegehfkoaa
namespace Go.Proofs.Ytckcbaegehfkoaa
open Go.RowKit Go.Lib

/-- A model in a variable. -/
structure MC (w : World) (B : Nat) (k : Int) (a : Option Addr) (M cap : Nat) (Ss : List (List Int)) : Prop where
  c0 : w.cell? ⟨B, 0, none⟩ = some (.int .i64 k)
  c1 : w.cell? ⟨B, 1, none⟩ = some (.slice a M cap)
  at_ : LLAt w a Ss
theorem MC.on {w w' : World} {B : Nat} {k : Int} {a : Option Addr} {M cap : Nat} {Ss : List (List Int)} (h : MC w B k a M cap Ss) (hb : Below w.heap.size w w') : MC w' B k a M cap Ss :=
  ⟨(hb.cell (p := ⟨B, 0, none⟩) (block_lt_of_cell h.c0)).trans h.c0, (hb.cell (p := ⟨B, 1, none⟩) (block_lt_of_cell h.c1)).trans h.c1, h.at_.below hb⟩
theorem gc_new8 {w : World} {n : Int} {a : Option Addr} {N cap : Nat} {es : List (Int × Int)} (h : EAt w a es) : GC (w.alloc (.cells #[.int .i64 n, .slice a N cap] 30)) w.heap.size n a N cap es :=
  ⟨by rw [cell_of_heap (heap_alloc_new w _)]; rfl, by rw [cell_of_heap (heap_alloc_new w _)]; rfl, h.below (below_one _ _)⟩
theorem CameI.belowM {w w' : World} {a : Option Addr} {len cap : Nat} {l : List Int} (h : CameI w a len cap l) (hb : Below w.heap.size w w') : CameI w' a len cap l := ⟨h.len_, h.le, h.max, h.nil, h.at_.below hb, h.wf⟩
theorem CameR.belowM {w w' : World} {a : Option Addr} {len cap : Nat} {LL : List (List Int)} (h : CameR w a len cap LL) (hb : Below w.heap.size w w') : CameR w' a len cap LL := ⟨h.len_, h.le, h.max, h.nil, fun h0 => by
  obtain ⟨g, off, ha, hg, hh⟩ := h.at_ h0
  refine ⟨g, off, ha, Nat.lt_of_lt_of_le hg hb.size, fun k hk => ?_⟩
  obtain ⟨ak, ck, h1, h2⟩ := hh k hk
  exact ⟨ak, ck, (hb.cell (p := ⟨g, off + k, none⟩) hg).trans h1, h2.belowM hb⟩⟩
end Go.Proofs.Ytckcbaegehfkoaa
namespace Go.Proofs.Ytckcbaegehfkoaa
open Go.RowKit Go.Lib

theorem cut8_len (LL : List (List Int)) : (cut8 LL).length ≤ 8 := by
  unfold cut8
  rw [cutL_len (by omega)]; omega
theorem cut8_each {LL : List (List Int)} : ∀ S ∈ cut8 LL, S.length ≤ 20 := fun S hS => by
  unfold cut8 cutL at hS
  obtain ⟨T, _, rfl⟩ := List.mem_map.1 hS
  rw [List.length_take]; omega
theorem wf_cut8 {w : World} {a : Option Addr} {N cap : Nat} {LL : List (List Int)} (h : CameR w a N cap LL) : WfR (cut8 LL) := fun S hS x hx => by
  unfold cut8 cutL at hS
  obtain ⟨T, hT, rfl⟩ := List.mem_map.1 hS
  obtain ⟨k, hk, rfl⟩ := List.getElem_of_mem (List.mem_of_mem_take hT)
  obtain ⟨g, off, _, _, hc⟩ := h.at_ (by omega)
  obtain ⟨ak, ck, _, hi⟩ := hc k hk
  exact hi.wf x (List.mem_of_mem_take hx)
end Go.Proofs.Ytckcbaegehfkoaa
namespace Go.Proofs.Ytckcbaegehfkoaa

theorem count_two {LL : List (List Int)} {i j : Nat} (hi : i < LL.length) (hj : j < LL.length) (hlt : i < j) {x : Int} (h1 : x ∈ LL[i]) (h2 : x ∈ LL[j]) : 2 ≤ LL.flatten.count x := by
  have e : LL.flatten = (LL.take (i + 1)).flatten ++ (LL.drop (i + 1)).flatten := by rw [← List.flatten_append, List.take_append_drop]
  rw [e, List.count_append]
  have c1 : 0 < (LL.take (i + 1)).flatten.count x := by
    rw [List.count_pos_iff, List.mem_flatten]
    exact ⟨LL[i], by rw [List.mem_take_iff_getElem]; exact ⟨i, by omega, rfl⟩, h1⟩
  have c2 : 0 < (LL.drop (i + 1)).flatten.count x := by
    rw [List.count_pos_iff, List.mem_flatten]
    refine ⟨LL[j], ?_, h2⟩
    rw [List.mem_drop_iff_getElem]
    exact ⟨j - (i + 1), by omega, by congr 1; omega⟩
  omega
theorem SubL.inner_one {n : Int} {es : List (Int × Int)} {kd : Int} {T : List Int} {P : List (List Int)} (h : SubL n es kd T P) {k j : Nat} (hk : k < P.length) (hj : j < P.length) {x : Int} (hx : x ∈ innL P[k]) (hm : x ∈ P[j]) : j = k := by
  obtain ⟨i, hi, h1, rfl⟩ := innL_mem.1 hx
  have hc := h.apart P[k] (List.getElem_mem hk) i hi h1
  refine Classical.byContradiction fun hne => ?_
  rcases Nat.lt_or_gt_of_ne hne with hlt | hlt
  · have := count_two hj hk hlt hm (List.getElem_mem (show i < P[k].length by omega)); omega
  · have := count_two hk hj hlt (List.getElem_mem (show i < P[k].length by omega)) hm; omega
theorem innL_sub {p : List Int} {x : Int} (h : x ∈ innL p) : x ∈ p := by
  obtain ⟨i, hi, _, rfl⟩ := innL_mem.1 h
  exact List.getElem_mem _
theorem SubL.len {n : Int} {es : List (Int × Int)} {kd : Int} {T : List Int} {P : List (List Int)} (h : SubL n es kd T P) {k : Nat} (hk : k < P.length) : 2 ≤ P[k].length := h.formed.2.2.2 _ (List.getElem_mem hk)
theorem SubL.first {n : Int} {es : List (Int × Int)} {kd : Int} {T : List Int} {P : List (List Int)} (h : SubL n es kd T P) {k : Nat} (hk : k < P.length) : ∃ ha : (fromL kd k).1 < T.length, P[k][0]'(by have := h.len hk; omega) = T[(fromL kd k).1] := by
  have h2 := h.len hk
  have h3 := (h.path k hk).2.2.1
  rw [List.head?_eq_getElem?, List.getElem?_eq_getElem (by omega)] at h3
  obtain ⟨ha, e⟩ := List.getElem?_eq_some_iff.1 h3.symm
  exact ⟨ha, e.symm⟩
theorem SubL.last {n : Int} {es : List (Int × Int)} {kd : Int} {T : List Int} {P : List (List Int)} (h : SubL n es kd T P) {k : Nat} (hk : k < P.length) : ∃ ha : (fromL kd k).2 < T.length, P[k][P[k].length - 1]'(by have := h.len hk; omega) = T[(fromL kd k).2] := by
  have h2 := h.len hk
  have h3 := (h.path k hk).2.2.2
  rw [List.getLast?_eq_getElem?, List.getElem?_eq_getElem (by omega)] at h3
  obtain ⟨ha, e⟩ := List.getElem?_eq_some_iff.1 h3.symm
  exact ⟨ha, e.symm⟩
/-- Each top ends paths of two numbers. -/
theorem top_two {kd : Int} (hk : kd = 1 ∨ kd = 2) {a : Nat} (ha : a < if kd = 1 then 4 else 2) : ∃ k j, k < (if kd = 1 then 6 else 3) ∧ j < (if kd = 1 then 6 else 3) ∧ k ≠ j ∧ ((fromL kd k).1 = a ∨ (fromL kd k).2 = a) ∧ ((fromL kd j).1 = a ∨ (fromL kd j).2 = a) := by
  rcases hk with rfl | rfl
  · rw [if_pos rfl] at ha
    rcases (by omega : a = 0 ∨ a = 1 ∨ a = 2 ∨ a = 3) with rfl | rfl | rfl | rfl
    · exact ⟨0, 1, by decide, by decide, by decide, Or.inl rfl, Or.inl rfl⟩
    · exact ⟨0, 3, by decide, by decide, by decide, Or.inr rfl, Or.inl rfl⟩
    · exact ⟨1, 3, by decide, by decide, by decide, Or.inr rfl, Or.inr rfl⟩
    · exact ⟨2, 4, by decide, by decide, by decide, Or.inr rfl, Or.inr rfl⟩
  · rw [if_neg (by decide)] at ha
    rcases (by omega : a = 0 ∨ a = 1) with rfl | rfl
    · exact ⟨0, 1, by decide, by decide, by decide, Or.inl rfl, Or.inl rfl⟩
    · exact ⟨0, 1, by decide, by decide, by decide, Or.inr rfl, Or.inr rfl⟩
theorem SubL.end_mem {n : Int} {es : List (Int × Int)} {kd : Int} {T : List Int} {P : List (List Int)} (h : SubL n es kd T P) {k a : Nat} (hk : k < P.length) (ha : a < T.length) (he : (fromL kd k).1 = a ∨ (fromL kd k).2 = a) : T[a] ∈ P[k] := by
  rcases he with rfl | rfl
  · obtain ⟨h1, e⟩ := h.first hk
    rw [← e]; exact List.getElem_mem _
  · obtain ⟨h1, e⟩ := h.last hk
    rw [← e]; exact List.getElem_mem _
/-- A top lies inside no path. -/
theorem SubL.top_inner {n : Int} {es : List (Int × Int)} {kd : Int} {T : List Int} {P : List (List Int)} (h : SubL n es kd T P) {k a : Nat} (hk : k < P.length) (ha : a < T.length) : T[a] ∉ innL P[k] := fun hx => by
  have h1 := h.tl
  have h2 := h.pl
  obtain ⟨i, j, hi, hj, hne, e1, e2⟩ := top_two h.kind (a := a) (by rw [← h1]; exact ha)
  have m1 := h.inner_one hk (j := i) (by omega) hx (h.end_mem (by omega) ha e1)
  have m2 := h.inner_one hk (j := j) (by omega) hx (h.end_mem (by omega) ha e2)
  omega
theorem innL_nodup {p : List Int} (h : p.Nodup) : (innL p).Nodup := by
  unfold innL
  exact List.Sublist.nodup (List.dropLast_sublist _) (List.Sublist.nodup (List.drop_sublist _ _) h)
/-- Along a path, by what stands in l. -/
theorem rch_pathY {es : List (Int × Int)} {l p : List Int} (hl : Links es p) {i : Nat} : ∀ j (hij : i ≤ j) (hj : j < p.length), (∀ t (ht : t < p.length), i < t → t ≤ j → p[t] ∈ l) → Rch es l (p[i]'(by omega)) p[j] := by
  intro j
  induction j with
  | zero =>
    intro hij hj _
    have : i = 0 := by omega
    subst this
    exact Rch.refl _ _ _
  | succ j ih =>
    intro hij hj hm
    by_cases e : i = j + 1
    · subst e; exact Rch.refl _ _ _
    · exact (ih (by omega) (by omega) (fun t ht h1 h2 => hm t ht h1 (by omega))).step (hl j hj) (hm (j + 1) hj (by omega) (Nat.le_refl _))
theorem setK_mem {T : List Int} {P : List (List Int)} {i : Nat} {x : Int} : x ∈ T.getD i 0 :: ((List.range P.length).filter (fun k => (fromL 1 k).1 == i)).flatMap (fun k => innL (P.getD k [])) ↔ x = T.getD i 0 ∨ ∃ k, ∃ hk : k < P.length, (fromL 1 k).1 = i ∧ x ∈ innL P[k] := by
  rw [List.mem_cons, List.mem_flatMap]
  constructor
  · rintro (h | ⟨k, hk, hx⟩)
    · exact Or.inl h
    · rw [List.mem_filter, List.mem_range] at hk
      refine Or.inr ⟨k, hk.1, by simpa using hk.2, ?_⟩
      simpa [hk.1] using hx
  · rintro (h | ⟨k, hk, he, hx⟩)
    · exact Or.inl h
    · refine Or.inr ⟨k, ?_, by simpa [hk] using hx⟩
      rw [List.mem_filter, List.mem_range]
      exact ⟨hk, by simpa using he⟩
theorem sub_model {n : Int} {es : List (Int × Int)} {kd : Int} {T : List Int} {P : List (List Int)} (h : SubL n es kd T P) : ModelL n es kd (subSets kd T P) := by
  have hT := h.tl
  have hP := h.pl
  have hTin : ∀ a (ha : a < T.length), 0 ≤ T[a] ∧ T[a] < n := fun a ha => by
    obtain ⟨k, _, hk, _, _, e, _⟩ := top_two h.kind (a := a) (by rw [← hT]; exact ha)
    exact (h.path k (by omega)).1.inn _ (h.end_mem (by omega) ha e)
  have hTne : ∀ a b (ha : a < T.length) (hb : b < T.length), a ≠ b → T[a] ≠ T[b] := fun a b ha hb hne => by
    have := h.nd
    rw [List.nodup_iff_pairwise_ne, List.pairwise_iff_getElem] at this
    rcases Nat.lt_or_gt_of_ne hne with hlt | hlt
    · exact this a b ha hb hlt
    · exact fun e => this b a hb ha hlt e.symm
  rcases h.kind with rfl | rfl
  · rw [if_pos rfl] at hT hP
    have eS : subSets 1 T P = (List.range T.length).map (fun i => T.getD i 0 :: ((List.range P.length).filter (fun k => (fromL 1 k).1 == i)).flatMap (fun k => innL (P.getD k []))) := by unfold subSets; rw [if_pos rfl]
    have hat : ∀ i, i < 4 → (subSets 1 T P).getD i [] = T.getD i 0 :: ((List.range P.length).filter (fun k => (fromL 1 k).1 == i)).flatMap (fun k => innL (P.getD k [])) := fun i hi => by
      rw [eS, List.getD_eq_getElem?_getD, List.getElem?_map, List.getElem?_range (by omega)]; rfl
    have hmem : ∀ i x, i < 4 → (x ∈ (subSets 1 T P).getD i [] ↔ x = T.getD i 0 ∨ ∃ k, ∃ hk : k < P.length, (fromL 1 k).1 = i ∧ x ∈ innL P[k]) := fun i x hi => by rw [hat i hi]; exact setK_mem
    have hTg : ∀ i (hi : i < 4), T.getD i 0 = T[i]'(by omega) := fun i hi => by simp [show i < T.length by omega]
    have hlen : (subSets 1 T P).length = 4 := by rw [eS]; simp [hT]
    refine ⟨Or.inl rfl, h.right, by rw [hlen]; rfl, fun S hS => ?_, fun i j hij x hx hy => ?_, fun e he => ?_⟩
    · obtain ⟨i, hi, rfl⟩ := List.getElem_of_mem hS
      have hi4 : i < 4 := by omega
      have eg : (subSets 1 T P)[i] = (subSets 1 T P).getD i [] := by rw [List.getD_eq_getElem?_getD, List.getElem?_eq_getElem hi]; rfl
      rw [eg]
      have hm := hmem i
      rw [hat i hi4] at hm ⊢
      refine WholeL.of_head ?_ ?_ (by simp) ?_
      · rw [List.nodup_cons]
        constructor
        · intro hx
          rw [List.mem_flatMap] at hx
          obtain ⟨k, hk, hx⟩ := hx
          rw [List.mem_filter, List.mem_range] at hk
          rw [hTg i hi4] at hx
          have hx' : T[i]'(by omega) ∈ innL P[k] := by simpa [hk.1] using hx
          exact h.top_inner hk.1 (by omega) hx'
        · rw [List.nodup_iff_pairwise_ne, List.pairwise_flatMap]
          refine ⟨fun k hk => ?_, ?_⟩
          · rw [List.mem_filter, List.mem_range] at hk
            rw [← List.nodup_iff_pairwise_ne]
            have e : P.getD k [] = P[k] := by simp [hk.1]
            rw [e]
            exact innL_nodup (h.path k hk.1).1.nd
          · refine List.Pairwise.imp_of_mem ?_ (List.Pairwise.filter _ List.pairwise_lt_range)
            intro a b ha hb hab x hx y hy e
            rw [List.mem_filter, List.mem_range] at ha hb
            subst e
            have hx' : x ∈ innL P[a] := by simpa [ha.1] using hx
            have hy' : x ∈ innL P[b] := by simpa [hb.1] using hy
            have := h.inner_one ha.1 hb.1 hx' (innL_sub hy')
            omega
      · intro x hx
        rcases (hm x hi4).1 hx with rfl | ⟨k, hk, _, hx⟩
        · rw [hTg i hi4]; exact hTin i (by omega)
        · exact (h.path k hk).1.inn x (innL_sub hx)
      · intro y hy
        simp only [List.getElem_cons_zero]
        rcases (hm y hi4).1 hy with rfl | ⟨k, hk, he, hx⟩
        · exact Rch.refl _ _ _
        · obtain ⟨j, hj, h1, rfl⟩ := innL_mem.1 hx
          obtain ⟨ha, e0⟩ := h.first hk
          rw [hTg i hi4]
          have e1 : T[i]'(by omega) = P[k][0]'(by omega) := by rw [e0]; congr 1; exact he.symm
          rw [e1]
          refine rch_pathY (h.path k hk).1.lk j (by omega) (by omega) (fun t ht h2 h3 => ?_)
          have hin : (P[k][t]'ht) ∈ innL P[k] := innL_mem.2 ⟨t, by omega, by omega, rfl⟩
          have hres := (hm (P[k][t]'ht) hi4).2 (Or.inr ⟨k, hk, he, hin⟩)
          rw [hTg i hi4, e1] at hres
          exact hres
    · have hj := mem_getD hy
      rw [hlen] at hj
      rcases (hmem i x (by omega)).1 hx with e1 | ⟨k, hk, e1, hx⟩
      · rcases (hmem j x hj).1 hy with e2 | ⟨k', hk', e2, hy⟩
        · rw [hTg i (by omega)] at e1
          rw [hTg j hj] at e2
          exact hTne i j (by omega) (by omega) (by omega) (e1.symm.trans e2)
        · rw [e1, hTg i (by omega)] at hy
          exact h.top_inner hk' (by omega) hy
      · rcases (hmem j x hj).1 hy with e2 | ⟨k', hk', e2, hy⟩
        · rw [e2, hTg j hj] at hx
          exact h.top_inner hk (by omega) hx
        · have := h.inner_one hk hk' hx (innL_sub hy)
          subst this
          omega
    · obtain ⟨k, hk6, rfl⟩ : ∃ k, k < 6 ∧ (((fromL 1 k).1 : Int), ((fromL 1 k).2 : Int)) = e := by
        have he : e ∈ [((0 : Int), (1 : Int)), (0, 2), (0, 3), (1, 2), (1, 3), (2, 3)] := he
        simp at he
        rcases he with rfl | rfl | rfl | rfl | rfl | rfl
        · exact ⟨0, by decide, rfl⟩
        · exact ⟨1, by decide, rfl⟩
        · exact ⟨2, by decide, rfl⟩
        · exact ⟨3, by decide, rfl⟩
        · exact ⟨4, by decide, rfl⟩
        · exact ⟨5, by decide, rfl⟩
      have hk : k < P.length := by omega
      have h2 := h.len hk
      obtain ⟨ha, e0⟩ := h.first hk
      obtain ⟨hb, e1⟩ := h.last hk
      refine ⟨P[k][P[k].length - 2]'(by omega), P[k][P[k].length - 1]'(by omega), ?_, ?_, ?_⟩
      · unfold setAt
        simp only [Int.toNat_natCast]
        rw [hmem _ _ (by omega)]
        by_cases e2 : P[k].length = 2
        · refine Or.inl ?_
          rw [hTg _ (by omega), ← e0]
          congr 1; omega
        · exact Or.inr ⟨k, hk, rfl, innL_mem.2 ⟨P[k].length - 2, by omega, by omega, rfl⟩⟩
      · unfold setAt
        simp only [Int.toNat_natCast]
        rw [hmem _ _ (by omega)]
        refine Or.inl ?_
        rw [hTg _ (by omega), ← e1]
      · have := (h.path k hk).1.lk (P[k].length - 2) (by omega)
        rw [show P[k][P[k].length - 1]'(by omega) = P[k][P[k].length - 2 + 1]'(by omega) by congr 1; omega]
        exact this
  · rw [if_neg (by decide)] at hT hP
    have h3 : ∀ k (hk : k < P.length), 3 ≤ P[k].length := fun k hk => by have := (h.path k hk).2.1; omega
    have eS : subSets 2 T P = T.map (fun t => [t]) ++ P.map innL := by unfold subSets; rw [if_neg (by decide)]
    have hlen : (subSets 2 T P).length = 5 := by rw [eS]; simp [hT, hP]
    have hat0 : ∀ i (hi : i < 2), (subSets 2 T P).getD i [] = [T[i]'(by omega)] := fun i hi => by
      rw [eS, List.getD_eq_getElem?_getD, List.getElem?_append_left (by rw [List.length_map]; omega), List.getElem?_map, List.getElem?_eq_getElem (by omega)]; rfl
    have hat1 : ∀ k (hk : k < P.length), (subSets 2 T P).getD (2 + k) [] = innL P[k] := fun k hk => by
      rw [eS, List.getD_eq_getElem?_getD, List.getElem?_append_right (by rw [List.length_map]; omega), List.length_map, show 2 + k - T.length = k by omega, List.getElem?_map, List.getElem?_eq_getElem hk]; rfl
    refine ⟨Or.inr rfl, h.right, by rw [hlen]; rfl, fun S hS => ?_, fun i j hij x hx hy => ?_, fun e he => ?_⟩
    · rw [eS, List.mem_append, List.mem_map, List.mem_map] at hS
      rcases hS with ⟨t, ht, rfl⟩ | ⟨p, hp, rfl⟩
      · obtain ⟨a, ha, rfl⟩ := List.getElem_of_mem ht
        exact WholeL.of_head (by simp) (fun y hy => by simp at hy; subst hy; exact hTin a ha) (by simp) (fun y hy => by simp at hy; subst hy; exact Rch.refl _ _ _)
      · obtain ⟨k, hk, rfl⟩ := List.getElem_of_mem hp
        have hl3 := h3 k hk
        have hm1 : P[k][1]'(by omega) ∈ innL P[k] := innL_mem.2 ⟨1, by omega, Nat.le_refl _, rfl⟩
        have reach : ∀ y ∈ innL P[k], Rch es (innL P[k]) (P[k][1]'(by omega)) y := fun y hy => by
          obtain ⟨j, hj, h1, rfl⟩ := innL_mem.1 hy
          exact rch_pathY (h.path k hk).1.lk j h1 (by omega) (fun t ht h2 h3 => innL_mem.2 ⟨t, by omega, by omega, rfl⟩)
        exact ⟨List.ne_nil_of_mem hm1, innL_nodup (h.path k hk).1.nd, fun x hx => (h.path k hk).1.inn x (innL_sub hx), fun x hx y hy => ((reach x hx).symm hm1).trans (reach y hy)⟩
    · have hj := mem_getD hy
      rw [hlen] at hj
      by_cases hi2 : i < 2
      · rw [hat0 i hi2] at hx
        simp at hx
        subst hx
        by_cases hj2 : j < 2
        · rw [hat0 j hj2] at hy
          simp at hy
          exact hTne i j (by omega) (by omega) (by omega) hy
        · obtain ⟨k, rfl⟩ : ∃ k, j = 2 + k := ⟨j - 2, by omega⟩
          rw [hat1 k (by omega)] at hy
          exact h.top_inner (by omega) (by omega) hy
      · obtain ⟨k, rfl⟩ : ∃ k, i = 2 + k := ⟨i - 2, by omega⟩
        obtain ⟨k', rfl⟩ : ∃ k', j = 2 + k' := ⟨j - 2, by omega⟩
        rw [hat1 k (by omega)] at hx
        rw [hat1 k' (by omega)] at hy
        have := h.inner_one (show k < P.length by omega) (show k' < P.length by omega) hx (innL_sub hy)
        omega
    · have key : ∀ k (hk : k < P.length), Touch es (setAt (subSets 2 T P) 0) (setAt (subSets 2 T P) ((2 + k : Nat) : Int)) ∧ Touch es (setAt (subSets 2 T P) 1) (setAt (subSets 2 T P) ((2 + k : Nat) : Int)) := fun k hk => by
        have hl3 := h3 k hk
        obtain ⟨ha, e0⟩ := h.first hk
        obtain ⟨hb, e1⟩ := h.last hk
        have s0 : setAt (subSets 2 T P) 0 = [T[0]'(by omega)] := hat0 0 (by omega)
        have s1 : setAt (subSets 2 T P) 1 = [T[1]'(by omega)] := hat0 1 (by omega)
        have s2 : setAt (subSets 2 T P) ((2 + k : Nat) : Int) = innL P[k] := by unfold setAt; rw [Int.toNat_natCast]; exact hat1 k hk
        rw [s0, s1, s2]
        refine ⟨⟨P[k][0]'(by omega), P[k][1]'(by omega), ?_, innL_mem.2 ⟨1, by omega, Nat.le_refl _, rfl⟩, (h.path k hk).1.lk 0 (by omega)⟩, ⟨P[k][P[k].length - 1]'(by omega), P[k][P[k].length - 2]'(by omega), ?_, innL_mem.2 ⟨P[k].length - 2, by omega, by omega, rfl⟩, ?_⟩⟩
        · rw [e0]; simp [fromL]
        · rw [e1]; simp [fromL]
        · have := (h.path k hk).1.lk (P[k].length - 2) (by omega)
          rw [show P[k][P[k].length - 1]'(by omega) = P[k][P[k].length - 2 + 1]'(by omega) by congr 1; omega]
          exact this.symm
      have he : e ∈ [((0 : Int), (2 : Int)), (0, 3), (0, 4), (1, 2), (1, 3), (1, 4)] := he
      simp at he
      rcases he with rfl | rfl | rfl | rfl | rfl | rfl
      · exact (key 0 (by omega)).1
      · exact (key 1 (by omega)).1
      · exact (key 2 (by omega)).1
      · exact (key 0 (by omega)).2
      · exact (key 1 (by omega)).2
      · exact (key 2 (by omega)).2
end Go.Proofs.Ytckcbaegehfkoaa
