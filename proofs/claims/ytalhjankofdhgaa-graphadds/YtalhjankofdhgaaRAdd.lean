/-
  The document's Add: one edge more.
-/
import Derived.Test.YtalhjankofdhgaaGStep
import Derived.Test.YtalhjankofdhgaaRNorm
import Derived.Test.YtalhjankofdhgaaGAdd2
namespace Go.Proofs.Ytalhjankofdhgaa
open Go.RowKit Go.Lib

theorem add_of_norm {n x y er : Int} {es ys : List (Int × Int)} (hR : RightG n es) (hin : (0 ≤ x ∧ x < n) ∧ (0 ≤ y ∧ y < n)) (hxy : x ≠ y) (h : NormE n (es ++ [(x, y)]) er ys) : AddE n es x y er ys := by
  have hp : prs (es ++ [(x, y)]) = es ++ [(min x y, max x y)] := by rw [prs_snoc, prs_right hR, prs_one hxy]
  have hall : AllIn n (es ++ [(x, y)]) := allIn_snoc (fun e he => by have := hR.2.2.2.1 e he; omega) hin
  have h0 := hR.1
  have h1 := hR.2.1
  have hlen : ∀ zs, IsNorm (es ++ [(x, y)]) zs → (min x y, max x y) ∉ es → zs.length = es.length + 1 := fun zs hz hn => by
    have a1 := len_le_of_sub (a := zs) (b := es ++ [(min x y, max x y)]) (rises_nodup hz.1) (fun e he => by rw [← hp]; exact (hz.2 e).1 he)
    have a2 := len_le_of_sub (a := es ++ [(min x y, max x y)]) (b := zs) (by
      rw [List.nodup_append]
      refine ⟨rises_nodup hR.2.2.2.2, by simp, fun a ha b hb => ?_⟩
      simp at hb
      subst hb
      intro e
      subst e
      exact hn ha) (fun e he => by rw [← hp] at he; exact (hz.2 e).2 he)
    simp at a1 a2
    omega
  have hsame : (min x y, max x y) ∈ es → IsNorm (es ++ [(x, y)]) es := fun hm => ⟨hR.2.2.2.2, fun e => by
    rw [hp, List.mem_append, List.mem_singleton]
    exact ⟨Or.inl, fun h => h.elim id (fun h => by rw [h]; exact hm)⟩⟩
  have hl := hR.2.2.1
  refine Or.inr (Or.inr ⟨hR, hin, ?_⟩)
  by_cases hm : (min x y, max x y) ∈ es
  · rcases h with ⟨h, _⟩ | ⟨h, _⟩ | ⟨_, h, _⟩ | ⟨_, _, rfl, rfl, zs, hz, hzl⟩ | ⟨_, _, rfl, hz, _⟩
    · omega
    · omega
    · exact absurd hall h
    · have := hz.one (hsame hm)
      subst this; omega
    · exact Or.inr (Or.inl ⟨hxy, hm, rfl, hz.one (hsame hm)⟩)
  · rcases h with ⟨h, _⟩ | ⟨h, _⟩ | ⟨_, h, _⟩ | ⟨_, _, rfl, rfl, zs, hz, hzl⟩ | ⟨_, _, rfl, hz, hzl⟩
    · omega
    · omega
    · exact absurd hall h
    · have := hlen zs hz hm
      exact Or.inr (Or.inr (Or.inl ⟨hxy, hm, by omega, rfl, rfl⟩))
    · have := hlen ys hz hm
      exact Or.inr (Or.inr (Or.inr ⟨hxy, hm, by omega, rfl, hz.1, this, fun e => by rw [hz.2 e, hp, List.mem_append, List.mem_singleton]⟩))

set_option maxHeartbeats 4000000 in
set_option maxRecDepth 100000 in
theorem radd_any (n : Int) (a : Option Addr) (cap : Nat) (es : List (Int × Int)) (x y : Int) (b : Bool) (w : World) (hN : es.length ≤ 1000000) (hE : EAt w a es) (hS : Sl a cap es.length) (hb : b = true ↔ RightG n es) :
    Calls Try.prog 24 #[.agg #[.int .i64 n, .slice a es.length cap], .int .i64 x, .int .i64 y] w fun e w' => ∃ er ys a' cap', e = .returned (.tuple #[.agg #[.int .i64 (nOf' n er), .slice a' ys.length cap'], .int .i64 er]) ∧ AddE n es x y er ys ∧ Sl a' cap' ys.length ∧ EAt w' a' ys ∧ Below w.heap.size w w' := by
  obtain ⟨i1, hj, hy0, hy1, hy2⟩ := info_parts Try.info39
  obtain ⟨N, hNe⟩ : ∃ N, N = es.length := ⟨_, rfl⟩
  have HRI : Hid (∀ W, EAt W a es → Calls Try.prog 15 #[.agg #[.int .i64 n, .slice a N cap]] W fun e w' => e = .returned (.bool b) ∧ Below W.heap.size W w') := fun W h => by rw [hNe]; exact rright_any n a cap es b W hN h hb
  rw [← hNe] at hN ⊢
  have HN : Hid (N = es.length) := hNe
  have HE : Hid (EAt w a es) := hE
  have HB : Hid (b = true ↔ RightG n es) := hb
  have HS : Hid (a = none → N = 0 ∧ cap = 0) := fun ha => by have h1 := hS.2.1 ha; have h2 := hS.1; exact ⟨by omega, h1⟩
  clear hNe hE hb hS
  obtain ⟨W0, hW0, hsz, o1, o2, hB0⟩ := new_two w (.cells #[.int .i64 n, .slice a N cap] 25) (.cells #[.int .i64 0, .slice none 0 0] 25)
  have HW0 : Hid (W0 = (w.alloc (.cells #[.int .i64 n, .slice a N cap] 25)).alloc (.cells #[.int .i64 0, .slice none 0 0] 25)) := hW0
  have HO1 : Hid (W0.heap[w.heap.size]? = some (.cells #[.int .i64 n, .slice a N cap] 25)) := o1
  have HO2 : Hid (W0.heap[w.heap.size + 1]? = some (.cells #[.int .i64 0, .slice none 0 0] 25)) := o2
  clear hW0 o1 o2
  go_enter Try.func24, Try.ntmps24
  go_wp2_with fail
  rw [← HW0.out]
  refine (HRI.out _ (HE.out.below hB0)).mono ?_
  rintro e w1 ⟨rfl, hb1⟩
  have hbw : Below w.heap.size w w1 := hB0.trans (hb1.mono (by omega))
  have hs1 := hb1.size
  rw [hsz] at hs1
  have p1 := (hb1.block w.heap.size (by omega)).trans HO1.out
  have p2 := (hb1.block (w.heap.size + 1) (by omega)).trans HO2.out
  obtain ⟨c0, c1⟩ := two_cells p1
  obtain ⟨x0, x1⟩ := two_cells p2
  have xf := frozen_of_heap p2
  have HE1 : Hid (EAt w1 a es) := HE.out.below hbw
  have HP1 : Hid (w1.heap[w.heap.size]? = some (.cells #[.int .i64 n, .slice a N cap] 25)) := p1
  have HP2 : Hid (w1.heap[w.heap.size + 1]? = some (.cells #[.int .i64 0, .slice none 0 0] 25)) := p2
  have HBX : Hid (∀ u1 u2, Below w.heap.size w ((w1.setCell ⟨w.heap.size + 1, 0, none⟩ u1).setCell ⟨w.heap.size + 1, 1, none⟩ u2)) := fun u1 u2 => (hbw.setCell (p := ⟨w.heap.size + 1, 0, none⟩) (by simp) _).setCell (p := ⟨w.heap.size + 1, 1, none⟩) (by simp) _
  clear hb1 HRI HO1 HO2 HW0 hB0 p1 p2 hsz HE
  cases b with
  | false =>
    have hnr : ¬ RightG n es := fun h => absurd (HB.out.2 h) (by simp)
    clear hj hy0 hy1 hy2
    go_wp2
    refine bodyPost_ret (v := .tuple #[.agg #[.int .i64 0, .slice none 0 0], .int .i64 1]) ?_ rfl ⟨1, [], none, 0, rfl, Or.inl ⟨hnr, rfl, rfl⟩, sl_nil, eat_nil _ _, HBX.out _ _⟩
    rw [results_cell_tmp rfl]
    go_simp
  | true =>
    have HRG : Hid (RightG n es) := HB.out.1 rfl
    clear HB
    rcases range_or x y n with hbad | hin
    · have hnin : Hid (¬ ((0 ≤ x ∧ x < n) ∧ (0 ≤ y ∧ y < n))) := fun h => by omega
      clear hj hy0 hy1 hy2
      rcases hbad with hx | ⟨hx, hy⟩ | ⟨hx, hy, hz⟩ | ⟨hx, hy, hz, hu⟩
      all_goals
        go_wp2
        refine bodyPost_ret (v := .tuple #[.agg #[.int .i64 0, .slice none 0 0], .int .i64 4]) ?_ rfl ⟨4, [], none, 0, rfl, Or.inr (Or.inl ⟨HRG.out, hnin.out, rfl, rfl⟩), sl_nil, eat_nil _ _, HBX.out _ _⟩
        rw [results_cell_tmp rfl]
        go_simp
    · have HIN : Hid ((0 ≤ x ∧ x < n) ∧ (0 ≤ y ∧ y < n)) := hin
      obtain ⟨⟨z1, z2⟩, z3, z4⟩ := hin
      by_cases heq : x = y
      · clear hj hy0 hy1 hy2
        subst heq
        go_wp2
        refine bodyPost_ret (v := .tuple #[.agg #[.int .i64 0, .slice none 0 0], .int .i64 1]) ?_ rfl ⟨1, [], none, 0, rfl, Or.inr (Or.inr ⟨HRG.out, HIN.out, Or.inl ⟨rfl, rfl, rfl⟩⟩), sl_nil, eat_nil _ _, HBX.out _ _⟩
        rw [results_cell_tmp rfl]
        go_simp
      · have hbq : (x == y) = false := beq_eq_false_iff_ne.2 heq
        have hN4 : N ≤ 4000 := by rw [HN.out]; exact HRG.out.2.2.1
        have HRN : Hid (∀ W a6 c6, EAt W a6 (es ++ [(x, y)]) → Calls Try.prog 12 #[.int .i64 n, .slice a6 (N + 1) c6] W fun e w' => ∃ er es2 a' cap', e = .returned (.tuple #[.agg #[.int .i64 (nOf n er), .slice a' es2.length cap'], .int .i64 er]) ∧ NormE n (es ++ [(x, y)]) er es2 ∧ Sl a' cap' es2.length ∧ EAt w' a' es2 ∧ Below W.heap.size W w') := fun W a6 c6 h => by
          have hl : (es ++ [(x, y)]).length = N + 1 := by rw [HN.out]; simp
          have := rnormal_any n a6 c6 (es ++ [(x, y)]) W (by rw [hl]; omega) h
          rwa [hl] at this
        obtain ⟨W, hW⟩ := ex_eq w1.drew
        obtain ⟨h, hh⟩ := ex_eq w1.heap.size
        obtain ⟨E, hEo⟩ := ex_eq (Obj.cells #[] 39 (0, 0))
        obtain ⟨E2, hE2⟩ := ex_eq (Obj.cells #[.int .i64 x, .int .i64 y] 39 (0, 0))
        have hWs : W.heap.size = h := by rw [hW, hh]; rfl
        have hbW : Below h w1 W := by rw [hW]; exact (Below.refl _ _).drew
        have hEW : EAt W a es := by rw [hW]; exact HE1.out
        have bA : ∀ (X : World) (o : Obj), h ≤ X.heap.size → Below h X (X.alloc o) := fun X o hx => (Below.refl _ _).alloc hx _
        have sA : ∀ (X : World) (o : Obj), (X.alloc o).heap.size = X.heap.size + 1 := fun X o => by simp
        have OA : Hid ((W.alloc E).ownsRow h 39 2 (.slice (some ⟨h, 0, none⟩) 0 0) 0 []) := by
          have := own_empty (w := W) E hEo
          rwa [hWs] at this
        have OB : Hid (((W.alloc E).alloc E2).ownsRow h 39 2 (.slice (some ⟨h, 0, none⟩) 0 0) 0 []) := OA.out.alloc _
        have OC : Hid (((W.alloc E2).alloc E).ownsRow h 39 2 (.slice (some ⟨h + 1, 0, none⟩) 0 0) 0 []) := by
          have := own_empty (w := W.alloc E2) E hEo
          rw [sA, hWs] at this
          exact own_lower this (by omega)
        have BA : Hid (Below h W (W.alloc E)) := bA _ _ (by omega)
        have BB : Hid (Below h W ((W.alloc E).alloc E2)) := (bA _ _ (by omega)).trans (bA _ _ (by rw [sA]; omega))
        have BC : Hid (Below h W ((W.alloc E2).alloc E)) := (bA _ _ (by omega)).trans (bA _ _ (by rw [sA]; omega))
        have SA : (W.alloc E).heap.size = h + 1 := by rw [sA, hWs]
        have SB : ((W.alloc E).alloc E2).heap.size = h + 1 + 1 := by rw [sA, sA, hWs]
        have SC : ((W.alloc E2).alloc E).heap.size = h + 1 + 1 := by rw [sA, sA, hWs]
        have QB : ((W.alloc E).alloc E2).heap[h + 1]? = some E2 := by
          have := heap_alloc_new (W.alloc E) E2
          rwa [sA, hWs] at this
        have QC : ((W.alloc E2).alloc E).heap[h]? = some E2 := by
          rw [Below.heap_alloc _ _ _ (by rw [sA]; omega)]
          have := heap_alloc_new W E2
          rwa [hWs] at this
        have KA : Hid (∀ w4, (W.alloc E).grownBy w4 (Value.slice (some ⟨h, 0, none⟩) 0 0).ownBlock → Below h w1 w4) := fun w4 hg => Below.grown (hbW.trans BA.out) hg (by omega) (fun k hk => by simp [Value.ownBlock] at hk; omega)
        have KB : Hid (∀ w4, ((W.alloc E).alloc E2).grownBy w4 (Value.slice (some ⟨h, 0, none⟩) 0 0).ownBlock → Below h w1 w4 ∧ w4.heap[h + 1]? = some E2) := fun w4 hg => ⟨Below.grown (hbW.trans BB.out) hg (by omega) (fun k hk => by simp [Value.ownBlock] at hk; omega), (hg.block (h + 1) (by omega) (by simp [Value.ownBlock])).trans QB⟩
        have KC : Hid (∀ w4, ((W.alloc E2).alloc E).grownBy w4 (Value.slice (some ⟨h + 1, 0, none⟩) 0 0).ownBlock → Below h w1 w4 ∧ w4.heap[h]? = some E2) := fun w4 hg => ⟨Below.grown (hbW.trans BC.out) hg (by omega) (fun k hk => by simp [Value.ownBlock] at hk; omega), (hg.block h (by omega) (by simp [Value.ownBlock])).trans QC⟩
        have NA : Hid (∀ p, a = some p → ∀ j u, (cellsE es)[j]? = some u → (W.alloc E).cell? (p.add j) = some u) := (hEW.below (by rw [hWs]; exact BA.out)).newsO
        have NB : Hid (∀ p, a = some p → ∀ j u, (cellsE es)[j]? = some u → ((W.alloc E).alloc E2).cell? (p.add j) = some u) := (hEW.below (by rw [hWs]; exact BB.out)).newsO
        have NC : Hid (∀ p, a = some p → ∀ j u, (cellsE es)[j]? = some u → ((W.alloc E2).alloc E).cell? (p.add j) = some u) := (hEW.below (by rw [hWs]; exact BC.out)).newsO
        have HLA : Hid (h ≤ (W.alloc E).heap.size) := by show h ≤ _; omega
        have HLB : Hid (h ≤ ((W.alloc E).alloc E2).heap.size) := by show h ≤ _; omega
        have HLC : Hid (h ≤ ((W.alloc E2).alloc E).heap.size) := by show h ≤ _; omega
        have HCL : Hid ((cellsE es).length = N * 2) := by show (cellsE es).length = N * 2; rw [cellsE_len, HN.out]
        have HON : Hid (∀ v ∈ cellsE es, v.oneCell' = true) := cellsE_one es
        have HON2 : Hid (∀ v ∈ [Value.int .i64 x, .int .i64 y], v.oneCell' = true) := fun v hv => by simp at hv; rcases hv with rfl | rfl <;> rfl
        have H63 : Hid (0 + N ≤ maxLen) := by show 0 + N ≤ maxLen; unfold maxLen; omega
        have HBY : Hid ((0 + N) * 16 ≤ 140737488355328) := by show (0 + N) * 16 ≤ _; omega
        have H632 : Hid (N + 1 ≤ maxLen) := by show N + 1 ≤ maxLen; unfold maxLen; omega
        have HBY2 : Hid ((N + 1) * 16 ≤ 140737488355328) := by show (N + 1) * 16 ≤ _; omega
        have HF : Hid (∀ v6 w6, w6.ownsRow h 39 2 v6 (N + 1) (cellsE es ++ [.int .i64 x, .int .i64 y]) → ∃ a6 c6, v6 = .slice a6 (N + 1) c6 ∧ EAt w6 a6 (es ++ [(x, y)])) := fun v6 w6 ho => by
          have hl : (es ++ [(x, y)]).length = N + 1 := by rw [HN.out]; simp
          have hc : cellsE (es ++ [(x, y)]) = cellsE es ++ [.int .i64 x, .int .i64 y] := cellsE_append _ _
          rw [← hc, ← hl] at ho
          obtain ⟨a6, c6, hv, _, hE6⟩ := eat_own ho
          rw [hl] at hv
          exact ⟨a6, c6, hv, hE6⟩
        have KK : Hid (∀ X, Below h w1 X → ((X.cell? ⟨w.heap.size, 0, none⟩ = some (.int .i64 n) ∧ X.cell? ⟨w.heap.size, 1, none⟩ = some (.slice a N cap)) ∧ X.heap[w.heap.size + 1]? = some (.cells #[.int .i64 0, .slice none 0 0] 25)) ∧ Below w.heap.size w X ∧ h ≤ X.heap.size) := fun X hX => ⟨⟨⟨(hX.cell (p := ⟨w.heap.size, 0, none⟩) (by simp; omega)).trans c0, (hX.cell (p := ⟨w.heap.size, 1, none⟩) (by simp; omega)).trans c1⟩, (hX.block _ (by omega)).trans HP2.out⟩, hbw.trans (hX.mono (by omega)), by have := hX.size; omega⟩
        have hS0 := hid2 (show W.cell? ⟨w.heap.size, 0, none⟩ = some (.int .i64 n) by rw [hW]; exact c0) (show W.cell? ⟨w.heap.size, 1, none⟩ = some (.slice a N cap) by rw [hW]; exact c1)
        have hSA := hid2 (cell_alloc_old hS0.1 E) (cell_alloc_old hS0.2 E)
        have hSB := hid2 (cell_alloc_old hS0.1 E2) (cell_alloc_old hS0.2 E2)
        have hSC := hid2 (cell_alloc_old hSA.1 E2) (cell_alloc_old hSA.2 E2)
        have hSD := hid2 (cell_alloc_old hSB.1 E) (cell_alloc_old hSB.2 E)
        have ne1 : ¬ w.heap.size = w.heap.size + 1 := by omega
        have lt0 : w.heap.size < w1.heap.size := by omega
        have lt1 : w.heap.size + 1 < w1.heap.size := by omega
        clear x0 x1 xf HBX BA BB BC SA SB SC QB QC bA sA hWs hbW hEW hs1
        subst hW hh hEo hE2
        go_wp2_with fail
        go_region_held3 (fun X => X.cell? ⟨w.heap.size, 0, none⟩ = some (.int .i64 n) ∧ X.cell? ⟨w.heap.size, 1, none⟩ = some (.slice a N cap)) (first | exact hS | exact hS2 | exact hS0 | exact hSA | exact hSB | exact hSC | exact hSD | go_keep)
          (first
          | (refine step_append_any _ rfl (.tmp 37) (.tmp 39) 22 rfl w1.heap.size 39 i1 _ 2 16 Try.underlying22 hj hy0 hy1 hy2 rfl (by decide) (.slice (some ⟨w1.heap.size, 0, none⟩) 0 0) 0 [] (by simp [Act.eval]) OA.out a N cap (cellsE es) (by simp [Act.eval]) HS.out HCL.out NA.out HON.out H63.out HBY.out HLA.out ?_; intro v4 w4 ho4 hg4 _; rw [Nat.zero_add, List.nil_append] at ho4; have hb4 := KA.out _ hg4; have hS := (KK.out _ hb4).1.1; have hS2 := hid2 (cell_alloc_old hS.1 (Obj.cells #[.int .i64 x, .int .i64 y] 39 (0, 0))) (cell_alloc_old hS.2 (Obj.cells #[.int .i64 x, .int .i64 y] 39 (0, 0))); clear hg4)
          | (refine step_append_any _ rfl (.tmp 37) (.tmp 39) 22 rfl w1.heap.size 39 i1 _ 2 16 Try.underlying22 hj hy0 hy1 hy2 rfl (by decide) (.slice (some ⟨w1.heap.size, 0, none⟩) 0 0) 0 [] (by simp [Act.eval]) OB.out a N cap (cellsE es) (by simp [Act.eval]) HS.out HCL.out NB.out HON.out H63.out HBY.out HLB.out ?_; intro v4 w4 ho4 hg4 _; rw [Nat.zero_add, List.nil_append] at ho4; have hb4 := (KB.out _ hg4).1; have q4 := hid (KB.out _ hg4).2; have hS := (KK.out _ hb4).1.1; clear hg4)
          | (refine step_append_any _ rfl (.tmp 37) (.tmp 39) 22 rfl w1.heap.size 39 i1 _ 2 16 Try.underlying22 hj hy0 hy1 hy2 rfl (by decide) (.slice (some ⟨w1.heap.size + 1, 0, none⟩) 0 0) 0 [] (by simp [Act.eval]) OC.out a N cap (cellsE es) (by simp [Act.eval]) HS.out HCL.out NC.out HON.out H63.out HBY.out HLC.out ?_; intro v4 w4 ho4 hg4 _; rw [Nat.zero_add, List.nil_append] at ho4; have hb4 := (KC.out _ hg4).1; have q4 := hid (KC.out _ hg4).2; have hS := (KK.out _ hb4).1.1; clear hg4)
          | (refine step_append_any _ rfl (.tmp 40) (.tmp 44) 22 rfl w1.heap.size 39 i1 _ 2 16 Try.underlying22 hj hy0 hy1 hy2 rfl (by decide) v4 N (cellsE es) (by simp [Act.eval]) ho4 (some ⟨w1.heap.size + 1, 0, none⟩) 1 1 [.int .i64 x, .int .i64 y] (by simp [Act.eval]) (fun h => by cases h) rfl (fun p hp => by cases hp; exact cells_two q4.out) HON2.out H632.out HBY2.out (KK.out _ hb4).2.2 ?_; intro v6 w6 ho6 hg6 _; have hb6 := Below.grown hb4 hg6 (KK.out _ hb4).2.2 (fun j hj => (ho4.lt j hj).1); obtain ⟨a6, c6, rfl, hE6⟩ := HF.out v6 w6 ho6; have hS := (KK.out _ hb6).1.1; clear hg6 ho6 ho4 q4)
          | (refine step_append_any _ rfl (.tmp 40) (.tmp 44) 22 rfl w1.heap.size 39 i1 _ 2 16 Try.underlying22 hj hy0 hy1 hy2 rfl (by decide) v4 N (cellsE es) (by simp [Act.eval]) ho4 (some ⟨w1.heap.size, 0, none⟩) 1 1 [.int .i64 x, .int .i64 y] (by simp [Act.eval]) (fun h => by cases h) rfl (fun p hp => by cases hp; exact cells_two q4.out) HON2.out H632.out HBY2.out (KK.out _ hb4).2.2 ?_; intro v6 w6 ho6 hg6 _; have hb6 := Below.grown hb4 hg6 (KK.out _ hb4).2.2 (fun j hj => (ho4.lt j hj).1); obtain ⟨a6, c6, rfl, hE6⟩ := HF.out v6 w6 ho6; have hS := (KK.out _ hb6).1.1; clear hg6 ho6 ho4 q4)
          | (refine step_append_any _ rfl (.tmp 40) (.tmp 44) 22 rfl w1.heap.size 39 i1 _ 2 16 Try.underlying22 hj hy0 hy1 hy2 rfl (by decide) v4 N (cellsE es) (by simp [Act.eval]) (ho4.alloc _) (some ⟨w4.heap.size, 0, none⟩) 1 1 [.int .i64 x, .int .i64 y] (by simp [Act.eval]) (fun h => by cases h) rfl (fun p hp => by cases hp; exact cells_two (heap_alloc_new _ _)) HON2.out H632.out HBY2.out (by have := (KK.out _ hb4).2.2; simp; omega) ?_; intro v6 w6 ho6 hg6 _; have hb6 := Below.grown (hb4.alloc (KK.out _ hb4).2.2 _) hg6 (by have := (KK.out _ hb4).2.2; simp; omega) (fun j hj => (ho4.lt j hj).1); obtain ⟨a6, c6, rfl, hE6⟩ := HF.out v6 w6 ho6; have hS := (KK.out _ hb6).1.1; clear hg6 ho6 ho4)
          | (go_at_call 12; refine (HRN.out w6 a6 c6 hE6).mono ?_; rintro e w7 ⟨er, ys, a7, c7, rfl, hn7, hs7, hE7, hb7⟩; have hz7 := KK.out w7 (hb6.trans (hb7.mono hb6.size)); have hS := hz7.1.1; have t0 := cell_of_heap hz7.1.2 0; have t1 := cell_of_heap hz7.1.2 1; have tf := frozen_of_heap hz7.1.2))
        all_goals
          have HNE := hid (eat_off_box hz7.1.2 hE7)
          have HZ7 := hid hz7.2.1
          have HN7 := hid hn7
          have HS7 := hid hs7
          have HE7 := hid hE7
          clear hn7 hs7 hE7 hb7 hS0 hSA hSB hSC hSD hz7
          go_wp2
          refine bodyPost_ret (v := .tuple #[.agg #[.int .i64 (nOf n er), .slice a7 ys.length c7], .int .i64 er]) ?_ rfl ⟨er, ys, a7, c7, rfl, add_of_norm HRG.out HIN.out heq HN7.out, HS7.out, (HE7.out.set (p := ⟨w.heap.size + 1, 0, none⟩) HNE.out _).set (p := ⟨w.heap.size + 1, 1, none⟩) HNE.out _, (HZ7.out.setCell (p := ⟨w.heap.size + 1, 0, none⟩) (by simp) _).setCell (p := ⟨w.heap.size + 1, 1, none⟩) (by simp) _⟩
          rw [results_cell_tmp rfl]
          go_simp
end Go.Proofs.Ytalhjankofdhgaa
