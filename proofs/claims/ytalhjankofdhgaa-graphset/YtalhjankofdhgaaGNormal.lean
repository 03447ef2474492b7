/-
  graph.Normal: the edges that were told, in order, each once.
-/
import Derived.Test.YtalhjankofdhgaaGComp2
namespace Go.Proofs.Ytalhjankofdhgaa
open Go.RowKit Go.Lib

theorem two_cells {w : World} {b : Nat} {x y : Value} {T : TypeId} {fr : Nat × Nat} (h : w.heap[b]? = some (.cells #[x, y] T fr)) : w.cell? ⟨b, 0, none⟩ = some x ∧ w.cell? ⟨b, 1, none⟩ = some y := ⟨cell_of_heap h 0, cell_of_heap h 1⟩
theorem cells_two {w : World} {b : Nat} {x y : Value} {T : TypeId} {fr : Nat × Nat} (h : w.heap[b]? = some (.cells #[x, y] T fr)) : ∀ j v, [x, y][j]? = some v → w.cell? ((⟨b, 0, none⟩ : Addr).add j) = some v := by
  intro j v hj
  rw [add_at, Nat.zero_add, cell_of_heap h]
  simpa using hj
theorem allIn_snoc {n : Int} {l : List (Int × Int)} {e : Int × Int} (h : AllIn n l) (he : (0 ≤ e.1 ∧ e.1 < n) ∧ (0 ≤ e.2 ∧ e.2 < n)) : AllIn n (l ++ [e]) := by
  intro x hx
  rcases List.mem_append.1 hx with hx | hx
  · exact h x hx
  · simp at hx; subst hx; exact he
theorem allIn_take {n : Int} {l : List (Int × Int)} {k : Nat} (hk : k < l.length) (h : AllIn n (l.take k)) (he : (0 ≤ l[k].1 ∧ l[k].1 < n) ∧ (0 ≤ l[k].2 ∧ l[k].2 < n)) : AllIn n (l.take (k + 1)) := by
  rw [List.take_succ_eq_append_getElem hk]
  exact allIn_snoc h he

/-- What Normal answers. -/
def NormE (n : Int) (l : List (Int × Int)) (er : Int) (es : List (Int × Int)) : Prop :=
  (n < 0 ∧ er = 1 ∧ es = []) ∨ (1000 < n ∧ er = 5 ∧ es = []) ∨ ((0 ≤ n ∧ n ≤ 1000) ∧ ¬ AllIn n l ∧ er = 4 ∧ es = []) ∨
  ((0 ≤ n ∧ n ≤ 1000) ∧ AllIn n l ∧ er = 5 ∧ es = [] ∧ ∃ x, IsNorm l x ∧ 4000 < x.length) ∨ ((0 ≤ n ∧ n ≤ 1000) ∧ AllIn n l ∧ er = 0 ∧ IsNorm l es ∧ es.length ≤ 4000)
def nOf (n er : Int) : Int := if er = 0 then n else 0

set_option maxHeartbeats 2000000 in
set_option maxRecDepth 100000 in
theorem normal_any (n : Int) (a : Option Addr) (cap : Nat) (l : List (Int × Int)) (w : World) (hN : l.length ≤ 1000000) (hE : EAt w a l) :
    Calls Try.prog 11 #[.int .i64 n, .slice a l.length cap] w fun e w' => ∃ er es a' cap', e = .returned (.tuple #[.agg #[.int .i64 (nOf n er), .slice a' es.length cap'], .int .i64 er]) ∧ NormE n l er es ∧ Sl a' cap' es.length ∧ EAt w' a' es ∧ Below w.heap.size w w' := by
  obtain ⟨i0, hi, hz0, hz1, hz2⟩ := info_parts Try.info39
  obtain ⟨N, hNe⟩ : ∃ N, N = l.length := ⟨_, rfl⟩
  rw [← hNe] at hN ⊢
  have HN : Hid (N = l.length) := hNe
  have HE : Hid (EAt w a l) := hE
  clear hNe hE
  by_cases h1 : n < 0
  · go_enter Try.func11, Try.ntmps11
    go_wp2
    refine bodyPost_ret (v := .tuple #[.agg #[.int .i64 0, .slice none 0 0], .int .i64 1]) ?_ rfl ⟨1, [], none, 0, rfl, Or.inl ⟨h1, rfl, rfl⟩, sl_nil, eat_nil _ _, (Below.refl _ _).alloc (Nat.le_refl _) _⟩
    rw [results_cell_tmp rfl]
    go_simp
  by_cases h2 : 1000 < n
  · go_enter Try.func11, Try.ntmps11
    go_wp2
    refine bodyPost_ret (v := .tuple #[.agg #[.int .i64 0, .slice none 0 0], .int .i64 5]) ?_ rfl ⟨5, [], none, 0, rfl, Or.inr (Or.inl ⟨h2, rfl, rfl⟩), sl_nil, eat_nil _ _, (Below.refl _ _).alloc (Nat.le_refl _) _⟩
    rw [results_cell_tmp rfl]
    go_simp
  have h1' : 0 ≤ n := by omega
  have h2' : n ≤ 1000 := by omega
  clear h1 h2
  go_enter Try.func11, Try.ntmps11
  go_wp2
  obtain ⟨W0, hW0⟩ : ∃ W0, W0 = w.alloc (.cells #[.int .i64 0, .slice none 0 0] 25) := ⟨_, rfl⟩
  have hsz0 : W0.heap.size = w.heap.size + 1 := by rw [hW0]; simp
  have HBX : Hid (W0.heap[w.heap.size]? = some (.cells #[.int .i64 0, .slice none 0 0] 25 (0, 0))) := by
    show W0.heap[w.heap.size]? = _
    rw [hW0]; exact heap_alloc_new _ _
  have HB0 : Hid (Below w.heap.size w W0) := by
    show Below w.heap.size w W0
    rw [hW0]; exact (Below.refl _ _).alloc (Nat.le_refl _) _
  rw [← hW0]
  clear hW0
  have HE0 : Hid (EAt W0 a l) := HE.out.below HB0.out
  go_loopw [6, 19] (fun v i wr => ∃ k : Nat, k ≤ N ∧ i = .int .i64 k ∧ Hid (wr.ownsRow W0.heap.size 39 2 v (prs (l.take k)).length (cellsE (prs (l.take k)))) ∧ Hid (AllIn n (l.take k)) ∧ Below W0.heap.size W0 wr) (fun _ i _ => N - (RowKit.intOf i).toNat)
  case atStart => exact ⟨0, Nat.zero_le _, rfl, World.ownsRow_nil _ _ _ _, fun e he => absurd he (by simp), Below.refl _ _⟩
  case round =>
    obtain ⟨k, hk, rfl, hown, hall, hbr⟩ := hrel
    have hszr := hbr.size
    rw [hsz0] at hszr
    by_cases hlt : k < N
    · have hkr : k < l.length := by rw [← HN.out]; exact hlt
      obtain ⟨g, off, rfl, hg, hcs⟩ := HE0.out.at hkr
      obtain ⟨e1, he1⟩ := ex_eq l[k].1
      obtain ⟨e2, he2⟩ := ex_eq l[k].2
      have d := hcs wr hbr k hkr
      rw [← he1, ← he2] at d
      obtain ⟨d0, d1⟩ := d
      have HES : Hid (e1 = l[k].1 ∧ e2 = l[k].2) := ⟨he1, he2⟩
      obtain ⟨b1, hb1⟩ := ex_eq (decide (0 ≤ e1 ∧ e1 < n))
      obtain ⟨b2, hb2⟩ := ex_eq (decide (0 ≤ e2 ∧ e2 < n))
      have HV1 : Hid (∀ W, Calls Try.prog 30 #[.int .i64 n, .int .i64 e1] W fun e w' => e = .returned (.bool b1) ∧ w' = W) := fun W => by rw [hb1]; exact isVertex_any n e1 W
      have HV2 : Hid (∀ W, Calls Try.prog 30 #[.int .i64 n, .int .i64 e2] W fun e w' => e = .returned (.bool b2) ∧ w' = W) := fun W => by rw [hb2]; exact isVertex_any n e2 W
      have HBB : Hid (b1 = decide (0 ≤ e1 ∧ e1 < n) ∧ b2 = decide (0 ≤ e2 ∧ e2 < n)) := ⟨hb1, hb2⟩
      have bx := HBX.out
      have bxr : (wr.alloc (.cells #[.int .i64 e1, .int .i64 e2] 39)).heap[w.heap.size]? = some (.cells #[.int .i64 0, .slice none 0 0] 25 (0, 0)) := by
        rw [Below.heap_alloc _ _ _ (by omega)]
        exact (hbr.block _ (by omega)).trans bx
      obtain ⟨x0, x1⟩ := two_cells bxr
      have xf := frozen_of_heap bxr
      have hbV : Below W0.heap.size W0 (wr.alloc (.cells #[.int .i64 e1, .int .i64 e2] 39)) := hbr.alloc hbr.size _
      clear hcs he1 he2 hb1 hb2 bx bxr
      have bad : b1 = false ∨ b2 = false → Hid (¬ AllIn n l) := fun h ha => by
        have hx := ha l[k] (List.getElem_mem _)
        obtain ⟨he1, he2⟩ := HES.out
        obtain ⟨hb1, hb2⟩ := HBB.out
        rw [← he1, ← he2] at hx
        rcases h with h | h
        · rw [h] at hb1
          have := of_decide_eq_false hb1.symm
          exact this hx.1
        · rw [h] at hb2
          have := of_decide_eq_false hb2.symm
          exact this hx.2
      cases b1 with
      | false =>
        have HBAD := bad (Or.inl rfl)
        clear bad
        go_wp2_with (go_at_call 30; refine (HV1.out _).mono ?_; rintro e w' ⟨rfl, rfl⟩)
        refine bodyPost_ret (v := .tuple #[.agg #[.int .i64 0, .slice none 0 0], .int .i64 4]) ?_ rfl ⟨4, [], none, 0, rfl, Or.inr (Or.inr (Or.inl ⟨⟨h1', h2'⟩, HBAD.out, rfl, rfl⟩)), sl_nil, eat_nil _ _, ?_⟩
        · rw [results_cell_tmp rfl]
          go_simp
        · exact (HB0.out.trans (hbV.mono (by omega))).trans (((Below.refl _ _).setCell (p := ⟨w.heap.size, 0, none⟩) (Nat.le_refl _) _).setCell (p := ⟨w.heap.size, 1, none⟩) (Nat.le_refl _) _)
      | true =>
        cases b2 with
        | false =>
          have HBAD := bad (Or.inr rfl)
          clear bad
          go_wp2_with fail
          refine (HV1.out _).mono ?_
          rintro e w' ⟨rfl, rfl⟩
          go_wp2_with fail
          refine (HV2.out _).mono ?_
          rintro e w' ⟨rfl, rfl⟩
          go_wp2
          refine bodyPost_ret (v := .tuple #[.agg #[.int .i64 0, .slice none 0 0], .int .i64 4]) ?_ rfl ⟨4, [], none, 0, rfl, Or.inr (Or.inr (Or.inl ⟨⟨h1', h2'⟩, HBAD.out, rfl, rfl⟩)), sl_nil, eat_nil _ _, ?_⟩
          · rw [results_cell_tmp rfl]
            go_simp
          · exact (HB0.out.trans (hbV.mono (by omega))).trans (((Below.refl _ _).setCell (p := ⟨w.heap.size, 0, none⟩) (Nat.le_refl _) _).setCell (p := ⟨w.heap.size, 1, none⟩) (Nat.le_refl _) _)
        | true =>
          clear bad
          have HIN : Hid (AllIn n (l.take (k + 1))) := allIn_take hkr hall.out (by
            obtain ⟨he1, he2⟩ := HES.out
            obtain ⟨hb1, hb2⟩ := HBB.out
            rw [← he1, ← he2]
            exact ⟨of_decide_eq_true hb1.symm, of_decide_eq_true hb2.symm⟩)
          have HPR : Hid (prs (l.take (k + 1)) = prs (l.take k) ++ prs [(e1, e2)]) := by
            show prs (l.take (k + 1)) = _
            rw [List.take_succ_eq_append_getElem hkr, prs_snoc, HES.out.1, HES.out.2]
          have hownV : (wr.alloc (.cells #[.int .i64 e1, .int .i64 e2] 39)).ownsRow W0.heap.size 39 2 u6 (prs (l.take k)).length (cellsE (prs (l.take k))) := hown.out.alloc _
          by_cases heq : e1 = e2
          · subst heq
            have HO : Hid ((wr.alloc (.cells #[.int .i64 e1, .int .i64 e1] 39)).ownsRow W0.heap.size 39 2 u6 (prs (l.take (k + 1))).length (cellsE (prs (l.take (k + 1))))) := by
              show World.ownsRow _ _ _ _ _ _ _
              rw [HPR.out, prs_same rfl, List.append_nil]
              exact hownV
            clear hownV
            go_wp2_with fail
            refine (HV1.out _).mono ?_
            rintro e w' ⟨rfl, rfl⟩
            go_wp2_with fail
            refine (HV2.out _).mono ?_
            rintro e w' ⟨rfl, rfl⟩
            go_wp2
            go_roundw
            case rel => exact ⟨k + 1, by omega, by go_num, HO, HIN, hbV⟩
            case measure => simp [RowKit.intOf]; omega
          · have hbq : (e1 == e2) = false := beq_eq_false_iff_ne.2 heq
            have hlen : (prs (l.take k)).length ≤ k := Nat.le_trans (prs_len _) (by rw [List.length_take]; omega)
            have HPR2 : Hid (prs (l.take (k + 1)) = prs (l.take k) ++ [(min e1 e2, max e1 e2)]) := by
              show prs (l.take (k + 1)) = _
              rw [HPR.out, prs_one heq]
            have HOV : Hid ((wr.alloc (.cells #[.int .i64 e1, .int .i64 e2] 39)).ownsRow W0.heap.size 39 2 u6 (prs (l.take k)).length (cellsE (prs (l.take k)))) := hownV
            clear hownV
            go_wp2_with fail
            refine (HV1.out _).mono ?_
            rintro e w' ⟨rfl, rfl⟩
            go_wp2_with fail
            refine (HV2.out _).mono ?_
            rintro e w' ⟨rfl, rfl⟩
            go_wp2_with fail
            refine (joining_any e1 e2 _).mono ?_
            rintro e w2 ⟨rfl, os, hw2⟩
            have hbg := grow_below (wr.alloc (.cells #[.int .i64 e1, .int .i64 e2] 39)) os
            rw [← hw2] at hbg
            have hown2 := own_below HOV.out hbg
            have hb2 : Below W0.heap.size W0 w2 := hbV.trans (hbg.mono hbV.size)
            have hs2 := hb2.size
            obtain ⟨lo, hlo⟩ := ex_eq (min e1 e2)
            obtain ⟨hi', hhi⟩ := ex_eq (max e1 e2)
            rw [← hlo, ← hhi]
            have HLH : Hid (lo = min e1 e2 ∧ hi' = max e1 e2) := ⟨hlo, hhi⟩
            obtain ⟨P, hP⟩ := ex_eq (prs (l.take k))
            rw [← hP] at hlen hown2
            have HP : Hid (P = prs (l.take k)) := hP
            clear hw2 hbg hlo hhi x0 x1 xf d0 d1 hP hown HOV HPR
            go_wp2_with (at_builtin; refine wpList_append_own _ rfl _ _ 22 rfl W0.heap.size 39 i0 _ 2 16 Try.underlying22 hi hz0 hz1 hz2 rfl (by decide) _ _ _ rfl (hown2.alloc _) _ 1 1 [.int .i64 lo, .int .i64 hi'] rfl rfl ?c1 ?c2 ?c3 ?c4 ?c5 ?_)
            case c1 => exact cells_two (heap_alloc_new _ _)
            case c2 =>
              intro u hu
              simp at hu
              rcases hu with rfl | rfl <;> rfl
            case c3 => unfold maxLen; omega
            case c4 => omega
            case c5 => simp; omega
            intro v' w4 hown4 hgrow _
            have hb4 : Below W0.heap.size W0 w4 := Below.grown (hb2.alloc hs2 _) hgrow (by simp; omega) (fun j hj => (hown2.lt j hj).1)
            have HO : Hid (w4.ownsRow W0.heap.size 39 2 v' (prs (l.take (k + 1))).length (cellsE (prs (l.take (k + 1))))) := by
              show w4.ownsRow W0.heap.size 39 2 v' (prs (l.take (k + 1))).length (cellsE (prs (l.take (k + 1))))
              rw [HPR2.out, ← HP.out, ← HLH.out.1, ← HLH.out.2, cellsE_append, List.length_append, hsz0]
              exact hown4
            clear hgrow hown2 hown4 hi hz0 hz1 hz2
            go_wp2
            go_roundw
            case rel => exact ⟨k + 1, by omega, by go_num, HO, HIN, hb4⟩
            case measure => simp [RowKit.intOf]; omega
    · obtain rfl : k = N := by omega
      have htk : l.take k = l := by rw [HN.out, List.take_length]
      rw [htk] at hown hall
      have hpl : (prs l).length ≤ 1000000 := Nat.le_trans (prs_len _) (by rw [← HN.out]; exact hN)
      have HEO : Hid (Calls Try.prog 32 #[u6] wr fun e w' => ∃ a cap es', e = .returned (.slice a es'.length cap) ∧ Sl a cap es'.length ∧ EAt w' a es' ∧ (0 < es'.length → ∃ g, a = some ⟨g, 0, none⟩ ∧ W0.heap.size ≤ g) ∧ Rises es' ∧ (∀ x, x ∈ es' ↔ x ∈ prs l) ∧ Below W0.heap.size wr w') := eachOnce_any u6 W0.heap.size (prs l) wr hown.out hbr.size hpl
      clear hown hi hz0 hz1 hz2 htk
      go_wp2_with fail
      refine HEO.out.mono ?_
      rintro e w2 ⟨a2, cap2, es, rfl, hcap, hE2, hge, hR2, hm2, hb2⟩
      have HGE : Hid (0 < es.length → ∃ g, a2 = some ⟨g, 0, none⟩ ∧ W0.heap.size ≤ g) := hge
      clear hge
      have HNM : Hid (IsNorm l es) := ⟨hR2, hm2⟩
      have HE2 : Hid (EAt w2 a2 es) := hE2
      have hbw : Below W0.heap.size W0 w2 := hbr.trans hb2
      have bx : w2.heap[w.heap.size]? = some (.cells #[.int .i64 0, .slice none 0 0] 25 (0, 0)) := (hbw.block _ (by omega)).trans HBX.out
      obtain ⟨x0, x1⟩ := two_cells bx
      have xf := frozen_of_heap bx
      have hs2 := hbw.size
      obtain ⟨M, hM⟩ := ex_eq es.length
      have HM : Hid (M = es.length) := hM
      have HSL : Hid (Sl a2 cap2 es.length) := hcap
      rw [← hM]
      clear hcap hE2 hR2 hm2 hb2 bx HEO hM
      by_cases h4 : 4000 < M
      · have h4' : (4000 : Int) < (M : Int) := by omega
        go_wp2
        refine bodyPost_ret (v := .tuple #[.agg #[.int .i64 0, .slice none 0 0], .int .i64 5]) ?_ rfl ⟨5, [], none, 0, rfl, Or.inr (Or.inr (Or.inr (Or.inl ⟨⟨h1', h2'⟩, hall.out, rfl, rfl, es, HNM.out, by rw [← HM.out]; exact h4⟩))), sl_nil, eat_nil _ _, ?_⟩
        · rw [results_cell_tmp rfl]
          go_simp
        · exact (HB0.out.trans (hbw.mono (by omega))).trans (((Below.refl _ _).setCell (p := ⟨w.heap.size, 0, none⟩) (Nat.le_refl _) _).setCell (p := ⟨w.heap.size, 1, none⟩) (Nat.le_refl _) _)
      · have h4' : ¬ (4000 : Int) < (M : Int) := by omega
        go_wp2
        refine bodyPost_ret (v := .tuple #[.agg #[.int .i64 n, .slice a2 M cap2], .int .i64 0]) ?_ rfl ⟨0, es, a2, cap2, by rw [← HM.out]; rfl, Or.inr (Or.inr (Or.inr (Or.inr ⟨⟨h1', h2'⟩, hall.out, rfl, HNM.out, by rw [← HM.out]; omega⟩))), HSL.out, ?_, ?_⟩
        · rw [results_cell_tmp rfl]
          go_simp
        · have hne : ∀ g off, 0 < es.length → a2 = some ⟨g, off, none⟩ → g ≠ w.heap.size := fun g off h0 ha => by
            obtain ⟨g', hg', hge⟩ := HGE.out h0
            rw [hg'] at ha
            simp only [Option.some.injEq, Addr.mk.injEq, and_true] at ha
            omega
          exact (HE2.out.set (p := ⟨w.heap.size, 0, none⟩) hne _).set (p := ⟨w.heap.size, 1, none⟩) hne _
        · exact (HB0.out.trans (hbw.mono (by omega))).trans (((Below.refl _ _).setCell (p := ⟨w.heap.size, 0, none⟩) (Nat.le_refl _) _).setCell (p := ⟨w.heap.size, 1, none⟩) (Nat.le_refl _) _)
end Go.Proofs.Ytalhjankofdhgaa
