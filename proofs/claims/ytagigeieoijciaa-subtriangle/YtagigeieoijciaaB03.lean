/-
  graph.Normal: the edges that were told, in order, each once.
  graph.neighbours, and the closure that it hands back: which vertices come, in which order.
-/
import Derived.Test.YtagigeieoijciaaB02
import Derived.Test.YtagigeieoijciaaB01
import Derived.RangeFuncNested
import Derived.RangeFuncBound
import Derived.RangeFuncCalls
import Derived.RangeFuncLeaves
import Derived.RangeFuncBox
import Derived.Shelf.Abstract
import Derived.Shelf.RegionOpen
import Derived.OwnWalkIn
import Derived.TacticsInMore
import Derived.LoopNIn
import Derived.LoopIn
namespace Go.Proofs.Ytagigeieoijciaa
open Go.RowKit Go.Lib

theorem two_cells {w : World} {b : Nat} {x y : Value} {T : TypeId} {fr : Nat × Nat} (h : w.heap[b]? = some (.cells #[x, y] T fr)) : w.cell? ⟨b, 0, none⟩ = some x ∧ w.cell? ⟨b, 1, none⟩ = some y := ⟨cell_of_heap h 0, cell_of_heap h 1⟩
theorem cells_two {w : World} {b : Nat} {x y : Value} {T : TypeId} {fr : Nat × Nat} (h : w.heap[b]? = some (.cells #[x, y] T fr)) : ∀ j v, [x, y][j]? = some v → w.cell? ((⟨b, 0, none⟩ : Addr).add j) = some v := by
  intro j v hj
  rw [add_at, Nat.zero_add, cell_of_heap h]
  simpa using hj
theorem allIn_snoc {n : Int} {l : List (Int × Int)} {e : Int × Int} (h : AllIn n l) (he : (0 ≤ e.1 ∧ e.1 < n) ∧ (0 ≤ e.2 ∧ e.2 < n)) : AllIn n (l ++ [e]) := by
  intro x hx
  rcases List.mem_append.1 hx with hx | hx
  · exact h x hx
  · simp at hx; subst hx; exact he
theorem allIn_take {n : Int} {l : List (Int × Int)} {k : Nat} (hk : k < l.length) (h : AllIn n (l.take k)) (he : (0 ≤ l[k].1 ∧ l[k].1 < n) ∧ (0 ≤ l[k].2 ∧ l[k].2 < n)) : AllIn n (l.take (k + 1)) := by
  rw [List.take_succ_eq_append_getElem hk]
  exact allIn_snoc h he

/-- What Normal answers. -/
def NormE (n : Int) (l : List (Int × Int)) (er : Int) (es : List (Int × Int)) : Prop :=
  (n < 0 ∧ er = 1 ∧ es = []) ∨ (1000 < n ∧ er = 5 ∧ es = []) ∨ ((0 ≤ n ∧ n ≤ 1000) ∧ ¬ AllIn n l ∧ er = 4 ∧ es = []) ∨
  ((0 ≤ n ∧ n ≤ 1000) ∧ AllIn n l ∧ er = 5 ∧ es = [] ∧ ∃ x, IsNorm l x ∧ 4000 < x.length) ∨ ((0 ≤ n ∧ n ≤ 1000) ∧ AllIn n l ∧ er = 0 ∧ IsNorm l es ∧ es.length ≤ 4000)
def nOf (n er : Int) : Int := if er = 0 then n else 0

set_option maxHeartbeats 2000000 in
set_option maxRecDepth 100000 in
theorem normal_any (n : Int) (a : Option Addr) (cap : Nat) (l : List (Int × Int)) (w : World) (hN : l.length ≤ 1000000) (hE : EAt w a l) :
    Calls Try.prog 44 #[.int .i64 n, .slice a l.length cap] w fun e w' => ∃ er es a' cap', e = .returned (.tuple #[.agg #[.int .i64 (nOf n er), .slice a' es.length cap'], .int .i64 er]) ∧ NormE n l er es ∧ Sl a' cap' es.length ∧ EAt w' a' es ∧ Below w.heap.size w w' := by
  obtain ⟨i0, hi, hz0, hz1, hz2⟩ := info_parts Try.info40
  obtain ⟨N, hNe⟩ : ∃ N, N = l.length := ⟨_, rfl⟩
  rw [← hNe] at hN ⊢
  have HN : Hid (N = l.length) := hNe
  have HE : Hid (EAt w a l) := hE
  clear hNe hE
  by_cases h1 : n < 0
  · go_enter Try.func44, Try.ntmps44
    go_wp2
    refine bodyPost_ret (v := .tuple #[.agg #[.int .i64 0, .slice none 0 0], .int .i64 1]) ?_ rfl ⟨1, [], none, 0, rfl, Or.inl ⟨h1, rfl, rfl⟩, sl_nil, eat_nil _ _, (Below.refl _ _).alloc (Nat.le_refl _) _⟩
    rw [results_cell_tmp rfl]
    go_simp
  by_cases h2 : 1000 < n
  · go_enter Try.func44, Try.ntmps44
    go_wp2
    refine bodyPost_ret (v := .tuple #[.agg #[.int .i64 0, .slice none 0 0], .int .i64 5]) ?_ rfl ⟨5, [], none, 0, rfl, Or.inr (Or.inl ⟨h2, rfl, rfl⟩), sl_nil, eat_nil _ _, (Below.refl _ _).alloc (Nat.le_refl _) _⟩
    rw [results_cell_tmp rfl]
    go_simp
  have h1' : 0 ≤ n := by omega
  have h2' : n ≤ 1000 := by omega
  clear h1 h2
  go_enter Try.func44, Try.ntmps44
  go_wp2
  obtain ⟨W0, hW0⟩ : ∃ W0, W0 = w.alloc (.cells #[.int .i64 0, .slice none 0 0] 27) := ⟨_, rfl⟩
  have hsz0 : W0.heap.size = w.heap.size + 1 := by rw [hW0]; simp
  have HBX : Hid (W0.heap[w.heap.size]? = some (.cells #[.int .i64 0, .slice none 0 0] 27 (0, 0))) := by
    show W0.heap[w.heap.size]? = _
    rw [hW0]; exact heap_alloc_new _ _
  have HB0 : Hid (Below w.heap.size w W0) := by
    show Below w.heap.size w W0
    rw [hW0]; exact (Below.refl _ _).alloc (Nat.le_refl _) _
  rw [← hW0]
  clear hW0
  have HE0 : Hid (EAt W0 a l) := HE.out.below HB0.out
  go_loopw [6, 19] (fun v i wr => ∃ k : Nat, k ≤ N ∧ i = .int .i64 k ∧ Hid (wr.ownsRow W0.heap.size 40 2 v (prs (l.take k)).length (cellsE (prs (l.take k)))) ∧ Hid (AllIn n (l.take k)) ∧ Below W0.heap.size W0 wr) (fun _ i _ => N - (RowKit.intOf i).toNat)
  case atStart => exact ⟨0, Nat.zero_le _, rfl, World.ownsRow_nil _ _ _ _, fun e he => absurd he (by simp), Below.refl _ _⟩
  case round =>
    obtain ⟨k, hk, rfl, hown, hall, hbr⟩ := hrel
    have hszr := hbr.size
    rw [hsz0] at hszr
    by_cases hlt : k < N
    · have hkr : k < l.length := by rw [← HN.out]; exact hlt
      obtain ⟨g, off, rfl, hg, hcs⟩ := HE0.out.at hkr
      obtain ⟨e1, he1⟩ := ex_eq l[k].1
      obtain ⟨e2, he2⟩ := ex_eq l[k].2
      have d := hcs wr hbr k hkr
      rw [← he1, ← he2] at d
      obtain ⟨d0, d1⟩ := d
      have HES : Hid (e1 = l[k].1 ∧ e2 = l[k].2) := ⟨he1, he2⟩
      obtain ⟨b1, hb1⟩ := ex_eq (decide (0 ≤ e1 ∧ e1 < n))
      obtain ⟨b2, hb2⟩ := ex_eq (decide (0 ≤ e2 ∧ e2 < n))
      have HV1 : Hid (∀ W, Calls Try.prog 50 #[.int .i64 n, .int .i64 e1] W fun e w' => e = .returned (.bool b1) ∧ w' = W) := fun W => by rw [hb1]; exact isVertex_any n e1 W
      have HV2 : Hid (∀ W, Calls Try.prog 50 #[.int .i64 n, .int .i64 e2] W fun e w' => e = .returned (.bool b2) ∧ w' = W) := fun W => by rw [hb2]; exact isVertex_any n e2 W
      have HBB : Hid (b1 = decide (0 ≤ e1 ∧ e1 < n) ∧ b2 = decide (0 ≤ e2 ∧ e2 < n)) := ⟨hb1, hb2⟩
      have bx := HBX.out
      have bxr : (wr.alloc (.cells #[.int .i64 e1, .int .i64 e2] 40)).heap[w.heap.size]? = some (.cells #[.int .i64 0, .slice none 0 0] 27 (0, 0)) := by
        rw [Below.heap_alloc _ _ _ (by omega)]
        exact (hbr.block _ (by omega)).trans bx
      obtain ⟨x0, x1⟩ := two_cells bxr
      have xf := frozen_of_heap bxr
      have hbV : Below W0.heap.size W0 (wr.alloc (.cells #[.int .i64 e1, .int .i64 e2] 40)) := hbr.alloc hbr.size _
      clear hcs he1 he2 hb1 hb2 bx bxr
      have bad : b1 = false ∨ b2 = false → Hid (¬ AllIn n l) := fun h ha => by
        have hx := ha l[k] (List.getElem_mem _)
        obtain ⟨he1, he2⟩ := HES.out
        obtain ⟨hb1, hb2⟩ := HBB.out
        rw [← he1, ← he2] at hx
        rcases h with h | h
        · rw [h] at hb1
          have := of_decide_eq_false hb1.symm
          exact this hx.1
        · rw [h] at hb2
          have := of_decide_eq_false hb2.symm
          exact this hx.2
      cases b1 with
      | false =>
        have HBAD := bad (Or.inl rfl)
        clear bad
        go_wp2_with (go_at_call 50; refine (HV1.out _).mono ?_; rintro e w' ⟨rfl, rfl⟩)
        refine bodyPost_ret (v := .tuple #[.agg #[.int .i64 0, .slice none 0 0], .int .i64 4]) ?_ rfl ⟨4, [], none, 0, rfl, Or.inr (Or.inr (Or.inl ⟨⟨h1', h2'⟩, HBAD.out, rfl, rfl⟩)), sl_nil, eat_nil _ _, ?_⟩
        · rw [results_cell_tmp rfl]
          go_simp
        · exact (HB0.out.trans (hbV.mono (by omega))).trans (((Below.refl _ _).setCell (p := ⟨w.heap.size, 0, none⟩) (Nat.le_refl _) _).setCell (p := ⟨w.heap.size, 1, none⟩) (Nat.le_refl _) _)
      | true =>
        cases b2 with
        | false =>
          have HBAD := bad (Or.inr rfl)
          clear bad
          go_wp2_with fail
          refine (HV1.out _).mono ?_
          rintro e w' ⟨rfl, rfl⟩
          go_wp2_with fail
          refine (HV2.out _).mono ?_
          rintro e w' ⟨rfl, rfl⟩
          go_wp2
          refine bodyPost_ret (v := .tuple #[.agg #[.int .i64 0, .slice none 0 0], .int .i64 4]) ?_ rfl ⟨4, [], none, 0, rfl, Or.inr (Or.inr (Or.inl ⟨⟨h1', h2'⟩, HBAD.out, rfl, rfl⟩)), sl_nil, eat_nil _ _, ?_⟩
          · rw [results_cell_tmp rfl]
            go_simp
          · exact (HB0.out.trans (hbV.mono (by omega))).trans (((Below.refl _ _).setCell (p := ⟨w.heap.size, 0, none⟩) (Nat.le_refl _) _).setCell (p := ⟨w.heap.size, 1, none⟩) (Nat.le_refl _) _)
        | true =>
          clear bad
          have HIN : Hid (AllIn n (l.take (k + 1))) := allIn_take hkr hall.out (by
            obtain ⟨he1, he2⟩ := HES.out
            obtain ⟨hb1, hb2⟩ := HBB.out
            rw [← he1, ← he2]
            exact ⟨of_decide_eq_true hb1.symm, of_decide_eq_true hb2.symm⟩)
          have HPR : Hid (prs (l.take (k + 1)) = prs (l.take k) ++ prs [(e1, e2)]) := by
            show prs (l.take (k + 1)) = _
            rw [List.take_succ_eq_append_getElem hkr, prs_snoc, HES.out.1, HES.out.2]
          have hownV : (wr.alloc (.cells #[.int .i64 e1, .int .i64 e2] 40)).ownsRow W0.heap.size 40 2 u6 (prs (l.take k)).length (cellsE (prs (l.take k))) := hown.out.alloc _
          by_cases heq : e1 = e2
          · subst heq
            have HO : Hid ((wr.alloc (.cells #[.int .i64 e1, .int .i64 e1] 40)).ownsRow W0.heap.size 40 2 u6 (prs (l.take (k + 1))).length (cellsE (prs (l.take (k + 1))))) := by
              show World.ownsRow _ _ _ _ _ _ _
              rw [HPR.out, prs_same rfl, List.append_nil]
              exact hownV
            clear hownV
            go_wp2_with fail
            refine (HV1.out _).mono ?_
            rintro e w' ⟨rfl, rfl⟩
            go_wp2_with fail
            refine (HV2.out _).mono ?_
            rintro e w' ⟨rfl, rfl⟩
            go_wp2
            go_roundw
            case rel => exact ⟨k + 1, by omega, by go_num, HO, HIN, hbV⟩
            case measure => simp [RowKit.intOf]; omega
          · have hbq : (e1 == e2) = false := beq_eq_false_iff_ne.2 heq
            have hlen : (prs (l.take k)).length ≤ k := Nat.le_trans (prs_len _) (by rw [List.length_take]; omega)
            have HPR2 : Hid (prs (l.take (k + 1)) = prs (l.take k) ++ [(min e1 e2, max e1 e2)]) := by
              show prs (l.take (k + 1)) = _
              rw [HPR.out, prs_one heq]
            have HOV : Hid ((wr.alloc (.cells #[.int .i64 e1, .int .i64 e2] 40)).ownsRow W0.heap.size 40 2 u6 (prs (l.take k)).length (cellsE (prs (l.take k)))) := hownV
            clear hownV
            go_wp2_with fail
            refine (HV1.out _).mono ?_
            rintro e w' ⟨rfl, rfl⟩
            go_wp2_with fail
            refine (HV2.out _).mono ?_
            rintro e w' ⟨rfl, rfl⟩
            go_wp2_with fail
            refine (joining_any e1 e2 _).mono ?_
            rintro e w2 ⟨rfl, os, hw2⟩
            have hbg := grow_below (wr.alloc (.cells #[.int .i64 e1, .int .i64 e2] 40)) os
            rw [← hw2] at hbg
            have hown2 := own_below HOV.out hbg
            have hb2 : Below W0.heap.size W0 w2 := hbV.trans (hbg.mono hbV.size)
            have hs2 := hb2.size
            obtain ⟨lo, hlo⟩ := ex_eq (min e1 e2)
            obtain ⟨hi', hhi⟩ := ex_eq (max e1 e2)
            rw [← hlo, ← hhi]
            have HLH : Hid (lo = min e1 e2 ∧ hi' = max e1 e2) := ⟨hlo, hhi⟩
            obtain ⟨P, hP⟩ := ex_eq (prs (l.take k))
            rw [← hP] at hlen hown2
            have HP : Hid (P = prs (l.take k)) := hP
            clear hw2 hbg hlo hhi x0 x1 xf d0 d1 hP hown HOV HPR
            go_wp2_with (at_builtin; refine wpList_append_own _ rfl _ _ 22 rfl W0.heap.size 40 i0 _ 2 16 Try.underlying22 hi hz0 hz1 hz2 rfl (by decide) _ _ _ rfl (hown2.alloc _) _ 1 1 [.int .i64 lo, .int .i64 hi'] rfl rfl ?c1 ?c2 ?c3 ?c4 ?c5 ?_)
            case c1 => exact cells_two (heap_alloc_new _ _)
            case c2 =>
              intro u hu
              simp at hu
              rcases hu with rfl | rfl <;> rfl
            case c3 => unfold maxLen; omega
            case c4 => omega
            case c5 => simp; omega
            intro v' w4 hown4 hgrow _
            have hb4 : Below W0.heap.size W0 w4 := Below.grown (hb2.alloc hs2 _) hgrow (by simp; omega) (fun j hj => (hown2.lt j hj).1)
            have HO : Hid (w4.ownsRow W0.heap.size 40 2 v' (prs (l.take (k + 1))).length (cellsE (prs (l.take (k + 1))))) := by
              show w4.ownsRow W0.heap.size 40 2 v' (prs (l.take (k + 1))).length (cellsE (prs (l.take (k + 1))))
              rw [HPR2.out, ← HP.out, ← HLH.out.1, ← HLH.out.2, cellsE_append, List.length_append, hsz0]
              exact hown4
            clear hgrow hown2 hown4 hi hz0 hz1 hz2
            go_wp2
            go_roundw
            case rel => exact ⟨k + 1, by omega, by go_num, HO, HIN, hb4⟩
            case measure => simp [RowKit.intOf]; omega
    · obtain rfl : k = N := by omega
      have htk : l.take k = l := by rw [HN.out, List.take_length]
      rw [htk] at hown hall
      have hpl : (prs l).length ≤ 1000000 := Nat.le_trans (prs_len _) (by rw [← HN.out]; exact hN)
      have HEO : Hid (Calls Try.prog 52 #[u6] wr fun e w' => ∃ a cap es', e = .returned (.slice a es'.length cap) ∧ Sl a cap es'.length ∧ EAt w' a es' ∧ (0 < es'.length → ∃ g, a = some ⟨g, 0, none⟩ ∧ W0.heap.size ≤ g) ∧ Rises es' ∧ (∀ x, x ∈ es' ↔ x ∈ prs l) ∧ Below W0.heap.size wr w') := eachOnce_any u6 W0.heap.size (prs l) wr hown.out hbr.size hpl
      clear hown hi hz0 hz1 hz2 htk
      go_wp2_with fail
      refine HEO.out.mono ?_
      rintro e w2 ⟨a2, cap2, es, rfl, hcap, hE2, hge, hR2, hm2, hb2⟩
      have HGE : Hid (0 < es.length → ∃ g, a2 = some ⟨g, 0, none⟩ ∧ W0.heap.size ≤ g) := hge
      clear hge
      have HNM : Hid (IsNorm l es) := ⟨hR2, hm2⟩
      have HE2 : Hid (EAt w2 a2 es) := hE2
      have hbw : Below W0.heap.size W0 w2 := hbr.trans hb2
      have bx : w2.heap[w.heap.size]? = some (.cells #[.int .i64 0, .slice none 0 0] 27 (0, 0)) := (hbw.block _ (by omega)).trans HBX.out
      obtain ⟨x0, x1⟩ := two_cells bx
      have xf := frozen_of_heap bx
      have hs2 := hbw.size
      obtain ⟨M, hM⟩ := ex_eq es.length
      have HM : Hid (M = es.length) := hM
      have HSL : Hid (Sl a2 cap2 es.length) := hcap
      rw [← hM]
      clear hcap hE2 hR2 hm2 hb2 bx HEO hM
      by_cases h4 : 4000 < M
      · have h4' : (4000 : Int) < (M : Int) := by omega
        go_wp2
        refine bodyPost_ret (v := .tuple #[.agg #[.int .i64 0, .slice none 0 0], .int .i64 5]) ?_ rfl ⟨5, [], none, 0, rfl, Or.inr (Or.inr (Or.inr (Or.inl ⟨⟨h1', h2'⟩, hall.out, rfl, rfl, es, HNM.out, by rw [← HM.out]; exact h4⟩))), sl_nil, eat_nil _ _, ?_⟩
        · rw [results_cell_tmp rfl]
          go_simp
        · exact (HB0.out.trans (hbw.mono (by omega))).trans (((Below.refl _ _).setCell (p := ⟨w.heap.size, 0, none⟩) (Nat.le_refl _) _).setCell (p := ⟨w.heap.size, 1, none⟩) (Nat.le_refl _) _)
      · have h4' : ¬ (4000 : Int) < (M : Int) := by omega
        go_wp2
        refine bodyPost_ret (v := .tuple #[.agg #[.int .i64 n, .slice a2 M cap2], .int .i64 0]) ?_ rfl ⟨0, es, a2, cap2, by rw [← HM.out]; rfl, Or.inr (Or.inr (Or.inr (Or.inr ⟨⟨h1', h2'⟩, hall.out, rfl, HNM.out, by rw [← HM.out]; omega⟩))), HSL.out, ?_, ?_⟩
        · rw [results_cell_tmp rfl]
          go_simp
        · have hne : ∀ g off, 0 < es.length → a2 = some ⟨g, off, none⟩ → g ≠ w.heap.size := fun g off h0 ha => by
            obtain ⟨g', hg', hge⟩ := HGE.out h0
            rw [hg'] at ha
            simp only [Option.some.injEq, Addr.mk.injEq, and_true] at ha
            omega
          exact (HE2.out.set (p := ⟨w.heap.size, 0, none⟩) hne _).set (p := ⟨w.heap.size, 1, none⟩) hne _
        · exact (HB0.out.trans (hbw.mono (by omega))).trans (((Below.refl _ _).setCell (p := ⟨w.heap.size, 0, none⟩) (Nat.le_refl _) _).setCell (p := ⟨w.heap.size, 1, none⟩) (Nat.le_refl _) _)
end Go.Proofs.Ytagigeieoijciaa
namespace Go.Proofs.Ytagigeieoijciaa
open Go.RowKit Go.Lib Go.Shelf
attribute [local go_sem] Oper.semAt_some

/-- The other end of an edge that has v. -/
def other (v : Int) (e : Int × Int) : List Int := if e.1 = v then [e.2] else if e.2 = v then [e.1] else []
def nbL (v : Int) : List (Int × Int) → List Int
  | [] => []
  | e :: es => other v e ++ nbL v es
theorem nbL_append (v : Int) (a b : List (Int × Int)) : nbL v (a ++ b) = nbL v a ++ nbL v b := by
  induction a with
  | nil => rfl
  | cons e a ih => rw [List.cons_append, nbL, nbL, ih, List.append_assoc]
theorem nbL_take {v : Int} {es : List (Int × Int)} {k : Nat} (h : k < es.length) : nbL v (es.take (k + 1)) = nbL v (es.take k) ++ other v es[k] := by
  rw [List.take_succ_eq_append_getElem h, nbL_append, nbL, nbL, List.append_nil]
theorem nbL_prefix (v : Int) (es : List (Int × Int)) (k : Nat) : nbL v (es.take k) <+: nbL v es := by
  refine ⟨nbL v (es.drop k), ?_⟩
  rw [← nbL_append, List.take_append_drop]
theorem nbL_none {v : Int} {es : List (Int × Int)} (h : ∀ e ∈ es, v < e.1 ∧ v < e.2) : nbL v es = [] := by
  induction es with
  | nil => rfl
  | cons e es ih =>
    have := h e (by simp)
    rw [nbL, ih (fun e he => h e (by simp [he]))]
    unfold other
    rw [if_neg (by omega), if_neg (by omega)]
    rfl
/-- Behind an edge of which the first end is above v none has v. -/
theorem nbL_stop {n v : Int} {es : List (Int × Int)} {k : Nat} (hr : RightG n es) (hk : k < es.length) (h : v < es[k].1) : nbL v (es.take k) = nbL v es := by
  have h1 : nbL v es = nbL v (es.take k) ++ nbL v (es.drop k) := by rw [← nbL_append, List.take_append_drop]
  have h0 : nbL v (es.drop k) = [] := nbL_none ?_
  · rw [h1, h0, List.append_nil]
  intro e he
  obtain ⟨j, hj, rfl⟩ := List.getElem_of_mem he
  rw [List.getElem_drop]
  have hj' : k + j < es.length := by rw [List.length_drop] at hj; omega
  have h2 := (hr.at (k + j) hj').1
  have h3 : es[k].1 ≤ es[k + j].1 := by
    by_cases h0 : j = 0
    · subst h0; simp
    · have := rises_at hr.2.2.2.2 (i := k) (j := k + j) (by omega) hj'
      rw [ltE_iff] at this
      omega
  omega
theorem nbL_len (v : Int) (es : List (Int × Int)) : (nbL v es).length ≤ es.length := by
  induction es with
  | nil => simp [nbL]
  | cons e es ih =>
    rw [nbL, List.length_append]
    have : (other v e).length ≤ 1 := by
      unfold other
      by_cases h1 : e.1 = v
      · rw [if_pos h1]; simp
      · rw [if_neg h1]
        by_cases h2 : e.2 = v
        · rw [if_pos h2]; simp
        · rw [if_neg h2]; simp
    simp; omega

theorem grown_of_below {w w' : World} (h : Below w.heap.size w w') : w.grownBy w' none := ⟨h.os, h.tape, h.output, h.size, fun k hk _ => h.block k hk⟩
theorem abides_below {β : Type} {B : Nat} {J : β → World → Prop} (hJ : AbidesFrom B J) {s : β} {w w' : World} (h : J s w) (hb : Below w.heap.size w w') : J s w' := hJ s w w' none h (grown_of_below hb) (fun r e => by cases e)

set_option maxHeartbeats 1000000 in
theorem neighbours_any (gv : Value) (n : Int) (a : Option Addr) (N cap : Nat) (v : Int) (w : World) (hg : gv = .agg #[.int .i64 n, .slice a N cap]) :
    Calls Try.prog 39 #[gv, .int .i64 v] w fun e w' => e = .returned (.func (.func 47) #[] #[.pointer (some ⟨w.heap.size, 0, none⟩), .pointer (some ⟨w.heap.size + 1, 0, none⟩)]) ∧ w' = (w.alloc (.cells #[.int .i64 n, .slice a N cap] 27)).alloc (.cells #[.int .i64 v] 3) := by
  subst hg
  go_enter Try.func39, Try.ntmps39
  go_wp2
  go_ret
  exact ⟨rfl, rfl⟩

/-- What a round that goes on leaves alone: what was there, and every box of an edge. -/
def KpE (n₀ : Nat) (A B : World) : Prop := Below n₀ A B ∧ ∀ (j : Nat) (cs : Array Value) (fr : Nat × Nat), A.heap[j]? = some (Obj.cells cs 40 fr) → B.heap[j]? = some (Obj.cells cs 40 fr)
theorem kpE_t {n₀ : Nat} {A B C : World} (h : KpE n₀ A B) (h' : KpE n₀ B C) : KpE n₀ A C := ⟨h.1.trans h'.1, fun j cs fr hj => h'.2 j cs fr (h.2 j cs fr hj)⟩
theorem kpE_b {n₀ : Nat} {w : World} (hn : n₀ ≤ w.heap.size) (W : World) (l : Nat) (o o' : Obj) (hl : w.heap.size ≤ l) (ho : W.heap[l]? = some o) (hc : o.isCells = false) (hw : o.isWalk = false) : KpE n₀ W (W.putObj l o') := by
  refine ⟨belowK_b hn W l o o' hl ho hc hw, fun j cs fr hj => ?_⟩
  by_cases h : j = l
  · subst h
    rw [hj] at ho
    obtain rfl := Option.some.inj ho
    simp [Obj.isCells] at hc
  · rw [World.putObj_heap_other h]; exact hj
theorem kpE_refl (n₀ : Nat) (A : World) : KpE n₀ A A := ⟨Below.refl _ _, fun _ _ _ h => h⟩

theorem skip_wide {n : Nat} {P : Program} {ops : Array Oper} {Q : Exit → Act → World → Prop} {a : Act} {w : World} {rest : List Oper} {o : Oper} (hw : Region.wanted o (yielded ops a.tmps) = false) (h : wpListIn Fence.wide n P ops Q rest (a.put o.dst undef) w) : wpListIn Fence.wide n P ops Q (o :: rest) a w := by
  simp only [wpListIn, hw]
  exact ⟨fun f hf => trivial, h⟩

set_option maxRecDepth 100000 in
set_option maxHeartbeats 2000000 in
theorem nb1_in (m : Nat) (hm : 1 ≤ m) (l Bg Bv n₀ : Nat) (n v : Int) (a : Option Addr) (cap : Nat) (es : List (Int × Int)) (b : Bool) (L : List Int) (hL : L = if b = true then nbL v es else []) (hN : es.length ≤ 1000000) (hb : b = true ↔ RightG n es) (J Jx : List Int → World → Prop) (W : World) (hJ : AbidesFrom W.heap.size J) (hn₀ : n₀ ≤ W.heap.size) (hBg : Bg < n₀) (hBv : Bv < n₀)
    (hY : ∀ pre x W, J pre W → pre.length < es.length → YieldAt Fence.wide (m - 1) Try.prog l #[.int .i64 x] W fun e W' =>
      (e = .returned (.bool true) ∧ J (pre ++ [x]) W' ∧ KpE n₀ W W') ∨ (e = .returned (.bool false) ∧ Jx (pre ++ [x]) W'))
    (cg0 : W.cell? ⟨Bg, 0, none⟩ = some (.int .i64 n)) (cg1 : W.cell? ⟨Bg, 1, none⟩ = some (.slice a es.length cap)) (cv : W.cell? ⟨Bv, 0, none⟩ = some (.int .i64 v))
    (hE : EAt W a es) (hEn : ∀ g off, 0 < es.length → a = some ⟨g, off, none⟩ → g < n₀) (h0 : J [] W) :
    CallsIn Fence.wide m Try.prog 47 #[.func (.yield l) #[] #[], .pointer (some ⟨Bg, 0, none⟩), .pointer (some ⟨Bv, 0, none⟩)] W fun e W' => (∃ v, e = .returned v) ∧
      ((∃ ys, ys = L ∧ J ys W') ∨ (∃ pre, pre <+: L ∧ Jx pre W')) := by
  refine callsIn_of_wp Try.func47 rfl trivial ?_ rfl
  simp only [Try.ntmps47, List.size_toArray, List.length_cons, List.length_nil, Nat.reduceAdd, Nat.reduceSub, Array.replicate_succ, Array.replicate_zero, List.push_toArray, List.append_toArray, List.nil_append, List.cons_append]
  obtain ⟨N, hNe⟩ : ∃ N, N = es.length := ⟨_, rfl⟩
  have hR := right_any n a cap es b W hN hE hb
  rw [← hNe] at hN cg1 hR
  have HN : Hid (N = es.length) := hNe
  have HE : Hid (EAt W a es) := hE
  have HB : Hid (b = true ↔ RightG n es) := hb
  have HL : Hid (L = if b = true then nbL v es else []) := hL
  have HY : Hid (∀ pre x W, J pre W → pre.length < es.length → YieldAt Fence.wide (m - 1) Try.prog l #[.int .i64 x] W fun e W' =>
      (e = .returned (.bool true) ∧ J (pre ++ [x]) W' ∧ KpE n₀ W W') ∨ (e = .returned (.bool false) ∧ Jx (pre ++ [x]) W')) := hY
  have HJ : Hid (AbidesFrom W.heap.size J) := hJ
  have HEn : Hid (∀ g off, 0 < es.length → a = some ⟨g, off, none⟩ → g < n₀) := hEn
  clear hNe hE hb hY hJ hEn hL
  have HR : Hid (Calls Try.prog 23 #[.agg #[.int .i64 n, .slice a N cap]] W fun e w' => e = .returned (.bool b) ∧ Below W.heap.size W w') := hR
  clear hR
  gi_wp2_with fail
  refine ⟨trivial, ?_⟩
  refine (callsIn_wide.2 HR.out).mono ?_
  rintro e w1 ⟨rfl, hb1⟩
  clear HR
  have hJ1 : Hid (J [] w1) := abides_below HJ.out h0 hb1
  have k1 := (hb1.cell (p := ⟨Bg, 1, none⟩) (by simp; omega)).trans cg1
  have kv := (hb1.cell (p := ⟨Bv, 0, none⟩) (by simp; omega)).trans cv
  have HCV : Hid (W.cell? ⟨Bv, 0, none⟩ = some (.int .i64 v)) := cv
  clear cg0 cg1 cv
  have hbn : Below n₀ W w1 := hb1.mono hn₀
  cases b with
  | false =>
    gi_wp2
    refine bodyPost_ret (results_none rfl _ _ _) rfl ?_
    exact ⟨⟨_, rfl⟩, .inl ⟨[], HL.out.symm, hJ1.out⟩⟩
  | true =>
    have HRG : Hid (RightG n es) := HB.out.1 rfl
    have HL2 : Hid (L = nbL v es) := HL.out
    clear HB HL
    gi_wp2
    gi_loopw [12] (fun i wr => ∃ k : Nat, k ≤ N ∧ i = .int .i64 k ∧ Hid (J (nbL v (es.take k)) wr) ∧ Below n₀ W wr) (fun i _ => N - (intOf i).toNat)
    case atStart => exact ⟨0, Nat.zero_le _, rfl, hJ1, hbn⟩
    case round =>
      clear kv k1
      obtain ⟨k, hk, rfl, hJs, hbr⟩ := hrel
      by_cases hlt : k < N
      · have hkr : k < es.length := by rw [← HN.out]; exact hlt
        have kv := (hbr.cell (p := ⟨Bv, 0, none⟩) hBv).trans HCV.out
        obtain ⟨g, off, rfl, hg, hcs⟩ := HE.out (by omega)
        have hgn : g < n₀ := HEn.out g off (by omega) rfl
        obtain ⟨e1, he1⟩ := ex_eq es[k].1
        obtain ⟨e2, he2⟩ := ex_eq es[k].2
        have d0 := (hbr.cell (p := ⟨g, off + k * 2, none⟩) hgn).trans (hcs k hkr).1
        have d1 := (hbr.cell (p := ⟨g, off + k * 2 + 1, none⟩) hgn).trans (hcs k hkr).2
        rw [← he1] at d0
        rw [← he2] at d1
        have hin := (HRG.out.at k hkr).1
        rw [← he1, ← he2] at hin
        obtain ⟨i1, i2, i3⟩ := hin
        have HES : Hid (e1 = es[k].1 ∧ e2 = es[k].2) := ⟨he1, he2⟩
        have hplen : (nbL v (es.take k)).length < es.length := Nat.lt_of_le_of_lt (nbL_len _ _) (by rw [List.length_take]; omega)
        have HNX : Hid (nbL v (es.take (k + 1)) = nbL v (es.take k) ++ other v (e1, e2)) := by
          show nbL v (es.take (k + 1)) = nbL v (es.take k) ++ other v (e1, e2)
          rw [nbL_take hkr, he1, he2]
        have HPX : Hid (nbL v (es.take (k + 1)) <+: L) := by
          show nbL v (es.take (k + 1)) <+: L
          rw [HL2.out]; exact nbL_prefix _ _ _
        have hbV : Below wr.heap.size wr (wr.alloc (.cells #[.int .i64 e1, .int .i64 e2] 40)) := (Below.refl _ _).alloc (Nat.le_refl _) _
        have HJV : Hid (J (nbL v (es.take k)) (wr.alloc (.cells #[.int .i64 e1, .int .i64 e2] 40))) := abides_below HJ.out hJs.out hbV
        have hbVn : Below n₀ W (wr.alloc (.cells #[.int .i64 e1, .int .i64 e2] 40)) := hbr.trans (hbV.mono (Nat.le_trans hn₀ hbr.size))
        have kvV : (wr.alloc (.cells #[.int .i64 e1, .int .i64 e2] 40)).cell? ⟨Bv, 0, none⟩ = some (.int .i64 v) := cell_alloc_old kv _
        clear hcs he1 he2
        by_cases c1 : v < e1
        · have HST : Hid (nbL v (es.take k) = L) := by
            show nbL v (es.take k) = L
            rw [HL2.out]; exact nbL_stop HRG.out hkr (by rw [← HES.out.1]; exact c1)
          gi_wp2_with (refine skip_wide rfl ?_)
          exact bodyPost_ret (results_none rfl _ _ _) rfl ⟨⟨_, rfl⟩, .inl ⟨_, HST.out, HJV.out⟩⟩
        by_cases c2 : e1 = v
        · subst c2
          have HO : Hid (nbL e1 (es.take (k + 1)) = nbL e1 (es.take k) ++ [e2]) := by
            show nbL e1 (es.take (k + 1)) = nbL e1 (es.take k) ++ [e2]
            rw [HNX.out]; unfold other; rw [if_pos rfl]
          obtain ⟨fn, tmps, assign, body, hy, hR⟩ := HY.out (nbL e1 (es.take k)) e2 _ HJV.out hplen
          have b3 : (e2 == e1) = false := beq_eq_false_iff_ne.2 (by omega)
          gi_wp2
          refine hR.mono ?_
          rintro e W3 (⟨rfl, hJ3, hk3⟩ | ⟨rfl, hJx3⟩)
          · have hbx := hk3.2 _ _ _ (heap_alloc_new wr _)
            have x0 := cell_of_heap hbx 0
            have x1 := cell_of_heap hbx 1
            have xv := (hk3.1.cell (p := ⟨Bv, 0, none⟩) hBv).trans kvV
            have HJ3 : Hid (J (nbL e1 (es.take (k + 1))) W3) := by
              show J (nbL e1 (es.take (k + 1))) W3
              rw [HO.out]; exact hJ3
            have hb3 := hbVn.trans hk3.1
            clear hy hR hJ3 hk3 hbx kvV kv d0 d1
            gi_wp2_with (refine skip_wide rfl ?_)
            go_roundw
            case rel => exact ⟨k + 1, by omega, by go_num, HJ3, hb3⟩
            case measure => simp [intOf]; omega
          · have HPX3 : Hid (nbL e1 (es.take k) ++ [e2] <+: L) := by
              show nbL e1 (es.take k) ++ [e2] <+: L
              rw [← HO.out]; exact HPX.out
            clear hy hR kvV kv d0 d1
            gi_wp2_with (refine skip_wide rfl ?_)
            exact bodyPost_ret (results_none rfl _ _ _) rfl ⟨⟨_, rfl⟩, .inr ⟨_, HPX3.out, hJx3⟩⟩
        by_cases c3 : e2 = v
        · subst c3
          have HO : Hid (nbL e2 (es.take (k + 1)) = nbL e2 (es.take k) ++ [e1]) := by
            show nbL e2 (es.take (k + 1)) = nbL e2 (es.take k) ++ [e1]
            rw [HNX.out]; unfold other; rw [if_neg c2, if_pos rfl]
          obtain ⟨fn, tmps, assign, body, hy, hR⟩ := HY.out (nbL e2 (es.take k)) e1 _ HJV.out hplen
          have b2 : (e1 == e2) = false := beq_eq_false_iff_ne.2 (by omega)
          have c1' : e1 ≤ e2 := by omega
          gi_wp2_with (refine skip_wide rfl ?_)
          refine hR.mono ?_
          rintro e W3 (⟨rfl, hJ3, hk3⟩ | ⟨rfl, hJx3⟩)
          · have HJ3 : Hid (J (nbL e2 (es.take (k + 1))) W3) := by
              show J (nbL e2 (es.take (k + 1))) W3
              rw [HO.out]; exact hJ3
            have hb3 := hbVn.trans hk3.1
            clear hy hR hJ3 hk3 kvV kv d0 d1
            gi_wp2_with (refine skip_wide rfl ?_)
            go_roundw
            case rel => exact ⟨k + 1, by omega, by go_num, HJ3, hb3⟩
            case measure => simp [intOf]; omega
          · have HPX3 : Hid (nbL e2 (es.take k) ++ [e1] <+: L) := by
              show nbL e2 (es.take k) ++ [e1] <+: L
              rw [← HO.out]; exact HPX.out
            clear hy hR kvV kv d0 d1
            gi_wp2_with (refine skip_wide rfl ?_)
            exact bodyPost_ret (results_none rfl _ _ _) rfl ⟨⟨_, rfl⟩, .inr ⟨_, HPX3.out, hJx3⟩⟩
        · have HO : Hid (nbL v (es.take (k + 1)) = nbL v (es.take k)) := by
            show nbL v (es.take (k + 1)) = nbL v (es.take k)
            rw [HNX.out]; unfold other; rw [if_neg c2, if_neg c3, List.append_nil]
          have b2 : (e1 == v) = false := beq_eq_false_iff_ne.2 c2
          have b3 : (e2 == v) = false := beq_eq_false_iff_ne.2 c3
          have c1' : e1 ≤ v := by omega
          have HJ3 : Hid (J (nbL v (es.take (k + 1))) (wr.alloc (.cells #[.int .i64 e1, .int .i64 e2] 40))) := by
            show J (nbL v (es.take (k + 1))) _
            rw [HO.out]; exact HJV.out
          gi_wp2_with (refine skip_wide rfl ?_)
          go_roundw
          case rel => exact ⟨k + 1, by omega, by go_num, HJ3, hbVn⟩
          case measure => simp [intOf]; omega
      · obtain rfl : k = N := by omega
        gi_wp2
        go_end0
        refine ⟨⟨_, rfl⟩, .inl ⟨_, ?_, hJs.out⟩⟩
        rw [HL2.out, HN.out, List.take_length]

theorem EAt.lt {w : World} {a : Option Addr} {es : List (Int × Int)} (h : EAt w a es) : ∀ g off, 0 < es.length → a = some ⟨g, off, none⟩ → g < w.heap.size := fun g off h0 ha => by
  obtain ⟨g', off', ha', hg, _⟩ := h h0
  rw [ha'] at ha
  simp only [Option.some.injEq, Addr.mk.injEq, and_true] at ha
  omega

/-- The closure as an iterator: all of L comes, or a beginning of it. -/
theorem nb_stops (m : Nat) (hm : 1 ≤ m) (Bg Bv n₀ : Nat) (n v : Int) (a : Option Addr) (cap : Nat) (es : List (Int × Int)) (b : Bool) (L : List Int) (hL : L = if b = true then nbL v es else []) (hN : es.length ≤ 1000000) (hb : b = true ↔ RightG n es) (w : World) (hn₀ : n₀ ≤ w.heap.size) (hBg : Bg < n₀) (hBv : Bv < n₀)
    (cg0 : w.cell? ⟨Bg, 0, none⟩ = some (.int .i64 n)) (cg1 : w.cell? ⟨Bg, 1, none⟩ = some (.slice a es.length cap)) (cv : w.cell? ⟨Bv, 0, none⟩ = some (.int .i64 v)) (hE : EAt w a es) (hEn : ∀ g off, 0 < es.length → a = some ⟨g, off, none⟩ → g < n₀) :
    SeqStopsK Fence.wide m Try.prog 47 #[.pointer (some ⟨Bg, 0, none⟩), .pointer (some ⟨Bv, 0, none⟩)] (fun x : Int => #[Value.int .i64 x]) (KpE n₀) (fun ys => ys = L) (fun pre => pre <+: L) es.length w := fun l J Jx W hW hJ _ hY h0 =>
  nb1_in m hm l Bg Bv n₀ n v a cap es b L hL hN hb J Jx W hJ (Nat.le_trans hn₀ hW.size) hBg hBv hY ((hW.cell (p := ⟨Bg, 0, none⟩) (by simp; omega)).trans cg0) ((hW.cell (p := ⟨Bg, 1, none⟩) (by simp; omega)).trans cg1) ((hW.cell (p := ⟨Bv, 0, none⟩) (by simp; omega)).trans cv) (hE.below hW) hEn h0

theorem nbL_mem {v y : Int} {es : List (Int × Int)} : y ∈ nbL v es ↔ ∃ e ∈ es, y ∈ other v e := by
  induction es with
  | nil => simp [nbL]
  | cons e es ih => simp [nbL, ih]
theorem other_mem {v y : Int} {e : Int × Int} : y ∈ other v e ↔ (e.1 = v ∧ y = e.2) ∨ (e.1 ≠ v ∧ e.2 = v ∧ y = e.1) := by
  unfold other
  by_cases h1 : e.1 = v
  · rw [if_pos h1]; simp [h1]
  · rw [if_neg h1]
    by_cases h2 : e.2 = v
    · rw [if_pos h2]; simp [h1, h2]
    · rw [if_neg h2]; simp [h1, h2]
/-- The neighbours of a vertex are the other ends of its edges. -/
theorem nbL_right {n v y : Int} {es : List (Int × Int)} (h : RightG n es) : y ∈ nbL v es ↔ (v, y) ∈ es ∨ (y, v) ∈ es := by
  rw [nbL_mem]
  constructor
  · rintro ⟨e, he, ho⟩
    rcases other_mem.1 ho with ⟨h1, h2⟩ | ⟨_, h1, h2⟩
    · left; rw [show (v, y) = e from Prod.ext h1.symm h2]; exact he
    · right; rw [show (y, v) = e from Prod.ext h2 h1.symm]; exact he
  · rintro (he | he)
    · exact ⟨_, he, other_mem.2 (Or.inl ⟨rfl, rfl⟩)⟩
    · have := h.2.2.2.1 _ he
      simp only at this
      exact ⟨_, he, other_mem.2 (Or.inr ⟨by simp only; omega, rfl, rfl⟩)⟩
/-- They rise. -/
theorem nbL_rises {n v : Int} {es : List (Int × Int)} (h : RightG n es) : (nbL v es).Pairwise (· < ·) := by
  have key : ∀ es : List (Int × Int), (∀ e ∈ es, 0 ≤ e.1 ∧ e.1 < e.2 ∧ e.2 < n) → Rises es → (nbL v es).Pairwise (· < ·) := by
    intro es
    induction es with
    | nil => intro _ _; exact List.Pairwise.nil
    | cons e es ih =>
      intro hin hr
      rw [rises_cons] at hr
      rw [nbL, List.pairwise_append]
      refine ⟨?_, ih (fun x hx => hin x (by simp [hx])) hr.2, fun o ho o' ho' => ?_⟩
      · unfold other
        by_cases h1 : e.1 = v
        · rw [if_pos h1]; simp
        · rw [if_neg h1]
          by_cases h2 : e.2 = v
          · rw [if_pos h2]; simp
          · rw [if_neg h2]; simp
      · obtain ⟨f, hf, ho'⟩ := nbL_mem.1 ho'
        have hlt := hr.1 f hf
        rw [ltE_iff] at hlt
        have i1 := hin e (by simp)
        have i2 := hin f (by simp [hf])
        rcases other_mem.1 ho with ⟨h1, h2⟩ | ⟨h0, h1, h2⟩ <;> rcases other_mem.1 ho' with ⟨h3, h4⟩ | ⟨h3, h4, h5⟩ <;> omega
  exact key es h.2.2.2.1 h.2.2.2.2
end Go.Proofs.Ytagigeieoijciaa
