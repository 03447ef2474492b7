/-
  What the program's walks stand on: isVertex, marked.
  The program's edges within a row of vertices (layer 7).
  graph.Degrees once more: its row is a new one.
-/
import Derived.Test.YtplhpinaadgkkaaB12
import Derived.Test.YtplhpinaadgkkaaB14
import Derived.Test.YtplhpinaadgkkaaB08
import Derived.Test.YtplhpinaadgkkaaB05
namespace Go.Proofs.Ytplhpinaadgkkaa
open Go.RowKit Go.Lib

set_option maxHeartbeats 400000 in
theorem vtx_any (n v : Int) (r : Bool) (w : World) (hr : r = decide (0 ≤ v ∧ v < n)) :
    Calls Try.prog 45 #[.int .i64 n, .int .i64 v] w fun e w' => e = .returned (.bool r) ∧ w' = w := by
  by_cases h : 0 ≤ v
  · by_cases h2 : v < n
    · rw [decide_eq_true (by omega)] at hr
      subst hr
      go_enter Try.func45, Try.ntmps45
      go_wp2
      go_ret
      exact ⟨rfl, rfl⟩
    · rw [decide_eq_false (by omega)] at hr
      subst hr
      go_enter Try.func45, Try.ntmps45
      go_wp2
      go_ret
      exact ⟨rfl, rfl⟩
  · rw [decide_eq_false (by omega)] at hr
    subst hr
    go_enter Try.func45, Try.ntmps45
    go_wp2
    go_ret
    exact ⟨rfl, rfl⟩

/-- A row without doubles, of vertices alone, and not empty. -/
def GoodL (n : Int) (l : List Int) : Prop := l ≠ [] ∧ l.Nodup ∧ ∀ x ∈ l, 0 ≤ x ∧ x < n
/-- The first k of l are vertices, none twice. -/
def GoodTo (n : Int) (l : List Int) (k : Nat) : Prop := (l.take k).Nodup ∧ ∀ x ∈ l.take k, 0 ≤ x ∧ x < n
theorem take_next {l : List Int} {k : Nat} (h : k < l.length) : l.take (k + 1) = l.take k ++ [l[k]] := List.take_append_getElem h |>.symm
theorem goodTo_next {n : Int} {l : List Int} {k : Nat} (h : GoodTo n l k) (hk : k < l.length) (h1 : 0 ≤ l[k] ∧ l[k] < n) (h2 : l[k] ∉ l.take k) : GoodTo n l (k + 1) := by
  unfold GoodTo
  rw [take_next hk]
  refine ⟨List.nodup_append.2 ⟨h.1, by simp, fun y hy z hz => by simp at hz; subst hz; exact fun e => h2 (e ▸ hy)⟩, fun x hx => ?_⟩
  rcases List.mem_append.1 hx with hx | hx
  · exact h.2 x hx
  · simp at hx; subst hx; exact h1
theorem good_not_in {n : Int} {l : List Int} {k : Nat} (hk : k < l.length) (h : ¬ (0 ≤ l[k] ∧ l[k] < n)) : ¬ GoodL n l := fun hg => h (hg.2.2 _ (List.getElem_mem hk))
theorem good_not_twice {n : Int} {l : List Int} {k : Nat} (hk : k < l.length) (h : l[k] ∈ l.take k) : ¬ GoodL n l := fun hg => by
  obtain ⟨j, hj, e⟩ := List.getElem_of_mem h
  rw [List.length_take] at hj
  rw [List.getElem_take] at e
  exact List.pairwise_iff_getElem.1 hg.2.1 j k (by omega) hk (by omega) e
/-- What marked tells. -/
def MarkIs (m : Nat) (l : List Int) (w w' : World) (v : Value) : Prop :=
  (GoodL m l ∧ ∃ g, v = .tuple #[.slice (some ⟨g, 0, none⟩) m m, .bool true] ∧ w.heap.size ≤ g ∧ RowB w' g m (fun j => decide ((j : Int) ∈ l)) ∧ Below w.heap.size w w') ∨
  (¬ GoodL m l ∧ ∃ u, v = .tuple #[u, .bool false] ∧ Below w.heap.size w w')

set_option maxHeartbeats 1000000 in
set_option maxRecDepth 100000 in
theorem marked_any (m : Nat) (la : Option Addr) (lc : Nat) (l : List Int) (w : World) (hm : m ≤ 1000) (hL : l.length ≤ 1000000) (hI : IAt w la l) :
    Calls Try.prog 61 #[.int .i64 m, .slice la l.length lc] w fun e w' => ∃ v, e = .returned v ∧ MarkIs m l w w' v := by
  obtain ⟨M, hMe⟩ := ex_eq l.length
  obtain ⟨i0, hi, hz0, hz1, hz2⟩ := info_parts Try.info4
  obtain ⟨w2, hrun, hown, hgrow⟩ := run_make_full (P := Try.prog) w w.heap.size 60 4 i0 (.bool false) 1 Try.underlying60 hi hz0 hz1 .i64 .i64 m (by rw [hz2]; omega) (by unfold maxLen; omega) (Nat.le_refl _)
  have HRW : Hid (RowB w2 w.heap.size m (fun j => decide ((j : Int) ∈ l.take 0))) := (rowB_made hown).congr (fun j _ => by simp)
  have hb2 : Below w.heap.size w w2 := Below.grown (Below.refl _ _) hgrow (Nat.le_refl _) (fun k hk => by cases hk)
  have HI := hid hI
  have HM := hid hMe
  rw [← hMe] at hL ⊢
  clear hI hMe hown hgrow hi hz0 hz1 hz2
  go_enter Try.func61, Try.ntmps61
  go_wp2
  go_loopw [13] (fun i wr => ∃ k : Nat, k ≤ M ∧ i = .int .i64 k ∧ Hid (RowB wr w.heap.size m (fun j => decide ((j : Int) ∈ l.take k))) ∧ Hid (GoodTo m l k) ∧ Below w.heap.size w wr) (fun i _ => M - (RowKit.intOf i).toNat)
  case atStart => exact ⟨0, Nat.zero_le _, rfl, HRW, ⟨by simp, by simp⟩, hb2⟩
  case round =>
    obtain ⟨k, hk, rfl, hrow, hgd, hbr⟩ := hrel
    by_cases hlt : k < M
    · have hkr : k < l.length := by rw [← HM.out]; exact hlt
      obtain ⟨g, off, rfl, hgl, hcs⟩ := HI.out (by omega)
      have d0 := (hbr.cell (p := ⟨g, off + k, none⟩) hgl).trans (hcs k hkr)
      obtain ⟨x, hx⟩ := ex_eq l[k]
      rw [← hx] at d0
      have HX := hid hx
      clear hcs hx
      by_cases hin : 0 ≤ x ∧ x < m
      · obtain ⟨p, rfl⟩ : ∃ p : Nat, x = p := ⟨x.toNat, by omega⟩
        have hp : p < m := by omega
        have q1 : (p : Int) < (m : Int) := by omega
        have hv := vtx_any m p true wr (decide_eq_true hin).symm
        obtain ⟨r1, r1f⟩ := hrow.out.2 p hp
        by_cases hmem : (p : Int) ∈ l.take k
        · have e1 : decide ((p : Int) ∈ l.take k) = true := decide_eq_true hmem
          simp only [e1] at r1
          have HNG : Hid (¬ GoodL m l) := good_not_twice hkr (by rw [← HX.out]; exact hmem)
          clear e1 hmem hrow hgd hin
          go_wp2_with (go_at_call 45; refine hv.mono ?_; rintro e w' ⟨rfl, rfl⟩)
          go_ret2
          exact ⟨_, rfl, Or.inr ⟨HNG.out, _, rfl, hbr⟩⟩
        · have e1 : decide ((p : Int) ∈ l.take k) = false := decide_eq_false hmem
          simp only [e1] at r1
          have HNX : Hid (GoodTo m l (k + 1)) := goodTo_next hgd.out hkr (by rw [← HX.out]; exact hin) (by rw [← HX.out]; exact hmem)
          have HRX : Hid (RowB (wr.setCell ⟨w.heap.size, p, none⟩ (.bool true)) w.heap.size m (fun j => decide ((j : Int) ∈ l.take (k + 1)))) := (hrow.out.put hp true).congr (fun j _ => by
            rw [take_next hkr, ← HX.out]
            by_cases e : j = p
            · subst e; rw [if_pos rfl]; exact (decide_eq_true (by simp)).symm
            · rw [if_neg e]
              apply decide_eq_decide.2
              simp only [List.mem_append, List.mem_singleton]
              exact ⟨Or.inl, fun h => h.resolve_right (by omega)⟩)
          have hbX : Below w.heap.size w (wr.setCell ⟨w.heap.size, p, none⟩ (.bool true)) := hbr.setCell (p := ⟨w.heap.size, p, none⟩) (Nat.le_refl _) _
          clear e1 hmem hrow hgd hin
          go_wp2_with (go_at_call 45; refine hv.mono ?_; rintro e w' ⟨rfl, rfl⟩)
          go_roundw
          case rel => exact ⟨k + 1, by omega, by go_num, HRX, HNX, hbX⟩
          case measure => simp [RowKit.intOf]; omega
      · have hv := vtx_any m x false wr (decide_eq_false hin).symm
        have HNG : Hid (¬ GoodL m l) := good_not_in hkr (by rw [← HX.out]; exact hin)
        clear hin hrow hgd
        go_wp2_with (go_at_call 45; refine hv.mono ?_; rintro e w' ⟨rfl, rfl⟩)
        go_ret2
        exact ⟨_, rfl, Or.inr ⟨HNG.out, _, rfl, hbr⟩⟩
    · obtain rfl : k = M := by omega
      have htk : l.take k = l := by rw [HM.out, List.take_length]
      rw [htk] at hrow
      have hgd2 := hgd.out
      unfold GoodTo at hgd2
      rw [htk] at hgd2
      have HG2 := hid hgd2
      have HRow := hid hrow.out
      clear hgd2 hgd hrow
      by_cases h0 : k = 0
      · subst h0
        have HNG : Hid (¬ GoodL m l) := fun h => h.1 (List.length_eq_zero_iff.1 HM.out.symm)
        go_wp2
        go_ret2
        exact ⟨_, rfl, Or.inr ⟨HNG.out, _, rfl, hbr⟩⟩
      · have q0 : (0 : Int) < (k : Int) := by omega
        have HNE : Hid (l ≠ []) := fun e => h0 (by rw [HM.out, e]; rfl)
        go_wp2
        go_ret2
        exact ⟨_, rfl, Or.inl ⟨⟨HNE.out, HG2.out⟩, w.heap.size, (by simp <;> omega), Nat.le_refl _, HRow.out, hbr⟩⟩
end Go.Proofs.Ytplhpinaadgkkaa
namespace Go.Proofs.Ytplhpinaadgkkaa
open Go.RowKit Go.Lib

theorem within_next {es : List (Int × Int)} {l : List Int} {k : Nat} (h : k < es.length) : withinL (es.take (k + 1)) l = withinL (es.take k) l ++ (if es[k].1 ∈ l ∧ es[k].2 ∈ l then [(es[k].1, es[k].2)] else []) := by
  unfold withinL
  rw [← List.take_append_getElem h, List.filter_append]
  congr 1
  by_cases h1 : es[k].1 ∈ l
  · by_cases h2 : es[k].2 ∈ l
    · rw [if_pos ⟨h1, h2⟩]; simp [h1, h2]
    · rw [if_neg (fun e => h2 e.2)]; simp [h2]
  · rw [if_neg (fun e => h1 e.1)]; simp [h1]
theorem within_len (es : List (Int × Int)) (l : List Int) : (withinL es l).length ≤ es.length := List.length_filter_le _ _

set_option maxHeartbeats 2000000 in
set_option maxRecDepth 100000 in
theorem within_any (m : Nat) (a : Option Addr) (cap : Nat) (es : List (Int × Int)) (la : Option Addr) (lc : Nat) (l : List Int) (w : World) (hE : EAt w a es) (hR : RightG m es) (hL : l.length ≤ 1000000) (hI : IAt w la l) (hin : ∀ x ∈ l, 0 ≤ x ∧ x < m) :
    Calls Try.prog 35 #[.agg #[.int .i64 m, .slice a es.length cap], .slice la l.length lc] w fun e w' => ∃ a' cap', e = .returned (.slice a' (withinL es l).length cap') ∧ EAt w' a' (withinL es l) ∧ Below w.heap.size w w' := by
  have hm : m ≤ 1000 := by have := hR.2.1; omega
  obtain ⟨N, hNe⟩ := ex_eq es.length
  obtain ⟨M, hMe⟩ := ex_eq l.length
  have hN4 : N ≤ 4000 := by rw [hNe]; exact hR.2.2.1
  obtain ⟨W1, hW1⟩ := ex_eq (w.alloc (.cells #[.int .i64 m, .slice a N cap] 26))
  have hs1 : W1.heap.size = w.heap.size + 1 := by rw [hW1]; simp
  have hO : W1.heap[w.heap.size]? = some (.cells #[.int .i64 m, .slice a N cap] 26 (0, 0)) := by rw [hW1]; exact heap_alloc_new _ _
  have hbW : Below w.heap.size w W1 := by rw [hW1]; exact (Below.refl _ _).alloc (Nat.le_refl _) _
  obtain ⟨i0, hi, hz0, hz1, hz2⟩ := info_parts Try.info4
  obtain ⟨W2, hrun, hown, hgrow⟩ := run_make_full (P := Try.prog) W1 W1.heap.size 60 4 i0 (.bool false) 1 Try.underlying60 hi hz0 hz1 .i64 .i64 m (by rw [hz2]; omega) (by unfold maxLen; omega) (Nat.le_refl _)
  have HRW : Hid (RowB W2 W1.heap.size m (fun j => decide ((j : Int) ∈ l.take 0))) := (rowB_made hown).congr (fun j _ => by simp)
  have hb2 : Below W1.heap.size W1 W2 := Below.grown (Below.refl _ _) hgrow (Nat.le_refl _) (fun k hk => by cases hk)
  have c0 := cell_of_heap hO 0
  have c0' : (w.alloc (.cells #[.int .i64 m, .slice a N cap] 26)).cell? ⟨w.heap.size, 0, none⟩ = some (.int .i64 m) := by rw [← hW1]; exact c0
  have HKEEP : Hid (∀ X, Below W1.heap.size W1 X → EAt X a es ∧ IAt X la l ∧ X.cell? ⟨w.heap.size, 1, none⟩ = some (.slice a N cap) ∧ Below w.heap.size w X) := fun X hX => by
    have hb : Below w.heap.size w X := hbW.trans (hX.mono (by omega))
    exact ⟨hE.below hb, hI.below hb, (hX.cell (p := ⟨w.heap.size, 1, none⟩) (by simp only; omega)).trans (cell_of_heap hO 1), hb⟩
  have HN := hid hNe
  have HM := hid hMe
  have HIN := hid hin
  have HRG := hid hR
  have HW1 := hid hW1
  have HS1 := hid hs1
  rw [← hMe] at hL ⊢
  rw [← hNe]
  clear hI hMe hNe hown hgrow hi hz0 hz1 hz2 hE hR hin hbW hO hW1 c0' hs1
  go_enter Try.func35, Try.ntmps35
  go_upto_region 1 with fail
  rw [← HW1.out]
  clear HW1
  go_wp2
  clear c0 hrun
  obtain ⟨gM, hgM⟩ := ex_eq W1.heap.size
  have HGM := hid hgM
  rw [← hgM] at hb2 HRW HKEEP HS1 ⊢
  clear hgM
  go_loopw [16] (fun i wr => ∃ k : Nat, k ≤ M ∧ i = .int .i64 k ∧ Hid (RowB wr gM m (fun j => decide ((j : Int) ∈ l.take k))) ∧ Below gM W1 wr) (fun i _ => M - (RowKit.intOf i).toNat)
  case atStart => exact ⟨0, Nat.zero_le _, rfl, HRW, hb2⟩
  case round =>
    obtain ⟨k, hk, rfl, hrow, hbr⟩ := hrel
    obtain ⟨hE, hI, e1, hbw⟩ := HKEEP.out wr hbr
    by_cases hlt : k < M
    · have hkr : k < l.length := by rw [← HM.out]; exact hlt
      obtain ⟨g, off, rfl, hgl, hcs⟩ := hI (by omega)
      have d0 := hcs k hkr
      have hx := HIN.out _ (List.getElem_mem hkr)
      obtain ⟨p, hp⟩ : ∃ p : Nat, l[k] = (p : Int) := ⟨(l[k]).toNat, by omega⟩
      rw [hp] at d0 hx
      have hpm : p < m := by omega
      have q1 : (p : Int) < (m : Int) := by omega
      have q2 : (k : Int) < (M : Int) := by omega
      obtain ⟨r1, r1f⟩ := hrow.out.2 p hpm
      have HRX : Hid (RowB (wr.setCell ⟨gM, p, none⟩ (.bool true)) gM m (fun j => decide ((j : Int) ∈ l.take (k + 1)))) := (hrow.out.put hpm true).congr (fun j _ => by
        rw [take_next hkr, hp]
        by_cases e : j = p
        · subst e; rw [if_pos rfl]; exact (decide_eq_true (by simp)).symm
        · rw [if_neg e]
          apply decide_eq_decide.2
          simp only [List.mem_append, List.mem_singleton]
          exact ⟨Or.inl, fun h => h.resolve_right (by omega)⟩)
      have hbX : Below gM W1 (wr.setCell ⟨gM, p, none⟩ (.bool true)) := hbr.setCell (p := ⟨gM, p, none⟩) (Nat.le_refl _) _
      obtain ⟨y, hy⟩ := ex_eq (decide ((p : Int) ∈ l.take k))
      simp only at r1
      rw [← hy] at r1
      clear hp hcs hrow hx hE hI hy
      go_wp2
      go_roundw
      case rel => exact ⟨k + 1, by omega, by go_num, HRX, hbX⟩
      case measure => simp [RowKit.intOf]; omega
    · obtain rfl : k = M := by omega
      have htk : l.take k = l := by rw [HM.out, List.take_length]
      rw [htk] at hrow
      have HROW := hid hrow.out
      have hsr : gM < wr.heap.size := hrow.out.1
      have HBR := hid hbr
      clear hrow hE hI hbr htk
      go_wp2
      obtain ⟨w3, hw3⟩ : ∃ x, x = wr := ⟨_, rfl⟩
      subst hw3
      go_loopw [8, 27] (fun v i wz => ∃ t : Nat, t ≤ N ∧ i = .int .i64 t ∧ Hid (wz.ownsRow w3.heap.size 42 2 v (withinL (es.take t) l).length (cellsE (withinL (es.take t) l))) ∧ Below w3.heap.size w3 wz) (fun _ i _ => N - (RowKit.intOf i).toNat)
      case atStart => exact ⟨0, Nat.zero_le _, rfl, World.ownsRow_nil _ _ _ _, Below.refl _ _⟩
      case round =>
        obtain ⟨t, ht, rfl, hown, hbz⟩ := hrel
        obtain ⟨hE, _, e1, _⟩ := HKEEP.out wr (HBR.out.trans (hbz.mono (by omega)))
        by_cases hlt : t < N
        · have hkr : t < es.length := by rw [← HN.out]; exact hlt
          obtain ⟨g, off, rfl, hg, hcs⟩ := hE.at hkr
          have hin := (HRG.out.at t hkr).1
          obtain ⟨p, hp⟩ : ∃ p : Nat, (p : Int) = es[t].1 := ⟨es[t].1.toNat, by omega⟩
          obtain ⟨q, hq⟩ : ∃ q : Nat, (q : Int) = es[t].2 := ⟨es[t].2.toNat, by omega⟩
          have d := hcs wr (Below.refl _ _) t hkr
          have hnx := within_next (l := l) hkr
          rw [← hp, ← hq] at d hin hnx
          obtain ⟨d0, d1⟩ := d
          have q1 : (p : Int) < (m : Int) := by omega
          have q2 : (q : Int) < (m : Int) := by omega
          have q3 : (t : Int) < (N : Int) := by omega
          obtain ⟨V, hV⟩ := ex_eq (wr.alloc (.cells #[.int .i64 p, .int .i64 q] 42))
          have hbV : Below w3.heap.size w3 V := by rw [hV]; exact hbz.alloc hbz.size _
          have hVo : V.heap[wr.heap.size]? = some (.cells #[.int .i64 p, .int .i64 q] 42 (0, 0)) := by rw [hV]; exact heap_alloc_new _ _
          have hownV : V.ownsRow w3.heap.size 42 2 u8 (withinL (es.take t) l).length (cellsE (withinL (es.take t) l)) := by
            rw [hV]; exact hown.out.alloc _
          have hrowV := HROW.out.below hbV
          have r1 := (hrowV.2 p (by omega)).1
          have r2 := (hrowV.2 q (by omega)).1
          have v0 := cell_of_heap hVo 0
          have v1 := cell_of_heap hVo 1
          obtain ⟨y1, hy1⟩ := ex_eq (decide ((p : Int) ∈ l))
          obtain ⟨y2, hy2⟩ := ex_eq (decide ((q : Int) ∈ l))
          simp only at r1 r2
          rw [← hy1] at r1
          rw [← hy2] at r2
          have HNX := hid hnx
          have HY1 := hid hy1
          have HY2 := hid hy2
          have HV := hid hV
          have HOV := hid hownV
          have HBV := hid hbV
          have hVs : w3.heap.size ≤ V.heap.size := hbV.size
          have hlen : (withinL (es.take t) l).length ≤ t := Nat.le_trans (within_len _ _) (by rw [List.length_take]; omega)
          clear hp hq hin hcs hnx hy1 hy2 hV hownV hrowV hbV hVo hown hE hbz e1
          go_upto_region 11 with fail
          rw [← HV.out]
          clear HV d0 d1
          cases y1 with
          | false =>
            have HO : Hid (V.ownsRow w3.heap.size 42 2 u8 (withinL (es.take (t + 1)) l).length (cellsE (withinL (es.take (t + 1)) l))) := by
              show World.ownsRow _ _ _ _ _ _ _
              rw [HNX.out, if_neg (fun h => of_decide_eq_false HY1.out.symm h.1), List.append_nil]
              exact HOV.out
            clear HOV HNX HY1 HY2 hlen
            go_wp2
            go_roundw
            case rel => exact ⟨t + 1, by omega, by go_num, HO, HBV.out⟩
            case measure => simp [RowKit.intOf]; omega
          | true =>
            cases y2 with
            | false =>
              have HO : Hid (V.ownsRow w3.heap.size 42 2 u8 (withinL (es.take (t + 1)) l).length (cellsE (withinL (es.take (t + 1)) l))) := by
                show World.ownsRow _ _ _ _ _ _ _
                rw [HNX.out, if_neg (fun h => of_decide_eq_false HY2.out.symm h.2), List.append_nil]
                exact HOV.out
              clear HOV HNX HY1 HY2 hlen
              go_wp2
              go_roundw
              case rel => exact ⟨t + 1, by omega, by go_num, HO, HBV.out⟩
              case measure => simp [RowKit.intOf]; omega
            | true =>
              have HNX2 : Hid (withinL (es.take (t + 1)) l = withinL (es.take t) l ++ [((p : Int), (q : Int))]) := by
                show _ = _
                rw [HNX.out, if_pos ⟨of_decide_eq_true HY1.out.symm, of_decide_eq_true HY2.out.symm⟩]
              obtain ⟨i1, hi, hz0, hz1, hz2⟩ := info_parts Try.info42
              obtain ⟨P, hP⟩ := ex_eq (withinL (es.take t) l)
              have hownV := HOV.out
              rw [← hP] at hownV hlen HNX2
              clear HOV HNX HY1 HY2 hP
              go_wp2_with (at_builtin; refine wpList_append_any _ rfl _ _ 22 rfl w3.heap.size 42 i1 _ 2 16 Try.underlying22 hi hz0 hz1 hz2 rfl (by decide) _ _ _ rfl (hownV.alloc _) (some ⟨V.heap.size, 0, none⟩) 1 1 [.int .i64 p, .int .i64 q] rfl (fun h => by cases h) rfl (fun pp hpp => by cases hpp; exact cells_two (heap_alloc_new _ _)) (fun u hu => by simp at hu; rcases hu with rfl | rfl <;> rfl) (by unfold maxLen; omega) (by omega) (by simp; omega) ?_)
              intro v' w4 hown4 hgrow _
              have hb4 : Below w3.heap.size w3 w4 := Below.grown (HBV.out.alloc hVs _) hgrow (by simp; omega) (fun j hj => (hownV.lt j hj).1)
              have HO : Hid (w4.ownsRow w3.heap.size 42 2 v' (withinL (es.take (t + 1)) l).length (cellsE (withinL (es.take (t + 1)) l))) := by
                show w4.ownsRow w3.heap.size 42 2 v' (withinL (es.take (t + 1)) l).length (cellsE (withinL (es.take (t + 1)) l))
                rw [HNX2.out, cellsE_append, List.length_append]
                exact hown4
              clear hgrow hownV hown4 hi hz0 hz1 hz2
              go_wp2
              go_roundw
              case rel => exact ⟨t + 1, by omega, by go_num, HO, hb4⟩
              case measure => simp [RowKit.intOf]; omega
        · obtain rfl : t = N := by omega
          have htk : es.take t = es := by rw [HN.out, List.take_length]
          rw [htk] at hown
          obtain ⟨a1, cap1, rfl, hsl, hea⟩ := eat_own hown.out
          have HEA := hid hea
          have HBB := hid (HKEEP.out wr (HBR.out.trans (hbz.mono (by omega)))).2.2.2
          clear hown hea hsl hE e1
          go_wp2
          go_ret
          exact ⟨a1, cap1, rfl, HEA.out, HBB.out⟩
end Go.Proofs.Ytplhpinaadgkkaa
namespace Go.Proofs.Ytplhpinaadgkkaa
open Go.RowKit Go.Lib

set_option maxHeartbeats 1000000 in
set_option maxRecDepth 100000 in
theorem degreesN_any (n : Int) (a : Option Addr) (cap : Nat) (es : List (Int × Int)) (b : Bool) (w : World) (hN : es.length ≤ 1000000) (hE : EAt w a es) (hb : b = true ↔ RightG n es) :
    Calls Try.prog 75 #[.agg #[.int .i64 n, .slice a es.length cap]] w fun e w' => ∃ a' cap' D, e = .returned (.slice a' D.length cap') ∧ D = (if b = true then (List.range n.toNat).map (fun v : Nat => ((nbL v es).length : Int)) else []) ∧ IAt w' a' D ∧ Below w.heap.size w w' ∧ ∀ g off, a' = some ⟨g, off, none⟩ → w.heap.size ≤ g := by
  obtain ⟨N, hNe⟩ : ∃ N, N = es.length := ⟨_, rfl⟩
  have HR : Hid (∀ W, EAt W a es → Calls Try.prog 26 #[.agg #[.int .i64 n, .slice a N cap]] W fun e w' => e = .returned (.bool b) ∧ Below W.heap.size W w') := fun W h => by rw [hNe]; exact right_any n a cap es b W hN h hb
  rw [← hNe] at hN ⊢
  have HN : Hid (N = es.length) := hNe
  have HE : Hid (EAt w a es) := hE
  have HB : Hid (b = true ↔ RightG n es) := hb
  clear hNe hE hb
  go_enter Try.func75, Try.ntmps75
  have hbA : Below w.heap.size w (w.alloc (.cells #[.int .i64 n, .slice a N cap] 26)) := (Below.refl _ _).alloc (Nat.le_refl _) _
  have HEA : Hid (EAt (w.alloc (.cells #[.int .i64 n, .slice a N cap] 26)) a es) := HE.out.below hbA
  have hOA : (w.alloc (.cells #[.int .i64 n, .slice a N cap] 26)).heap[w.heap.size]? = some (.cells #[.int .i64 n, .slice a N cap] 26) := heap_alloc_new _ _
  have hsA : (w.alloc (.cells #[.int .i64 n, .slice a N cap] 26)).heap.size = w.heap.size + 1 := by simp
  have HOA : Hid ((w.alloc (.cells #[.int .i64 n, .slice a N cap] 26)).heap[w.heap.size]? = some (.cells #[.int .i64 n, .slice a N cap] 26)) := hOA
  clear hOA
  go_wp2_with fail
  refine (HR.out _ HEA.out).mono ?_
  rintro e w1 ⟨rfl, hb1⟩
  rw [hsA] at hb1
  have hbw : Below w.heap.size w w1 := hbA.trans (hb1.mono (by omega))
  have o1 := (hb1.block w.heap.size (by omega)).trans HOA.out
  have HE1 : Hid (EAt w1 a es) := HE.out.below hbw
  have hs1 := hb1.size
  rw [hsA] at hs1
  have c0 := cell_of_heap o1 0
  have c1 := cell_of_heap o1 1
  clear hb1 hbA hsA HR HEA HOA
  cases b with
  | false =>
    go_wp2
    go_ret
    exact ⟨none, 0, [], rfl, rfl, iat_nil _ _, hbw, fun g off h => by cases h⟩
  | true =>
    have HRG : Hid (RightG n es) := HB.out.1 rfl
    obtain ⟨m, rfl⟩ : ∃ m : Nat, n = m := ⟨n.toNat, by have := HRG.out.1; omega⟩
    have hm : m ≤ 1000 := by have := HRG.out.2.1; omega
    have hNN : N ≤ 4000 := by have := HRG.out.2.2.1; rw [← HN.out] at this; exact this
    obtain ⟨i0, hi, hz0, hz1, hz2⟩ := info_parts Try.info3
    obtain ⟨w2, hrun, hown, hgrow⟩ := run_make_full (P := Try.prog) w1 w1.heap.size 28 3 i0 (.int .i64 0) 1 Try.underlying28 hi hz0 hz1 .i64 .i64 m (by rw [hz2]; omega) (by unfold maxLen; omega) (Nat.le_refl _)
    have hs2 : w1.heap.size < w2.heap.size := by
      rcases hown.2 with ⟨hv, _⟩ | ⟨g', cap, cur, hv, _, hgb, _⟩
      · simp at hv
      · simp only [Value.slice.injEq, Option.some.injEq, Addr.mk.injEq, and_true, true_and] at hv
        obtain ⟨rfl, _⟩ := hv
        exact (Array.getElem?_eq_some_iff.1 hgb).1
    have HRW : Hid (Row1 w2 w1.heap.size m (fun v => ((nbL (v : Int) (es.take 0)).length : Int))) := (row1_made hown hs2).congr (fun j _ => by simp [nbL])
    have hb2 : Below w1.heap.size w1 w2 := Below.grown (Below.refl _ _) hgrow (Nat.le_refl _) (fun k hk => by cases hk)
    have c1' : w2.cell? ⟨w.heap.size, 1, none⟩ = some (.slice a N cap) := (hb2.cell (p := ⟨w.heap.size, 1, none⟩) (by simp; omega)).trans c1
    have HRN : Hid (∀ W, W = w1 → (Instr.makeSlice 28 (.int .i64 m) (.int .i64 m)).run Try.prog W = .ok (.slice (some ⟨w1.heap.size, 0, none⟩) m m) w2) := fun W h => by rw [h]; exact hrun
    clear hown hgrow hi hz0 hz1 hz2 HB c1 HRN
    go_wp2
    go_loopw [15] (fun i wr => ∃ k : Nat, k ≤ N ∧ i = .int .i64 k ∧ Hid (Row1 wr w1.heap.size m (fun v => ((nbL (v : Int) (es.take k)).length : Int))) ∧ Below w1.heap.size w1 wr) (fun i _ => N - (RowKit.intOf i).toNat)
    case atStart => exact ⟨0, Nat.zero_le _, rfl, HRW, hb2⟩
    case round =>
      obtain ⟨k, hk, rfl, hrow, hbr⟩ := hrel
      by_cases hlt : k < N
      · have hkr : k < es.length := by rw [← HN.out]; exact hlt
        obtain ⟨g, off, rfl, hg, hcs⟩ := HE1.out.at hkr
        have hin := (HRG.out.at k hkr).1
        obtain ⟨p, hp⟩ : ∃ p : Nat, (p : Int) = es[k].1 := ⟨es[k].1.toNat, by omega⟩
        obtain ⟨q, hq⟩ : ∃ q : Nat, (q : Int) = es[k].2 := ⟨es[k].2.toNat, by omega⟩
        have d := hcs wr hbr k hkr
        rw [← hp, ← hq] at d hin
        obtain ⟨d0, d1⟩ := d
        have i1 : p < q := by omega
        have i2 : q < m := by omega
        have HD := deg_next (m := m) hkr hp hq i1
        obtain ⟨x1, hx1⟩ := ex_eq (nbL (p : Int) (es.take k)).length
        obtain ⟨x2, hx2⟩ := ex_eq (nbL (q : Int) (es.take k)).length
        have hl1 : x1 ≤ 4000 := by rw [hx1]; exact Nat.le_trans (nbL_len _ _) (by rw [List.length_take]; omega)
        have hl2 : x2 ≤ 4000 := by rw [hx2]; exact Nat.le_trans (nbL_len _ _) (by rw [List.length_take]; omega)
        obtain ⟨c, hc⟩ := ex_eq (fun v : Nat => ((nbL (v : Int) (es.take k)).length : Int))
        rw [← hc] at hrow
        have hcp : c p = x1 := by rw [hc, hx1]
        have hcq : c q = x2 := by rw [hc, hx2]
        have hrA := hrow.out.alloc (.cells #[.int .i64 p, .int .i64 q] 42)
        have r1 := hrA.2 p (by omega)
        have HR1 := hrA.put (i := p) (by omega) ((x1 : Int) + 1)
        have r2 := HR1.2 q i2
        rw [hcp] at r1
        have hqq : (fun j => if j = p then (x1 : Int) + 1 else c j) q = (x2 : Int) := by
          show (if q = p then (x1 : Int) + 1 else c q) = (x2 : Int)
          rw [if_neg (by omega), hcq]
        rw [hqq] at r2
        have HR2 := HR1.put (i := q) i2 ((x2 : Int) + 1)
        have HRX : Hid (Row1 (((wr.alloc (.cells #[.int .i64 p, .int .i64 q] 42)).setCell ⟨w1.heap.size, p, none⟩ (.int .i64 ((x1 : Int) + 1))).setCell ⟨w1.heap.size, q, none⟩ (.int .i64 ((x2 : Int) + 1))) w1.heap.size m (fun v => ((nbL (v : Int) (es.take (k + 1))).length : Int))) := HR2.congr (fun j hj => by
          rw [← HD j hj, hx1, hx2, hc])
        obtain ⟨r1, r1f⟩ := r1
        obtain ⟨r2, r2f⟩ := r2
        have hbX : Below w1.heap.size w1 (((wr.alloc (.cells #[.int .i64 p, .int .i64 q] 42)).setCell ⟨w1.heap.size, p, none⟩ (.int .i64 ((x1 : Int) + 1))).setCell ⟨w1.heap.size, q, none⟩ (.int .i64 ((x2 : Int) + 1))) := ((hbr.alloc hbr.size _).setCell (p := ⟨w1.heap.size, p, none⟩) (Nat.le_refl _) _).setCell (p := ⟨w1.heap.size, q, none⟩) (Nat.le_refl _) _
        have hsr : w1.heap.size < wr.heap.size := hrow.out.1
        have bx1 : ((wr.alloc (.cells #[.int .i64 p, .int .i64 q] 42)).setCell ⟨w1.heap.size, p, none⟩ (.int .i64 ((x1 : Int) + 1))).cell? ⟨wr.heap.size, 1, none⟩ = some (.int .i64 q) := by
          rw [World.cell?_setCell_other _ _ _ _ (by simp <;> omega)]
          exact cell_of_heap (heap_alloc_new _ _) 1
        have q1 : (p : Int) < (m : Int) := by omega
        have q2 : (q : Int) < (m : Int) := by omega
        clear hsr hqq HD hx1 hx2 hc hcp hcq hrA HR1 HR2 hp hq hin hcs hrow
        go_wp2
        go_roundw
        case rel => exact ⟨k + 1, by omega, by go_num, HRX, hbX⟩
        case measure => simp [RowKit.intOf]; omega
      · obtain rfl : k = N := by omega
        have htk : es.take k = es := by rw [HN.out, List.take_length]
        rw [htk] at hrow
        go_wp2
        go_ret
        have hl : ((List.range m).map (fun v : Nat => ((nbL (v : Int) es).length : Int))).length = m := by simp
        refine ⟨some ⟨w1.heap.size, 0, none⟩, m, (List.range m).map (fun v : Nat => ((nbL (v : Int) es).length : Int)), by rw [hl]; rfl, ?_, hrow.out.iat, hbw.trans (hbr.mono (by omega)), fun g off h => by cases h; omega⟩
        simp
end Go.Proofs.Ytplhpinaadgkkaa
