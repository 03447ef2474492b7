/-
  The program's blocks and cuts of a graph keep their contract (layer 7).
  What the program's walks stand on: isVertex, marked.
  The program's edges within a row of vertices (layer 7).
  graph.Degrees once more: its row is a new one.
-/
import Derived.Test.YtlebimolgienkaaT10
import Derived.Test.YtlebimolgienkaaT14
import Derived.Test.YtlebimolgienkaaT15
import Derived.Test.YtlebimolgienkaaT16
import Derived.Test.YtlebimolgienkaaT09
import Derived.Test.YtlebimolgienkaaT11
import Derived.Test.YtlebimolgienkaaT05
import Derived.Test.YtlebimolgienkaaT02
namespace Go.Proofs.Ytlebimolgienkaa
open Go.RowKit Go.Lib

theorem flat_count {LL : List (List Int)} (hnd : ∀ L ∈ LL, L.Nodup) (v : Nat) : LL.flatten.count (v : Int) = (atL LL v).length := by
  induction LL with
  | nil => simp [atL]
  | cons L LL ih =>
    have h2 := ih (fun M hM => hnd M (List.mem_cons_of_mem _ hM))
    have h1 := hnd L (by simp)
    unfold atL at h2 ⊢
    rw [List.flatten_cons, List.count_append, h2, List.filter_cons]
    by_cases h : (v : Int) ∈ L
    · rw [if_pos (decide_eq_true h), List.Nodup.count h1, if_pos h, List.length_cons]; omega
    · rw [if_neg (by simpa using h), List.count_eq_zero.2 h]; omega
theorem sev_cuts {m : Nat} {es : List (Int × Int)} {Bs : List (List Int)} (hR : RightG m es) (hB : BlocksL es Bs) : CutsL es (sevL m Bs) := by
  refine cuts_of hR hB ?_ (fun v => ?_)
  · unfold sevL
    rw [List.pairwise_map]
    exact (List.pairwise_lt_range.filter _).imp (fun h => by omega)
  · have hnd : ∀ L ∈ Bs, L.Nodup := fun L hL => by
      rw [List.nodup_iff_pairwise_ne]
      exact ((hB.is L).1 hL).1.imp (fun h => by omega)
    unfold sevL
    simp only [List.mem_map, List.mem_filter, List.mem_range, decide_eq_true_eq]
    constructor
    · rintro ⟨i, ⟨h1, h2⟩, rfl⟩
      rw [flat_count hnd] at h2
      exact ⟨by omega, h2⟩
    · rintro ⟨h1, h2⟩
      refine ⟨v.toNat, ⟨by omega, ?_⟩, by omega⟩
      rw [flat_count hnd]; exact h2

theorem iat_off_tree {w : World} {B : Nat} {T : TypeId} {fr : Nat × Nat} {a : Option Addr} {xs : List Int} (hB : w.heap[B]? = some (.cells #[.slice none 0 0, .slice none 0 0] T fr)) (h : IAt w a xs) : ∀ g off, a = some ⟨g, off, none⟩ → 0 < xs.length → ¬ g = B := fun g off ha h0 e => by
  subst e
  obtain ⟨g', off', ha', _, hc⟩ := h h0
  rw [ha] at ha'
  simp only [Option.some.injEq, Addr.mk.injEq, and_true] at ha'
  obtain ⟨rfl, rfl⟩ := ha'
  have h1 := hc 0 h0
  rw [cell_of_heap hB] at h1
  match off, h1 with
  | 0, h1 => simp at h1
  | 1, h1 => simp at h1
  | k + 2, h1 => simp at h1
theorem llat_off_tree {w : World} {B : Nat} {T : TypeId} {fr : Nat × Nat} {a : Option Addr} {LL : List (List Int)} (hB : w.heap[B]? = some (.cells #[.slice none 0 0, .slice none 0 0] T fr)) (hne : ∀ L ∈ LL, 0 < L.length) (h : LLAt w a LL) {w' : World} (hk : KeptBut (fun k => k = B) w w') : LLAt w' a LL := fun h0 => by
  obtain ⟨g, off, ha, hg, hc⟩ := h h0
  have hgB : ¬ g = B := fun e => by
    subst e
    obtain ⟨ak, ck, h1, _⟩ := hc 0 h0
    have hl := hne LL[0] (List.getElem_mem _)
    rw [cell_of_heap hB] at h1
    match off, h1 with
    | 0, h1 => simp at h1; omega
    | 1, h1 => simp at h1; omega
    | k + 2, h1 => simp at h1
  refine ⟨g, off, ha, Nat.lt_of_lt_of_le hg hk.size, fun k hk' => ?_⟩
  obtain ⟨ak, ck, h1, h2⟩ := hc k hk'
  exact ⟨ak, ck, (hk.cell (p := ⟨g, off + k, none⟩) hg hgB).trans h1, h2.kept hk (iat_off_tree hB h2)⟩
set_option maxHeartbeats 4000000 in
set_option maxRecDepth 100000 in
theorem blkOf_any (n : Int) (a : Option Addr) (cap : Nat) (es : List (Int × Int)) (b : Bool) (w : World) (hN : es.length ≤ 1000000) (hE : EAt w a es) (hb : b = true ↔ RightG n es) :
    Calls Try.prog 14 #[.agg #[.int .i64 n, .slice a es.length cap]] w fun e w' => ∃ v, e = .returned v ∧ TreeTold n es w w' v := by
  obtain ⟨N, hNe⟩ := ex_eq es.length
  obtain ⟨W, hW, hsW, hO0, hO1, hbW⟩ := new_two w (.cells #[.int .i64 n, .slice a N cap] 26) (.cells #[.slice none 0 0, .slice none 0 0] 31)
  have HGC : Hid (∀ X, Below W.heap.size W X → GC X w.heap.size n a N cap es ∧ Below w.heap.size w X ∧ X.heap[w.heap.size + 1]? = some (.cells #[.slice none 0 0, .slice none 0 0] 31 (0, 0))) := fun X hX => by
    have o := (hX.block _ (by omega)).trans hO0
    have o1 := (hX.block (w.heap.size + 1) (by omega)).trans hO1
    have hbx : Below w.heap.size w X := hbW.trans (hX.mono (by omega))
    exact ⟨⟨cell_of_heap o 0, cell_of_heap o 1, hE.below hbx⟩, hbx, o1⟩
  have CR : Hid (∀ X, Below W.heap.size W X → Calls Try.prog 36 #[.agg #[.int .i64 n, .slice a N cap]] X fun e w' => e = .returned (.bool b) ∧ Below X.heap.size X w') := fun X hX => by
    rw [hNe]; exact right_any n a cap es b X hN (HGC.out X hX).1.at_ hb
  have CB : Hid (∀ (m : Nat) X, n = m → RightG n es → Below W.heap.size W X → Calls Try.prog 37 #[.int .i64 m, .slice a N cap] X fun e w' => ∃ u us LL, e = .returned u ∧ LLOwn w' X.heap.size (fun k => X.heap.size ≤ k) u us LL ∧ (∀ B, B ∈ LL ↔ IsBlk es B) ∧ LL.Nodup ∧ LL.length ≤ 1000 ∧ Below X.heap.size X w') := fun m X hm hR hX => by
    subst hm
    rw [hNe]; exact blocksOf_any m a cap es X (HGC.out X hX).1.at_ hR
  have HBB := hid hb
  have HW := hid hW
  have HZ : Hid (∀ X u v, Below w.heap.size w X → Below w.heap.size w ((X.setCell ⟨w.heap.size + 1, 0, none⟩ u).setCell ⟨w.heap.size + 1, 1, none⟩ v)) := fun X u v hX => (hX.setCell (p := ⟨w.heap.size + 1, 0, none⟩) (by simp) _).setCell (p := ⟨w.heap.size + 1, 1, none⟩) (by simp) _
  rw [← hNe]
  have HSW := hid hsW
  clear hNe hW hO0 hO1 hbW hE hb hN hsW
  go_enter Try.func14, Try.ntmps14
  go_wp2_with fail
  rw [← HW.out]
  refine (CR.out W (Below.refl _ _)).mono ?_
  rintro e w1 ⟨rfl, hb1⟩
  obtain ⟨hg1, hbw1, ho1⟩ := HGC.out w1 hb1
  have HB1 := hid hb1
  have HBw1 := hid hbw1
  have z0 := cell_of_heap ho1 0
  have z1 := cell_of_heap ho1 1
  have zf0 := frozen_of_heap ho1 0
  have zf1 := frozen_of_heap ho1 1
  clear CR hb1 hbw1 HW
  cases b with
  | false =>
    have HNR : Hid (OfRel n es [] []) := Or.inr ⟨(fun h => by have := HBB.out.2 h; cases this), rfl, rfl⟩
    clear HBB hg1 ho1 CB
    go_wp2
    refine bodyPost_ret (v := .agg #[.slice none 0 0, .slice none 0 0]) ?_ rfl ⟨_, rfl, [], [], none, 0, none, 0, rfl, HNR.out, iat_nil _ _, llat_nil _ _, HZ.out w1 _ _ HBw1.out⟩
    rw [results_cell1 rfl]
    go_simp
  | true =>
    have HRG := hid (HBB.out.1 rfl)
    obtain ⟨m, rfl⟩ : ∃ m : Nat, n = m := ⟨n.toNat, by have := HRG.out.1; omega⟩
    have hm : m ≤ 1000 := by have := HRG.out.2.1; omega
    have C2 := hid (CB.out m w1 rfl HRG.out HB1.out)
    obtain ⟨c0, c1⟩ := hg1.cells
    clear HBB hg1 ho1 z0 z1 zf0 zf1 CB
    go_wp2_with fail
    refine C2.out.mono ?_
    rintro e w2 ⟨u, us, LL, rfl, hown, hLL, hnd, hlen, hb2⟩
    have hbW2 : Below W.heap.size W w2 := HB1.out.trans (hb2.mono HB1.out.size)
    have hrl : ∀ L ∈ LL, L.length ≤ 1000 := fun L hL => by have := blk_len HRG.out ((hLL L).1 hL); omega
    obtain ⟨x, xc, rfl, CS⟩ := sortL_any hown hnd hlen (fun L hL => by have := hrl L hL; omega)
    have HCS := hid CS
    have HLL := hid hLL
    have HRL := hid hrl
    have HB2 := hid hbW2
    have HS1 : Hid (W.heap.size ≤ w1.heap.size ∧ w1.heap.size ≤ w2.heap.size) := ⟨HB1.out.size, hb2.size⟩
    obtain ⟨K, hK⟩ := ex_eq LL.length
    rw [← hK] at HCS ⊢
    have HK := hid hK
    clear CS hown hLL hnd hrl hbW2 hb2 C2 c0 c1 hK hlen
    go_wp2_with fail
    refine HCS.out.mono ?_
    rintro e w3 ⟨rfl, LL', hperm, hord, hll, hkeep⟩
    have hb3 : Below W.heap.size W w3 := hkeep _ _ HB2.out HS1.out.1 HB2.out.size
    obtain ⟨hg3, hbw3, ho3⟩ := HGC.out w3 hb3
    have hBs : BlocksL es LL' := ⟨fun B => (hperm.mem_iff).trans (HLL.out B), hord⟩
    have hl' : LL'.length = K := by rw [hperm.length_eq, HK.out]
    have hcon := sev_any m x xc LL' w3 hm (by have := blks_len HRG.out hBs; omega) (fun L hL => HRL.out L (hperm.mem_iff.1 hL)) (fun L hL => ((hBs.is L).1 hL).in HRG.out) hll
    rw [hl'] at hcon
    have C3 := hid hcon
    have HREL : Hid (OfRel m es (sevL m LL') LL') := Or.inl ⟨HRG.out, hBs, sev_cuts HRG.out hBs⟩
    have HLL3 := hid hll
    have HB3 := hid hb3
    have HL' := hid hl'
    obtain ⟨c0, c1⟩ := hg3.cells
    clear hcon hperm hord hkeep hbw3 hBs hl' hll HCS HLL HRL HB2 HB1 HBw1 hb3 ho3 hg3
    go_wp2_with fail
    refine C3.out.mono ?_
    rintro e w4 ⟨ca, cc, rfl, hca, hb4⟩
    have hb4W : Below W.heap.size W w4 := HB3.out.trans (hb4.mono HB3.out.size)
    obtain ⟨hg4, hbw4, ho4⟩ := HGC.out w4 hb4W
    have z0 := cell_of_heap ho4 0
    have z1 := cell_of_heap ho4 1
    have zf0 := frozen_of_heap ho4 0
    have zf1 := frozen_of_heap ho4 1
    have HCA := hid hca
    have HLL4 := hid (HLL3.out.below hb4)
    have HBw4 := hid hbw4
    have HO4 := hid ho4
    obtain ⟨Q, hQ⟩ := ex_eq (sevL m LL').length
    rw [← hQ]
    have HQ := hid hQ
    clear hb4 hb4W hg4 hbw4 ho4 hca HLL3 C3 c0 c1 hQ
    go_wp2
    refine bodyPost_ret (v := .agg #[.slice ca Q cc, .slice x K xc]) ?_ rfl ⟨_, rfl, sevL m LL', LL', ca, cc, x, xc, by rw [HQ.out, HL'.out], HREL.out, ?_, ?_, HZ.out w4 _ _ HBw4.out⟩
    · rw [results_cell1 rfl]
      go_simp
    · exact HCA.out.kept ((kept_set w4 ⟨w.heap.size + 1, 0, none⟩ _).trans (kept_set _ ⟨w.heap.size + 1, 1, none⟩ _)) (iat_off_tree HO4.out HCA.out)
    · exact llat_off_tree HO4.out (fun L hL => by
        rcases HREL.out with ⟨h1, h2, _⟩ | ⟨h1, _, _⟩
        · have := blk_two h1 ((h2.is L).1 hL); omega
        · exact absurd HRG.out h1) HLL4.out ((kept_set w4 ⟨w.heap.size + 1, 0, none⟩ _).trans (kept_set _ ⟨w.heap.size + 1, 1, none⟩ _))
end Go.Proofs.Ytlebimolgienkaa
namespace Go.Proofs.Ytlebimolgienkaa
open Go.RowKit Go.Lib

set_option maxHeartbeats 400000 in
theorem vtx_any (n v : Int) (r : Bool) (w : World) (hr : r = decide (0 ≤ v ∧ v < n)) :
    Calls Try.prog 118 #[.int .i64 n, .int .i64 v] w fun e w' => e = .returned (.bool r) ∧ w' = w := by
  by_cases h : 0 ≤ v
  · by_cases h2 : v < n
    · rw [decide_eq_true (by omega)] at hr
      subst hr
      go_enter Try.func118, Try.ntmps118
      go_wp2
      go_ret
      exact ⟨rfl, rfl⟩
    · rw [decide_eq_false (by omega)] at hr
      subst hr
      go_enter Try.func118, Try.ntmps118
      go_wp2
      go_ret
      exact ⟨rfl, rfl⟩
  · rw [decide_eq_false (by omega)] at hr
    subst hr
    go_enter Try.func118, Try.ntmps118
    go_wp2
    go_ret
    exact ⟨rfl, rfl⟩

/-- A row without doubles, of vertices alone, and not empty. -/
def GoodL (n : Int) (l : List Int) : Prop := l ≠ [] ∧ l.Nodup ∧ ∀ x ∈ l, 0 ≤ x ∧ x < n
/-- The first k of l are vertices, none twice. -/
def GoodTo (n : Int) (l : List Int) (k : Nat) : Prop := (l.take k).Nodup ∧ ∀ x ∈ l.take k, 0 ≤ x ∧ x < n
theorem take_next {l : List Int} {k : Nat} (h : k < l.length) : l.take (k + 1) = l.take k ++ [l[k]] := List.take_append_getElem h |>.symm
theorem goodTo_next {n : Int} {l : List Int} {k : Nat} (h : GoodTo n l k) (hk : k < l.length) (h1 : 0 ≤ l[k] ∧ l[k] < n) (h2 : l[k] ∉ l.take k) : GoodTo n l (k + 1) := by
  unfold GoodTo
  rw [take_next hk]
  refine ⟨List.nodup_append.2 ⟨h.1, by simp, fun y hy z hz => by simp at hz; subst hz; exact fun e => h2 (e ▸ hy)⟩, fun x hx => ?_⟩
  rcases List.mem_append.1 hx with hx | hx
  · exact h.2 x hx
  · simp at hx; subst hx; exact h1
theorem good_not_in {n : Int} {l : List Int} {k : Nat} (hk : k < l.length) (h : ¬ (0 ≤ l[k] ∧ l[k] < n)) : ¬ GoodL n l := fun hg => h (hg.2.2 _ (List.getElem_mem hk))
theorem good_not_twice {n : Int} {l : List Int} {k : Nat} (hk : k < l.length) (h : l[k] ∈ l.take k) : ¬ GoodL n l := fun hg => by
  obtain ⟨j, hj, e⟩ := List.getElem_of_mem h
  rw [List.length_take] at hj
  rw [List.getElem_take] at e
  exact List.pairwise_iff_getElem.1 hg.2.1 j k (by omega) hk (by omega) e
/-- What marked tells. -/
def MarkIs (m : Nat) (l : List Int) (w w' : World) (v : Value) : Prop :=
  (GoodL m l ∧ ∃ g, v = .tuple #[.slice (some ⟨g, 0, none⟩) m m, .bool true] ∧ w.heap.size ≤ g ∧ RowB w' g m (fun j => decide ((j : Int) ∈ l)) ∧ Below w.heap.size w w') ∨
  (¬ GoodL m l ∧ ∃ u, v = .tuple #[u, .bool false] ∧ Below w.heap.size w w')

set_option maxHeartbeats 1000000 in
set_option maxRecDepth 100000 in
theorem marked_any (m : Nat) (la : Option Addr) (lc : Nat) (l : List Int) (w : World) (hm : m ≤ 1000) (hL : l.length ≤ 1000000) (hI : IAt w la l) :
    Calls Try.prog 84 #[.int .i64 m, .slice la l.length lc] w fun e w' => ∃ v, e = .returned v ∧ MarkIs m l w w' v := by
  obtain ⟨M, hMe⟩ := ex_eq l.length
  obtain ⟨i0, hi, hz0, hz1, hz2⟩ := info_parts Try.info4
  obtain ⟨w2, hrun, hown, hgrow⟩ := run_make_full (P := Try.prog) w w.heap.size 76 4 i0 (.bool false) 1 Try.underlying76 hi hz0 hz1 .i64 .i64 m (by rw [hz2]; omega) (by unfold maxLen; omega) (Nat.le_refl _)
  have HRW : Hid (RowB w2 w.heap.size m (fun j => decide ((j : Int) ∈ l.take 0))) := (rowB_made hown).congr (fun j _ => by simp)
  have hb2 : Below w.heap.size w w2 := Below.grown (Below.refl _ _) hgrow (Nat.le_refl _) (fun k hk => by cases hk)
  have HI := hid hI
  have HM := hid hMe
  rw [← hMe] at hL ⊢
  clear hI hMe hown hgrow hi hz0 hz1 hz2
  go_enter Try.func84, Try.ntmps84
  go_wp2
  go_loopw [13] (fun i wr => ∃ k : Nat, k ≤ M ∧ i = .int .i64 k ∧ Hid (RowB wr w.heap.size m (fun j => decide ((j : Int) ∈ l.take k))) ∧ Hid (GoodTo m l k) ∧ Below w.heap.size w wr) (fun i _ => M - (RowKit.intOf i).toNat)
  case atStart => exact ⟨0, Nat.zero_le _, rfl, HRW, ⟨by simp, by simp⟩, hb2⟩
  case round =>
    obtain ⟨k, hk, rfl, hrow, hgd, hbr⟩ := hrel
    by_cases hlt : k < M
    · have hkr : k < l.length := by rw [← HM.out]; exact hlt
      obtain ⟨g, off, rfl, hgl, hcs⟩ := HI.out (by omega)
      have d0 := (hbr.cell (p := ⟨g, off + k, none⟩) hgl).trans (hcs k hkr)
      obtain ⟨x, hx⟩ := ex_eq l[k]
      rw [← hx] at d0
      have HX := hid hx
      clear hcs hx
      by_cases hin : 0 ≤ x ∧ x < m
      · obtain ⟨p, rfl⟩ : ∃ p : Nat, x = p := ⟨x.toNat, by omega⟩
        have hp : p < m := by omega
        have q1 : (p : Int) < (m : Int) := by omega
        have hv := vtx_any m p true wr (decide_eq_true hin).symm
        obtain ⟨r1, r1f⟩ := hrow.out.2 p hp
        by_cases hmem : (p : Int) ∈ l.take k
        · have e1 : decide ((p : Int) ∈ l.take k) = true := decide_eq_true hmem
          simp only [e1] at r1
          have HNG : Hid (¬ GoodL m l) := good_not_twice hkr (by rw [← HX.out]; exact hmem)
          clear e1 hmem hrow hgd hin
          go_wp2_with (go_at_call 118; refine hv.mono ?_; rintro e w' ⟨rfl, rfl⟩)
          go_ret2
          exact ⟨_, rfl, Or.inr ⟨HNG.out, _, rfl, hbr⟩⟩
        · have e1 : decide ((p : Int) ∈ l.take k) = false := decide_eq_false hmem
          simp only [e1] at r1
          have HNX : Hid (GoodTo m l (k + 1)) := goodTo_next hgd.out hkr (by rw [← HX.out]; exact hin) (by rw [← HX.out]; exact hmem)
          have HRX : Hid (RowB (wr.setCell ⟨w.heap.size, p, none⟩ (.bool true)) w.heap.size m (fun j => decide ((j : Int) ∈ l.take (k + 1)))) := (hrow.out.put hp true).congr (fun j _ => by
            rw [take_next hkr, ← HX.out]
            by_cases e : j = p
            · subst e; rw [if_pos rfl]; exact (decide_eq_true (by simp)).symm
            · rw [if_neg e]
              apply decide_eq_decide.2
              simp only [List.mem_append, List.mem_singleton]
              exact ⟨Or.inl, fun h => h.resolve_right (by omega)⟩)
          have hbX : Below w.heap.size w (wr.setCell ⟨w.heap.size, p, none⟩ (.bool true)) := hbr.setCell (p := ⟨w.heap.size, p, none⟩) (Nat.le_refl _) _
          clear e1 hmem hrow hgd hin
          go_wp2_with (go_at_call 118; refine hv.mono ?_; rintro e w' ⟨rfl, rfl⟩)
          go_roundw
          case rel => exact ⟨k + 1, by omega, by go_num, HRX, HNX, hbX⟩
          case measure => simp [RowKit.intOf]; omega
      · have hv := vtx_any m x false wr (decide_eq_false hin).symm
        have HNG : Hid (¬ GoodL m l) := good_not_in hkr (by rw [← HX.out]; exact hin)
        clear hin hrow hgd
        go_wp2_with (go_at_call 118; refine hv.mono ?_; rintro e w' ⟨rfl, rfl⟩)
        go_ret2
        exact ⟨_, rfl, Or.inr ⟨HNG.out, _, rfl, hbr⟩⟩
    · obtain rfl : k = M := by omega
      have htk : l.take k = l := by rw [HM.out, List.take_length]
      rw [htk] at hrow
      have hgd2 := hgd.out
      unfold GoodTo at hgd2
      rw [htk] at hgd2
      have HG2 := hid hgd2
      have HRow := hid hrow.out
      clear hgd2 hgd hrow
      by_cases h0 : k = 0
      · subst h0
        have HNG : Hid (¬ GoodL m l) := fun h => h.1 (List.length_eq_zero_iff.1 HM.out.symm)
        go_wp2
        go_ret2
        exact ⟨_, rfl, Or.inr ⟨HNG.out, _, rfl, hbr⟩⟩
      · have q0 : (0 : Int) < (k : Int) := by omega
        have HNE : Hid (l ≠ []) := fun e => h0 (by rw [HM.out, e]; rfl)
        go_wp2
        go_ret2
        exact ⟨_, rfl, Or.inl ⟨⟨HNE.out, HG2.out⟩, w.heap.size, (by simp <;> omega), Nat.le_refl _, HRow.out, hbr⟩⟩
end Go.Proofs.Ytlebimolgienkaa
namespace Go.Proofs.Ytlebimolgienkaa
open Go.RowKit Go.Lib

theorem within_next {es : List (Int × Int)} {l : List Int} {k : Nat} (h : k < es.length) : withinL (es.take (k + 1)) l = withinL (es.take k) l ++ (if es[k].1 ∈ l ∧ es[k].2 ∈ l then [(es[k].1, es[k].2)] else []) := by
  unfold withinL
  rw [← List.take_append_getElem h, List.filter_append]
  congr 1
  by_cases h1 : es[k].1 ∈ l
  · by_cases h2 : es[k].2 ∈ l
    · rw [if_pos ⟨h1, h2⟩]; simp [h1, h2]
    · rw [if_neg (fun e => h2 e.2)]; simp [h2]
  · rw [if_neg (fun e => h1 e.1)]; simp [h1]
theorem within_len (es : List (Int × Int)) (l : List Int) : (withinL es l).length ≤ es.length := List.length_filter_le _ _

set_option maxHeartbeats 2000000 in
set_option maxRecDepth 100000 in
theorem within_any (m : Nat) (a : Option Addr) (cap : Nat) (es : List (Int × Int)) (la : Option Addr) (lc : Nat) (l : List Int) (w : World) (hE : EAt w a es) (hR : RightG m es) (hL : l.length ≤ 1000000) (hI : IAt w la l) (hin : ∀ x ∈ l, 0 ≤ x ∧ x < m) :
    Calls Try.prog 73 #[.agg #[.int .i64 m, .slice a es.length cap], .slice la l.length lc] w fun e w' => ∃ a' cap', e = .returned (.slice a' (withinL es l).length cap') ∧ EAt w' a' (withinL es l) ∧ Below w.heap.size w w' := by
  have hm : m ≤ 1000 := by have := hR.2.1; omega
  obtain ⟨N, hNe⟩ := ex_eq es.length
  obtain ⟨M, hMe⟩ := ex_eq l.length
  have hN4 : N ≤ 4000 := by rw [hNe]; exact hR.2.2.1
  obtain ⟨W1, hW1⟩ := ex_eq (w.alloc (.cells #[.int .i64 m, .slice a N cap] 26))
  have hs1 : W1.heap.size = w.heap.size + 1 := by rw [hW1]; simp
  have hO : W1.heap[w.heap.size]? = some (.cells #[.int .i64 m, .slice a N cap] 26 (0, 0)) := by rw [hW1]; exact heap_alloc_new _ _
  have hbW : Below w.heap.size w W1 := by rw [hW1]; exact (Below.refl _ _).alloc (Nat.le_refl _) _
  obtain ⟨i0, hi, hz0, hz1, hz2⟩ := info_parts Try.info4
  obtain ⟨W2, hrun, hown, hgrow⟩ := run_make_full (P := Try.prog) W1 W1.heap.size 76 4 i0 (.bool false) 1 Try.underlying76 hi hz0 hz1 .i64 .i64 m (by rw [hz2]; omega) (by unfold maxLen; omega) (Nat.le_refl _)
  have HRW : Hid (RowB W2 W1.heap.size m (fun j => decide ((j : Int) ∈ l.take 0))) := (rowB_made hown).congr (fun j _ => by simp)
  have hb2 : Below W1.heap.size W1 W2 := Below.grown (Below.refl _ _) hgrow (Nat.le_refl _) (fun k hk => by cases hk)
  have c0 := cell_of_heap hO 0
  have c0' : (w.alloc (.cells #[.int .i64 m, .slice a N cap] 26)).cell? ⟨w.heap.size, 0, none⟩ = some (.int .i64 m) := by rw [← hW1]; exact c0
  have HKEEP : Hid (∀ X, Below W1.heap.size W1 X → EAt X a es ∧ IAt X la l ∧ X.cell? ⟨w.heap.size, 1, none⟩ = some (.slice a N cap) ∧ Below w.heap.size w X) := fun X hX => by
    have hb : Below w.heap.size w X := hbW.trans (hX.mono (by omega))
    exact ⟨hE.below hb, hI.below hb, (hX.cell (p := ⟨w.heap.size, 1, none⟩) (by simp only; omega)).trans (cell_of_heap hO 1), hb⟩
  have HN := hid hNe
  have HM := hid hMe
  have HIN := hid hin
  have HRG := hid hR
  have HW1 := hid hW1
  have HS1 := hid hs1
  rw [← hMe] at hL ⊢
  rw [← hNe]
  clear hI hMe hNe hown hgrow hi hz0 hz1 hz2 hE hR hin hbW hO hW1 c0' hs1
  go_enter Try.func73, Try.ntmps73
  go_upto_region 1 with fail
  rw [← HW1.out]
  clear HW1
  go_wp2
  clear c0 hrun
  obtain ⟨gM, hgM⟩ := ex_eq W1.heap.size
  have HGM := hid hgM
  rw [← hgM] at hb2 HRW HKEEP HS1 ⊢
  clear hgM
  go_loopw [16] (fun i wr => ∃ k : Nat, k ≤ M ∧ i = .int .i64 k ∧ Hid (RowB wr gM m (fun j => decide ((j : Int) ∈ l.take k))) ∧ Below gM W1 wr) (fun i _ => M - (RowKit.intOf i).toNat)
  case atStart => exact ⟨0, Nat.zero_le _, rfl, HRW, hb2⟩
  case round =>
    obtain ⟨k, hk, rfl, hrow, hbr⟩ := hrel
    obtain ⟨hE, hI, e1, hbw⟩ := HKEEP.out wr hbr
    by_cases hlt : k < M
    · have hkr : k < l.length := by rw [← HM.out]; exact hlt
      obtain ⟨g, off, rfl, hgl, hcs⟩ := hI (by omega)
      have d0 := hcs k hkr
      have hx := HIN.out _ (List.getElem_mem hkr)
      obtain ⟨p, hp⟩ : ∃ p : Nat, l[k] = (p : Int) := ⟨(l[k]).toNat, by omega⟩
      rw [hp] at d0 hx
      have hpm : p < m := by omega
      have q1 : (p : Int) < (m : Int) := by omega
      have q2 : (k : Int) < (M : Int) := by omega
      obtain ⟨r1, r1f⟩ := hrow.out.2 p hpm
      have HRX : Hid (RowB (wr.setCell ⟨gM, p, none⟩ (.bool true)) gM m (fun j => decide ((j : Int) ∈ l.take (k + 1)))) := (hrow.out.put hpm true).congr (fun j _ => by
        rw [take_next hkr, hp]
        by_cases e : j = p
        · subst e; rw [if_pos rfl]; exact (decide_eq_true (by simp)).symm
        · rw [if_neg e]
          apply decide_eq_decide.2
          simp only [List.mem_append, List.mem_singleton]
          exact ⟨Or.inl, fun h => h.resolve_right (by omega)⟩)
      have hbX : Below gM W1 (wr.setCell ⟨gM, p, none⟩ (.bool true)) := hbr.setCell (p := ⟨gM, p, none⟩) (Nat.le_refl _) _
      obtain ⟨y, hy⟩ := ex_eq (decide ((p : Int) ∈ l.take k))
      simp only at r1
      rw [← hy] at r1
      clear hp hcs hrow hx hE hI hy
      go_wp2
      go_roundw
      case rel => exact ⟨k + 1, by omega, by go_num, HRX, hbX⟩
      case measure => simp [RowKit.intOf]; omega
    · obtain rfl : k = M := by omega
      have htk : l.take k = l := by rw [HM.out, List.take_length]
      rw [htk] at hrow
      have HROW := hid hrow.out
      have hsr : gM < wr.heap.size := hrow.out.1
      have HBR := hid hbr
      clear hrow hE hI hbr htk
      go_wp2
      obtain ⟨w3, hw3⟩ : ∃ x, x = wr := ⟨_, rfl⟩
      subst hw3
      go_loopw [8, 27] (fun v i wz => ∃ t : Nat, t ≤ N ∧ i = .int .i64 t ∧ Hid (wz.ownsRow w3.heap.size 56 2 v (withinL (es.take t) l).length (cellsE (withinL (es.take t) l))) ∧ Below w3.heap.size w3 wz) (fun _ i _ => N - (RowKit.intOf i).toNat)
      case atStart => exact ⟨0, Nat.zero_le _, rfl, World.ownsRow_nil _ _ _ _, Below.refl _ _⟩
      case round =>
        obtain ⟨t, ht, rfl, hown, hbz⟩ := hrel
        obtain ⟨hE, _, e1, _⟩ := HKEEP.out wr (HBR.out.trans (hbz.mono (by omega)))
        by_cases hlt : t < N
        · have hkr : t < es.length := by rw [← HN.out]; exact hlt
          obtain ⟨g, off, rfl, hg, hcs⟩ := hE.at hkr
          have hin := (HRG.out.at t hkr).1
          obtain ⟨p, hp⟩ : ∃ p : Nat, (p : Int) = es[t].1 := ⟨es[t].1.toNat, by omega⟩
          obtain ⟨q, hq⟩ : ∃ q : Nat, (q : Int) = es[t].2 := ⟨es[t].2.toNat, by omega⟩
          have d := hcs wr (Below.refl _ _) t hkr
          have hnx := within_next (l := l) hkr
          rw [← hp, ← hq] at d hin hnx
          obtain ⟨d0, d1⟩ := d
          have q1 : (p : Int) < (m : Int) := by omega
          have q2 : (q : Int) < (m : Int) := by omega
          have q3 : (t : Int) < (N : Int) := by omega
          obtain ⟨V, hV⟩ := ex_eq (wr.alloc (.cells #[.int .i64 p, .int .i64 q] 56))
          have hbV : Below w3.heap.size w3 V := by rw [hV]; exact hbz.alloc hbz.size _
          have hVo : V.heap[wr.heap.size]? = some (.cells #[.int .i64 p, .int .i64 q] 56 (0, 0)) := by rw [hV]; exact heap_alloc_new _ _
          have hownV : V.ownsRow w3.heap.size 56 2 u8 (withinL (es.take t) l).length (cellsE (withinL (es.take t) l)) := by
            rw [hV]; exact hown.out.alloc _
          have hrowV := HROW.out.below hbV
          have r1 := (hrowV.2 p (by omega)).1
          have r2 := (hrowV.2 q (by omega)).1
          have v0 := cell_of_heap hVo 0
          have v1 := cell_of_heap hVo 1
          obtain ⟨y1, hy1⟩ := ex_eq (decide ((p : Int) ∈ l))
          obtain ⟨y2, hy2⟩ := ex_eq (decide ((q : Int) ∈ l))
          simp only at r1 r2
          rw [← hy1] at r1
          rw [← hy2] at r2
          have HNX := hid hnx
          have HY1 := hid hy1
          have HY2 := hid hy2
          have HV := hid hV
          have HOV := hid hownV
          have HBV := hid hbV
          have hVs : w3.heap.size ≤ V.heap.size := hbV.size
          have hlen : (withinL (es.take t) l).length ≤ t := Nat.le_trans (within_len _ _) (by rw [List.length_take]; omega)
          clear hp hq hin hcs hnx hy1 hy2 hV hownV hrowV hbV hVo hown hE hbz e1
          go_upto_region 11 with fail
          rw [← HV.out]
          clear HV d0 d1
          cases y1 with
          | false =>
            have HO : Hid (V.ownsRow w3.heap.size 56 2 u8 (withinL (es.take (t + 1)) l).length (cellsE (withinL (es.take (t + 1)) l))) := by
              show World.ownsRow _ _ _ _ _ _ _
              rw [HNX.out, if_neg (fun h => of_decide_eq_false HY1.out.symm h.1), List.append_nil]
              exact HOV.out
            clear HOV HNX HY1 HY2 hlen
            go_wp2
            go_roundw
            case rel => exact ⟨t + 1, by omega, by go_num, HO, HBV.out⟩
            case measure => simp [RowKit.intOf]; omega
          | true =>
            cases y2 with
            | false =>
              have HO : Hid (V.ownsRow w3.heap.size 56 2 u8 (withinL (es.take (t + 1)) l).length (cellsE (withinL (es.take (t + 1)) l))) := by
                show World.ownsRow _ _ _ _ _ _ _
                rw [HNX.out, if_neg (fun h => of_decide_eq_false HY2.out.symm h.2), List.append_nil]
                exact HOV.out
              clear HOV HNX HY1 HY2 hlen
              go_wp2
              go_roundw
              case rel => exact ⟨t + 1, by omega, by go_num, HO, HBV.out⟩
              case measure => simp [RowKit.intOf]; omega
            | true =>
              have HNX2 : Hid (withinL (es.take (t + 1)) l = withinL (es.take t) l ++ [((p : Int), (q : Int))]) := by
                show _ = _
                rw [HNX.out, if_pos ⟨of_decide_eq_true HY1.out.symm, of_decide_eq_true HY2.out.symm⟩]
              obtain ⟨i1, hi, hz0, hz1, hz2⟩ := info_parts Try.info56
              obtain ⟨P, hP⟩ := ex_eq (withinL (es.take t) l)
              have hownV := HOV.out
              rw [← hP] at hownV hlen HNX2
              clear HOV HNX HY1 HY2 hP
              go_wp2_with (at_builtin; refine wpList_append_any _ rfl _ _ 22 rfl w3.heap.size 56 i1 _ 2 16 Try.underlying22 hi hz0 hz1 hz2 rfl (by decide) _ _ _ rfl (hownV.alloc _) (some ⟨V.heap.size, 0, none⟩) 1 1 [.int .i64 p, .int .i64 q] rfl (fun h => by cases h) rfl (fun pp hpp => by cases hpp; exact cells_two (heap_alloc_new _ _)) (fun u hu => by simp at hu; rcases hu with rfl | rfl <;> rfl) (by unfold maxLen; omega) (by omega) (by simp; omega) ?_)
              intro v' w4 hown4 hgrow _
              have hb4 : Below w3.heap.size w3 w4 := Below.grown (HBV.out.alloc hVs _) hgrow (by simp; omega) (fun j hj => (hownV.lt j hj).1)
              have HO : Hid (w4.ownsRow w3.heap.size 56 2 v' (withinL (es.take (t + 1)) l).length (cellsE (withinL (es.take (t + 1)) l))) := by
                show w4.ownsRow w3.heap.size 56 2 v' (withinL (es.take (t + 1)) l).length (cellsE (withinL (es.take (t + 1)) l))
                rw [HNX2.out, cellsE_append, List.length_append]
                exact hown4
              clear hgrow hownV hown4 hi hz0 hz1 hz2
              go_wp2
              go_roundw
              case rel => exact ⟨t + 1, by omega, by go_num, HO, hb4⟩
              case measure => simp [RowKit.intOf]; omega
        · obtain rfl : t = N := by omega
          have htk : es.take t = es := by rw [HN.out, List.take_length]
          rw [htk] at hown
          obtain ⟨a1, cap1, rfl, hsl, hea⟩ := eat_own hown.out
          have HEA := hid hea
          have HBB := hid (HKEEP.out wr (HBR.out.trans (hbz.mono (by omega)))).2.2.2
          clear hown hea hsl hE e1
          go_wp2
          go_ret
          exact ⟨a1, cap1, rfl, HEA.out, HBB.out⟩
end Go.Proofs.Ytlebimolgienkaa
namespace Go.Proofs.Ytlebimolgienkaa
open Go.RowKit Go.Lib

set_option maxHeartbeats 1000000 in
set_option maxRecDepth 100000 in
theorem degreesN_any (n : Int) (a : Option Addr) (cap : Nat) (es : List (Int × Int)) (b : Bool) (w : World) (hN : es.length ≤ 1000000) (hE : EAt w a es) (hb : b = true ↔ RightG n es) :
    Calls Try.prog 117 #[.agg #[.int .i64 n, .slice a es.length cap]] w fun e w' => ∃ a' cap' D, e = .returned (.slice a' D.length cap') ∧ D = (if b = true then (List.range n.toNat).map (fun v : Nat => ((nbL v es).length : Int)) else []) ∧ IAt w' a' D ∧ Below w.heap.size w w' ∧ ∀ g off, a' = some ⟨g, off, none⟩ → w.heap.size ≤ g := by
  obtain ⟨N, hNe⟩ : ∃ N, N = es.length := ⟨_, rfl⟩
  have HR : Hid (∀ W, EAt W a es → Calls Try.prog 36 #[.agg #[.int .i64 n, .slice a N cap]] W fun e w' => e = .returned (.bool b) ∧ Below W.heap.size W w') := fun W h => by rw [hNe]; exact right_any n a cap es b W hN h hb
  rw [← hNe] at hN ⊢
  have HN : Hid (N = es.length) := hNe
  have HE : Hid (EAt w a es) := hE
  have HB : Hid (b = true ↔ RightG n es) := hb
  clear hNe hE hb
  go_enter Try.func117, Try.ntmps117
  have hbA : Below w.heap.size w (w.alloc (.cells #[.int .i64 n, .slice a N cap] 26)) := (Below.refl _ _).alloc (Nat.le_refl _) _
  have HEA : Hid (EAt (w.alloc (.cells #[.int .i64 n, .slice a N cap] 26)) a es) := HE.out.below hbA
  have hOA : (w.alloc (.cells #[.int .i64 n, .slice a N cap] 26)).heap[w.heap.size]? = some (.cells #[.int .i64 n, .slice a N cap] 26) := heap_alloc_new _ _
  have hsA : (w.alloc (.cells #[.int .i64 n, .slice a N cap] 26)).heap.size = w.heap.size + 1 := by simp
  have HOA : Hid ((w.alloc (.cells #[.int .i64 n, .slice a N cap] 26)).heap[w.heap.size]? = some (.cells #[.int .i64 n, .slice a N cap] 26)) := hOA
  clear hOA
  go_wp2_with fail
  refine (HR.out _ HEA.out).mono ?_
  rintro e w1 ⟨rfl, hb1⟩
  rw [hsA] at hb1
  have hbw : Below w.heap.size w w1 := hbA.trans (hb1.mono (by omega))
  have o1 := (hb1.block w.heap.size (by omega)).trans HOA.out
  have HE1 : Hid (EAt w1 a es) := HE.out.below hbw
  have hs1 := hb1.size
  rw [hsA] at hs1
  have c0 := cell_of_heap o1 0
  have c1 := cell_of_heap o1 1
  clear hb1 hbA hsA HR HEA HOA
  cases b with
  | false =>
    go_wp2
    go_ret
    exact ⟨none, 0, [], rfl, rfl, iat_nil _ _, hbw, fun g off h => by cases h⟩
  | true =>
    have HRG : Hid (RightG n es) := HB.out.1 rfl
    obtain ⟨m, rfl⟩ : ∃ m : Nat, n = m := ⟨n.toNat, by have := HRG.out.1; omega⟩
    have hm : m ≤ 1000 := by have := HRG.out.2.1; omega
    have hNN : N ≤ 4000 := by have := HRG.out.2.2.1; rw [← HN.out] at this; exact this
    obtain ⟨i0, hi, hz0, hz1, hz2⟩ := info_parts Try.info3
    obtain ⟨w2, hrun, hown, hgrow⟩ := run_make_full (P := Try.prog) w1 w1.heap.size 28 3 i0 (.int .i64 0) 1 Try.underlying28 hi hz0 hz1 .i64 .i64 m (by rw [hz2]; omega) (by unfold maxLen; omega) (Nat.le_refl _)
    have hs2 : w1.heap.size < w2.heap.size := by
      rcases hown.2 with ⟨hv, _⟩ | ⟨g', cap, cur, hv, _, hgb, _⟩
      · simp at hv
      · simp only [Value.slice.injEq, Option.some.injEq, Addr.mk.injEq, and_true, true_and] at hv
        obtain ⟨rfl, _⟩ := hv
        exact (Array.getElem?_eq_some_iff.1 hgb).1
    have HRW : Hid (Row1 w2 w1.heap.size m (fun v => ((nbL (v : Int) (es.take 0)).length : Int))) := (row1_made hown hs2).congr (fun j _ => by simp [nbL])
    have hb2 : Below w1.heap.size w1 w2 := Below.grown (Below.refl _ _) hgrow (Nat.le_refl _) (fun k hk => by cases hk)
    have c1' : w2.cell? ⟨w.heap.size, 1, none⟩ = some (.slice a N cap) := (hb2.cell (p := ⟨w.heap.size, 1, none⟩) (by simp; omega)).trans c1
    have HRN : Hid (∀ W, W = w1 → (Instr.makeSlice 28 (.int .i64 m) (.int .i64 m)).run Try.prog W = .ok (.slice (some ⟨w1.heap.size, 0, none⟩) m m) w2) := fun W h => by rw [h]; exact hrun
    clear hown hgrow hi hz0 hz1 hz2 HB c1 HRN
    go_wp2
    go_loopw [15] (fun i wr => ∃ k : Nat, k ≤ N ∧ i = .int .i64 k ∧ Hid (Row1 wr w1.heap.size m (fun v => ((nbL (v : Int) (es.take k)).length : Int))) ∧ Below w1.heap.size w1 wr) (fun i _ => N - (RowKit.intOf i).toNat)
    case atStart => exact ⟨0, Nat.zero_le _, rfl, HRW, hb2⟩
    case round =>
      obtain ⟨k, hk, rfl, hrow, hbr⟩ := hrel
      by_cases hlt : k < N
      · have hkr : k < es.length := by rw [← HN.out]; exact hlt
        obtain ⟨g, off, rfl, hg, hcs⟩ := HE1.out.at hkr
        have hin := (HRG.out.at k hkr).1
        obtain ⟨p, hp⟩ : ∃ p : Nat, (p : Int) = es[k].1 := ⟨es[k].1.toNat, by omega⟩
        obtain ⟨q, hq⟩ : ∃ q : Nat, (q : Int) = es[k].2 := ⟨es[k].2.toNat, by omega⟩
        have d := hcs wr hbr k hkr
        rw [← hp, ← hq] at d hin
        obtain ⟨d0, d1⟩ := d
        have i1 : p < q := by omega
        have i2 : q < m := by omega
        have HD := deg_next (m := m) hkr hp hq i1
        obtain ⟨x1, hx1⟩ := ex_eq (nbL (p : Int) (es.take k)).length
        obtain ⟨x2, hx2⟩ := ex_eq (nbL (q : Int) (es.take k)).length
        have hl1 : x1 ≤ 4000 := by rw [hx1]; exact Nat.le_trans (nbL_len _ _) (by rw [List.length_take]; omega)
        have hl2 : x2 ≤ 4000 := by rw [hx2]; exact Nat.le_trans (nbL_len _ _) (by rw [List.length_take]; omega)
        obtain ⟨c, hc⟩ := ex_eq (fun v : Nat => ((nbL (v : Int) (es.take k)).length : Int))
        rw [← hc] at hrow
        have hcp : c p = x1 := by rw [hc, hx1]
        have hcq : c q = x2 := by rw [hc, hx2]
        have hrA := hrow.out.alloc (.cells #[.int .i64 p, .int .i64 q] 56)
        have r1 := hrA.2 p (by omega)
        have HR1 := hrA.put (i := p) (by omega) ((x1 : Int) + 1)
        have r2 := HR1.2 q i2
        rw [hcp] at r1
        have hqq : (fun j => if j = p then (x1 : Int) + 1 else c j) q = (x2 : Int) := by
          show (if q = p then (x1 : Int) + 1 else c q) = (x2 : Int)
          rw [if_neg (by omega), hcq]
        rw [hqq] at r2
        have HR2 := HR1.put (i := q) i2 ((x2 : Int) + 1)
        have HRX : Hid (Row1 (((wr.alloc (.cells #[.int .i64 p, .int .i64 q] 56)).setCell ⟨w1.heap.size, p, none⟩ (.int .i64 ((x1 : Int) + 1))).setCell ⟨w1.heap.size, q, none⟩ (.int .i64 ((x2 : Int) + 1))) w1.heap.size m (fun v => ((nbL (v : Int) (es.take (k + 1))).length : Int))) := HR2.congr (fun j hj => by
          rw [← HD j hj, hx1, hx2, hc])
        obtain ⟨r1, r1f⟩ := r1
        obtain ⟨r2, r2f⟩ := r2
        have hbX : Below w1.heap.size w1 (((wr.alloc (.cells #[.int .i64 p, .int .i64 q] 56)).setCell ⟨w1.heap.size, p, none⟩ (.int .i64 ((x1 : Int) + 1))).setCell ⟨w1.heap.size, q, none⟩ (.int .i64 ((x2 : Int) + 1))) := ((hbr.alloc hbr.size _).setCell (p := ⟨w1.heap.size, p, none⟩) (Nat.le_refl _) _).setCell (p := ⟨w1.heap.size, q, none⟩) (Nat.le_refl _) _
        have hsr : w1.heap.size < wr.heap.size := hrow.out.1
        have bx1 : ((wr.alloc (.cells #[.int .i64 p, .int .i64 q] 56)).setCell ⟨w1.heap.size, p, none⟩ (.int .i64 ((x1 : Int) + 1))).cell? ⟨wr.heap.size, 1, none⟩ = some (.int .i64 q) := by
          rw [World.cell?_setCell_other _ _ _ _ (by simp <;> omega)]
          exact cell_of_heap (heap_alloc_new _ _) 1
        have q1 : (p : Int) < (m : Int) := by omega
        have q2 : (q : Int) < (m : Int) := by omega
        clear hsr hqq HD hx1 hx2 hc hcp hcq hrA HR1 HR2 hp hq hin hcs hrow
        go_wp2
        go_roundw
        case rel => exact ⟨k + 1, by omega, by go_num, HRX, hbX⟩
        case measure => simp [RowKit.intOf]; omega
      · obtain rfl : k = N := by omega
        have htk : es.take k = es := by rw [HN.out, List.take_length]
        rw [htk] at hrow
        go_wp2
        go_ret
        have hl : ((List.range m).map (fun v : Nat => ((nbL (v : Int) es).length : Int))).length = m := by simp
        refine ⟨some ⟨w1.heap.size, 0, none⟩, m, (List.range m).map (fun v : Nat => ((nbL (v : Int) es).length : Int)), by rw [hl]; rfl, ?_, hrow.out.iat, hbw.trans (hbr.mono (by omega)), fun g off h => by cases h; omega⟩
        simp
end Go.Proofs.Ytlebimolgienkaa
