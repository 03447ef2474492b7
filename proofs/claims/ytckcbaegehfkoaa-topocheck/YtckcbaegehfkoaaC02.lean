/-
  graph.Add: one edge more.
  graph.eachOnce: edges in order, each once: slices.SortFunc by its contract, slices.Compact walked.
  slices.Compact at edges, and graph.eachOnce: the edges of a row, rising, each once.
  slices.Compact at edges, walked; graph.eachOnce.
  graph.Normal: the edges that were told, in order, each once.
  graph.neighbours, and the closure that it hands back: which vertices come, in which order.
  graph.Has: are two vertices neighbours?
  graph.Near: the neighbours of a vertex; slices.Collect and slices.AppendSeq walked.
-/
import Derived.Test.YtckcbaegehfkoaaC01
import Derived.Lib.SliceRun
import Derived.Lib.Walk
import Derived.Deep.LoopGhost
import Derived.BigQuiet
import Derived.RangeFuncNested
import Derived.RangeFuncBound
import Derived.RangeFuncCalls
import Derived.RangeFuncLeaves
import Derived.RangeFuncBox
import Derived.Shelf.Abstract
import Derived.Shelf.RegionOpen
import Derived.OwnWalkIn
import Derived.TacticsInMore
import Derived.LoopNIn
import Derived.LoopIn
import Derived.Maps.AppendAt
namespace Go.Proofs.Ytckcbaegehfkoaa
open Go.RowKit Go.Lib

/-- What a call that keeps what was there leaves of Add's own variables. -/
structure Kept (w V : World) (n : Int) (sv : Value) : Prop where
  n0 : V.cell? ⟨w.heap.size, 0, none⟩ = some (.int .i64 n)
  e0 : V.cell? ⟨w.heap.size, 1, none⟩ = some sv
  box : V.heap[w.heap.size + 1]? = some (.cells #[.int .i64 0, .slice none 0 0] 30)
  below : Below w.heap.size w V
  size : w.heap.size + 1 + 1 ≤ V.heap.size
theorem Kept.on {w V V' : World} {n : Int} {sv : Value} (h : Kept w V n sv) (hb : Below V.heap.size V V') : Kept w V' n sv := by
  have hs := h.size
  exact ⟨(hb.cell (p := ⟨w.heap.size, 0, none⟩) (by simp; omega)).trans h.n0, (hb.cell (p := ⟨w.heap.size, 1, none⟩) (by simp; omega)).trans h.e0, (hb.block _ (by omega)).trans h.box, h.below.trans (hb.mono h.below.size), Nat.le_trans hs hb.size⟩
end Go.Proofs.Ytckcbaegehfkoaa
namespace Go.Proofs.Ytckcbaegehfkoaa
open Go.RowKit Go.Lib Go.Sort

/-- The first n of a row that is told place by place. -/
def lst (c : Nat → Int × Int) (n : Nat) : List (Int × Int) := (List.range n).map c
theorem lst_len (c : Nat → Int × Int) (n : Nat) : (lst c n).length = n := by simp [lst]
theorem lst_succ (c : Nat → Int × Int) (n : Nat) : lst c (n + 1) = lst c n ++ [c n] := by simp [lst, List.range_succ]
theorem lst_at {c : Nat → Int × Int} {n k : Nat} (h : k < (lst c n).length) : (lst c n)[k] = c k := by simp [lst]
theorem mem_lst {c : Nat → Int × Int} {n : Nat} {x : Int × Int} : x ∈ lst c n ↔ ∃ j, j < n ∧ c j = x := by simp [lst]
theorem lst_congr {c d : Nat → Int × Int} {n : Nat} (h : ∀ j, j < n → c j = d j) : lst c n = lst d n := List.map_congr_left (fun j hj => h j (by simpa using hj))
theorem lst_list (es : List (Int × Int)) : lst (fun j => es[j]?.getD (0, 0)) es.length = es := by
  apply List.ext_getElem
  · simp [lst]
  · intro i h1 h2; simp [lst, h2]
theorem rises_snoc {es : List (Int × Int)} {x : Int × Int} (h : Rises es) (hx : ∀ y ∈ es, ltE y x = true) : Rises (es ++ [x]) := by
  unfold Rises
  rw [List.pairwise_append]
  exact ⟨h, by simp, fun a ha b hb => by simp at hb; subst hb; exact hx a ha⟩

/-- A row of edges that may be written, place by place. -/
def Row2 (w : World) (g n : Nat) (c : Nat → Int × Int) : Prop := g < w.heap.size ∧ ∀ j, j < n → (w.cell? ⟨g, j * 2, none⟩ = some (.int .i64 (c j).1) ∧ w.frozen? ⟨g, j * 2, none⟩ = false) ∧ (w.cell? ⟨g, j * 2 + 1, none⟩ = some (.int .i64 (c j).2) ∧ w.frozen? ⟨g, j * 2 + 1, none⟩ = false)
theorem Row2.drewN {w : World} {g n : Nat} {c : Nat → Int × Int} (h : Row2 w g n c) (q : Nat) : Row2 (w.drewN q) g n c := h
theorem cell_set_other {w : World} {p q : Addr} {v : Value} (h : q ≠ p) : (w.setCell p v).cell? q = w.cell? q := World.cell?_setCell_other _ _ _ _ (Ne.symm h)
theorem Row2.put {w : World} {g n : Nat} {c : Nat → Int × Int} (h : Row2 w g n c) {i : Nat} (hi : i < n) (x : Int × Int) :
    Row2 ((w.setCell ⟨g, i * 2, none⟩ (.int .i64 x.1)).setCell ⟨g, i * 2 + 1, none⟩ (.int .i64 x.2)) g n (fun j => if j = i then x else c j) := by
  refine ⟨by simpa using h.1, fun j hj => ?_⟩
  obtain ⟨⟨a, fa⟩, b, fb⟩ := h.2 j hj
  obtain ⟨⟨ai, fai⟩, bi, fbi⟩ := h.2 i hi
  simp only [World.frozen?_setCell]
  refine ⟨⟨?_, fa⟩, ?_, fb⟩
  · rw [cell_set_other (by simp <;> omega)]
    by_cases e : j = i
    · subst e
      rw [if_pos rfl]
      exact World.cell?_setCell_same' _ _ _ (by rw [a]; rfl)
    · rw [if_neg e, cell_set_other (by simp <;> omega)]
      exact a
  · by_cases e : j = i
    · subst e
      rw [if_pos rfl]
      exact World.cell?_setCell_same' _ _ _ (by rw [cell_set_other (by simp <;> omega), b]; rfl)
    · rw [if_neg e, cell_set_other (by simp <;> omega), cell_set_other (by simp <;> omega)]
      exact b
theorem Row2.eat {w : World} {g n K : Nat} {c : Nat → Int × Int} (h : Row2 w g n c) (hK : K ≤ n) : EAt w (some ⟨g, 0, none⟩) (lst c K) := fun _ =>
  ⟨g, 0, rfl, h.1, fun k hk => by
    rw [lst_len] at hk
    have := h.2 k (by omega)
    rw [lst_at, Nat.zero_add]
    exact ⟨this.1.1, this.2.1⟩⟩

def encE (x : Int × Int) : List Value := [.int .i64 x.1, .int .i64 x.2]
theorem encE_one (x : Int × Int) : ∀ v ∈ encE x, v.oneCell' = true := fun v hv => by simp [encE] at hv; rcases hv with rfl | rfl <;> rfl
theorem Row2.holds {w : World} {g n : Nat} {c : Nat → Int × Int} (h : Row2 w g n c) : HoldsK encE 2 w g 0 (lst c n).toArray := by
  intro j hj
  have hj' : j < n * 2 := by rw [size_flatK] at hj; simpa [lst_len] using hj
  rw [get_flatK _ _ _ _ (by simpa [lst_len] using hj')]
  have hn : j / 2 < (lst c n).length := by rw [lst_len]; omega
  have e : (lst c n).toArray[j / 2]! = c (j / 2) := by
    rw [getElem!_pos _ _ (by simpa using hn)]
    simp [lst]
  rw [e, Nat.zero_add]
  have hh := h.2 (j / 2) (by omega)
  rcases Nat.mod_two_eq_zero_or_one j with h0 | h0
  · have h2 : j / 2 * 2 = j := by omega
    rw [h0]
    rw [h2] at hh
    exact hh.1
  · have h2 : j / 2 * 2 + 1 = j := by omega
    rw [h0]
    rw [h2] at hh
    exact hh.2
theorem row2_holds {w : World} {g : Nat} {d : Array (Int × Int)} (hg : g < w.heap.size) (h : HoldsK encE 2 w g 0 d) : Row2 w g d.size (fun j => d[j]!) := by
  refine ⟨hg, fun j hj => ?_⟩
  have a := h.cell hj (show 0 < 2 by omega)
  have b := h.cell hj (show 1 < 2 by omega)
  rw [Nat.zero_add] at a b
  exact ⟨a, b⟩

theorem row2_own {w : World} {base : Nat} {e : TypeId} {v : Value} {es : List (Int × Int)} (h : w.ownsRow base e 2 v es.length (cellsE es)) (hn : 0 < es.length) :
    ∃ g cap, v = .slice (some ⟨g, 0, none⟩) es.length cap ∧ base ≤ g ∧ es.length ≤ cap ∧ Row2 w g es.length (fun j => es[j]?.getD (0, 0)) := by
  rcases h.2 with ⟨_, h0⟩ | ⟨g, cap, cur, hv, hb, hg, hnc, _, hcur, htake⟩
  · omega
  · have hgs : g < w.heap.size := (Array.getElem?_eq_some_iff.1 hg).1
    refine ⟨g, cap, hv, hb, hnc, hgs, fun j hj => ?_⟩
    have hc := h.cells (g := g) (by rw [hv]; rfl)
    have h1 := cellsE_at es j hj
    have c1 := hc _ _ h1.1
    have c2 := hc _ _ h1.2
    rw [add_at, Nat.zero_add] at c1 c2
    have e : es[j]?.getD (0, 0) = es[j] := by rw [List.getElem?_eq_getElem hj]; rfl
    show (_ = some (Value.int .i64 (es[j]?.getD (0, 0)).1) ∧ _) ∧ (_ = some (Value.int .i64 (es[j]?.getD (0, 0)).2) ∧ _)
    rw [e]
    exact ⟨⟨c1, frozen_of_heap hg _⟩, c2, frozen_of_heap hg _⟩

theorem swoE : SWO (ltOf cmpE) := by
  have e : ∀ x y, ltOf cmpE x y = ltE x y := fun x y => cmpE_lt x y
  exact ⟨fun x => by rw [e]; exact ltE_irrefl x, fun x y z h h' => by rw [e] at *; exact ltE_trans h h', fun x y z h h' => by rw [e] at *; exact ltE_ntrans h h'⟩

theorem grown_sortE {w : World} {g n : Nat} {os : Array Obj} (d : Array (Int × Int)) : w.grownBy (sortWorldK encE 2 w g 0 n d os) (some g) := by
  refine ⟨rfl, rfl, rfl, size_sortWorldK_c encE 2 w g 0 n d os, fun k hk hne => ?_⟩
  unfold sortWorldK
  rw [heap_grow_old _ _ (by simpa [putRowK, putRow, mapBlock, Sort.ahead] using hk)]
  have : g ≠ k := fun e => hne (by rw [e])
  simp [putRowK, putRow, mapBlock, Sort.ahead, Array.getElem?_modify, this]

end Go.Proofs.Ytckcbaegehfkoaa
namespace Go.Proofs.Ytckcbaegehfkoaa
open Go.RowKit Go.Lib Go.Sort

theorem same_or (x y : Int × Int) : (x.1 = y.1 ∧ x.2 = y.2) ∨ (x.1 = y.1 ∧ (x.2 == y.2) = false) ∨ (x.1 == y.1) = false := by
  by_cases h : x.1 = y.1
  · by_cases h2 : x.2 = y.2
    · exact Or.inl ⟨h, h2⟩
    · exact Or.inr (Or.inl ⟨h, beq_eq_false_iff_ne.2 h2⟩)
  · exact Or.inr (Or.inr (beq_eq_false_iff_ne.2 h))
theorem lt_next {c : Nat → Int × Int} {n : Nat} (hs : ∀ i j, i < j → j < n → ltE (c j) (c i) = false) {m : Nat} (hm : m + 1 < n) (hne : c (m + 1) ≠ c m) : ∀ j, j ≤ m → ltE (c j) (c (m + 1)) = true := by
  intro j hj
  cases h : ltE (c j) (c (m + 1)) with
  | true => rfl
  | false =>
    have e := ltE_tri _ _ h (hs j (m + 1) (by omega) hm)
    by_cases hjm : j = m
    · subst hjm; exact absurd e.symm hne
    · have h2 := hs j m (by omega) (by omega)
      have h3 := hs m (m + 1) (by omega) hm
      rw [e] at h2
      exact absurd (ltE_tri _ _ h3 h2) hne
theorem rise_next {c : Nat → Int × Int} {n m : Nat} (hs : ∀ i j, i < j → j < n → ltE (c j) (c i) = false) (hm : m + 1 < n) (hne : c (m + 1) ≠ c m) (h : Rises (lst c (m + 1))) : Rises (lst c (m + 1 + 1)) := by
  rw [lst_succ]
  refine rises_snoc h (fun y hy => ?_)
  obtain ⟨j, hj, rfl⟩ := mem_lst.1 hy
  exact lt_next hs hm hne j (by omega)
theorem rise_small (c : Nat → Int × Int) {n : Nat} (h : n < 2) : Rises (lst c n) := by
  unfold Rises lst
  rcases (by omega : n = 0 ∨ n = 1) with rfl | rfl <;> simp [List.range_succ]

/-- What the second loop has made: K places hold the edges of the first T, each once; those behind are as they were. -/
structure Made (c c' : Nat → Int × Int) (K T : Nat) : Prop where
  rises : Rises (lst c' K)
  mem : ∀ x, x ∈ lst c' K ↔ x ∈ lst c T
  high : ∀ j, K ≤ j → c' j = c j
theorem made_start {c : Nat → Int × Int} {m : Nat} (h : Rises (lst c (m + 1))) (e : c (m + 1) = c m) : Made c c (m + 1) (m + 1 + 1) := by
  refine ⟨h, fun x => ?_, fun _ _ => rfl⟩
  rw [lst_succ c (m + 1), List.mem_append]
  refine ⟨Or.inl, fun hx => ?_⟩
  rcases hx with hx | hx
  · exact hx
  · simp at hx
    rw [hx, e]
    exact mem_lst.2 ⟨m, by omega, rfl⟩
theorem made_skip {c c' : Nat → Int × Int} {K T : Nat} (h : Made c c' K (T + 1)) (e : c (T + 1) = c T) : Made c c' K (T + 1 + 1) := by
  refine ⟨h.rises, fun x => ?_, h.high⟩
  rw [h.mem, lst_succ c (T + 1), List.mem_append]
  refine ⟨Or.inl, fun hx => ?_⟩
  rcases hx with hx | hx
  · exact hx
  · simp at hx
    rw [hx, e]
    exact mem_lst.2 ⟨T, by omega, rfl⟩
theorem made_put {c c' : Nat → Int × Int} {K T n : Nat} (h : Made c c' K (T + 1)) (hs : ∀ i j, i < j → j < n → ltE (c j) (c i) = false) (hT : T + 1 < n) (hne : c (T + 1) ≠ c T) : Made c (fun j => if j = K then c (T + 1) else c' j) (K + 1) (T + 1 + 1) := by
  have e0 : lst (fun j => if j = K then c (T + 1) else c' j) K = lst c' K := lst_congr (fun j hj => if_neg (by omega))
  refine ⟨?_, fun x => ?_, fun j hj => ?_⟩
  · rw [lst_succ, e0]
    refine rises_snoc h.rises (fun y hy => ?_)
    rw [h.mem] at hy
    obtain ⟨j, hj, rfl⟩ := mem_lst.1 hy
    show ltE (c j) (if K = K then c (T + 1) else c' K) = true
    rw [if_pos rfl]
    exact lt_next hs hT hne j (by omega)
  · rw [lst_succ, lst_succ c (T + 1), e0, List.mem_append, List.mem_append, h.mem]
    simp
  · show (if j = K then c (T + 1) else c' j) = c j
    rw [if_neg (by omega)]
    exact h.high j (by omega)

/-- 'clear' of a row of edges: some cells of that block alone are written. -/
theorem run_clear_edges (w : World) (b o n c : Nat) (hn : 0 < n) (hc : ∀ j, j < n * 2 → (w.cell? ⟨b, o + j, none⟩).isSome = true) (hf : ∀ j, j < n * 2 → w.frozen? ⟨b, o + j, none⟩ = false) :
    ∃ vs : List Value, vs.length = n * 2 ∧ ∀ ty : TypeId, (Builtin.clear_ #[22] ty #[.slice (some ⟨b, o, none⟩) n c]).run Try.prog w = .ok (.tuple #[]) (w.setCells b o vs) := by
  obtain ⟨vs, hvs⟩ : ∃ vs : List Value, vs = (Builtin.zeroCells (Value.agg #[.int .i64 0, .int .i64 0]).cells n).toList := ⟨_, rfl⟩
  have hl : vs.length = n * 2 := by rw [hvs]; simp [Builtin.zeroCells, Value.cells]
  have h1 : ∀ v ∈ vs, v.oneCell' = true := by
    rw [hvs]
    intro v hv
    simp [Builtin.zeroCells, Value.cells] at hv
    obtain ⟨i, hi, rfl⟩ := hv
    rcases Nat.mod_two_eq_zero_or_one i with h0 | h0 <;> simp [h0] <;> rfl
  refine ⟨vs, hl, fun ty => ?_⟩
  have hst := run_storeCells_cells (P := Try.prog) b o vs 0 w (by rw [hl]; simpa using hc) (by rw [hl]; simpa using hf) h1
  simp only [Nat.add_zero] at hst
  obtain ⟨m, rfl⟩ : ∃ m, n = m + 1 := ⟨n - 1, by omega⟩
  simp [Builtin.clear_, run_underlying Try.underlying22, Try.zeroValue59, ← hvs, hst]
end Go.Proofs.Ytckcbaegehfkoaa
namespace Go.Proofs.Ytckcbaegehfkoaa
open Go.RowKit Go.Lib Go.Sort

theorem below_setCells {base b : Nat} (hb : base ≤ b) : ∀ (vs : List Value) (o : Nat) (w : World), Below base w (w.setCells b o vs)
  | [], _, _ => Below.refl _ _
  | v :: vs, o, w => ((Below.refl base w).setCell (p := ⟨b, o, none⟩) hb v).trans (below_setCells hb vs (o + 1) _)

set_option maxHeartbeats 4000000 in
set_option maxRecDepth 1000000 in
theorem compact_any (g n cap base : Nat) (c : Nat → Int × Int) (w : World) (hb : base ≤ g) (h : Row2 w g n c) (hn : n ≤ 1000000) (hcap : n ≤ cap) (hs : ∀ i j, i < j → j < n → ltE (c j) (c i) = false) :
    Calls Try.prog 54 #[.slice (some ⟨g, 0, none⟩) n cap] w fun e w' => ∃ K c', e = .returned (.slice (some ⟨g, 0, none⟩) K cap) ∧ K ≤ n ∧ EAt w' (some ⟨g, 0, none⟩) (lst c' K) ∧ Rises (lst c' K) ∧ (∀ x, x ∈ lst c' K ↔ x ∈ lst c n) ∧ Below base w w' := by
  have HR : Hid (Row2 w g n c) := h
  have HS : Hid (∀ i j, i < j → j < n → ltE (c j) (c i) = false) := hs
  clear h hs
  by_cases h2 : n < 2
  · go_enter Try.func54, Try.ntmps54
    go_wp2
    go_ret
    exact ⟨n, c, rfl, Nat.le_refl _, HR.out.eat (Nat.le_refl _), rise_small c h2, fun _ => Iff.rfl, Below.refl _ _⟩
  go_enter Try.func54, Try.ntmps54
  go_wp2
  go_loopg [3] n (fun G v wr => ∃ m : Nat, m + 1 ≤ n ∧ n - (m + 1) ≤ G ∧ v = .int .i64 (m + 1) ∧ Hid (Row2 wr g n c) ∧ Below base w wr ∧ Hid (Rises (lst c (m + 1))))
  case atStart => exact ⟨0, by omega, by omega, by go_num, HR, Below.refl _ _, rise_small c (by omega)⟩
  case round =>
    obtain ⟨m, hm, hG, rfl, hrow, hbr, hri⟩ := hrel
    by_cases hlt : m + 1 < n
    · obtain ⟨⟨a0, _⟩, a1, _⟩ := hrow.out.2 (m + 1) hlt
      obtain ⟨⟨b0, _⟩, b1, _⟩ := hrow.out.2 m (by omega)
      have hso := same_or (c (m + 1)) (c m)
      obtain ⟨x1, hx1⟩ := ex_eq (c (m + 1)).1
      obtain ⟨x2, hx2⟩ := ex_eq (c (m + 1)).2
      obtain ⟨y1, hy1⟩ := ex_eq (c m).1
      obtain ⟨y2, hy2⟩ := ex_eq (c m).2
      rw [← hx1] at a0
      rw [← hx2] at a1
      rw [← hy1] at b0
      rw [← hy2] at b1
      rw [← hx1, ← hx2, ← hy1, ← hy2] at hso
      have HXY : Hid (x1 = (c (m + 1)).1 ∧ x2 = (c (m + 1)).2 ∧ y1 = (c m).1 ∧ y2 = (c m).2) := ⟨hx1, hx2, hy1, hy2⟩
      clear hx1 hx2 hy1 hy2
      have q0 : (m : Int) < (n : Int) := by omega
      rcases hso with ⟨e1, e2⟩ | hne
      · subst e1 e2
        have HM : Hid (Made c c (m + 1) (m + 1 + 1)) := made_start hri.out (by
          obtain ⟨h1, h2, h3, h4⟩ := HXY.out
          exact Prod.ext (h1.symm.trans h3) (h2.symm.trans h4))
        go_wp2
        go_quiet (fail)
        go_wp2
        clear a0 a1 b0 b1 HXY
        go_loopg [3, 5] n (fun G2 v3 v5 wr => ∃ (K k2 : Nat) (c' : Nat → Int × Int), v3 = .int .i64 K ∧ v5 = .int .i64 (k2 + 1) ∧ m + 1 + (k2 + 1) ≤ n ∧ n - (m + 1 + (k2 + 1)) ≤ G2 ∧ K ≤ m + 1 + k2 ∧ Hid (Row2 wr g n c') ∧ Below base w wr ∧ Hid (Made c c' K (m + 1 + k2 + 1)))
        case atStart => exact ⟨m + 1, 0, c, by go_num, by go_num, by omega, by omega, by omega, hrow.out.drewN _, below_drewN hbr _, HM⟩
        case round =>
          obtain ⟨K, k2, c', rfl, rfl, hT, hG2, hK, hrow2, hbr2, hmade⟩ := hrel
          by_cases hlt2 : m + 1 + (k2 + 1) < n
          · obtain ⟨⟨a0, _⟩, a1, _⟩ := hrow2.out.2 (m + 1 + (k2 + 1)) hlt2
            obtain ⟨⟨b0, _⟩, b1, _⟩ := hrow2.out.2 (m + 1 + k2) (by omega)
            obtain ⟨⟨k0, f0⟩, k1, f1⟩ := hrow2.out.2 K (by omega)
            rw [hmade.out.high _ (by omega)] at a0 a1 b0 b1
            have hso := same_or (c (m + 1 + (k2 + 1))) (c (m + 1 + k2))
            obtain ⟨x1, hx1⟩ := ex_eq (c (m + 1 + (k2 + 1))).1
            obtain ⟨x2, hx2⟩ := ex_eq (c (m + 1 + (k2 + 1))).2
            obtain ⟨y1, hy1⟩ := ex_eq (c (m + 1 + k2)).1
            obtain ⟨y2, hy2⟩ := ex_eq (c (m + 1 + k2)).2
            rw [← hx1] at a0
            rw [← hx2] at a1
            rw [← hy1] at b0
            rw [← hy2] at b1
            rw [← hx1, ← hx2, ← hy1, ← hy2] at hso
            have HXY : Hid (x1 = (c (m + 1 + (k2 + 1))).1 ∧ x2 = (c (m + 1 + (k2 + 1))).2 ∧ y1 = (c (m + 1 + k2)).1 ∧ y2 = (c (m + 1 + k2)).2) := ⟨hx1, hx2, hy1, hy2⟩
            rw [show (m + 1 + (k2 + 1)) * 2 = (m + 1) * 2 + (k2 + 1) * 2 by omega] at a0 a1
            rw [show (m + 1 + k2) * 2 = (m + 1) * 2 + k2 * 2 by omega] at b0 b1
            clear hx1 hx2 hy1 hy2
            have q1 : (k2 : Int) + 1 < ((n - (m + 1) : Nat) : Int) := by omega
            have q2 : (k2 : Int) < ((n - (m + 1) : Nat) : Int) := by omega
            have q3 : (K : Int) < (n : Int) := by omega
            obtain ⟨N2, hN2⟩ := ex_eq (n - (m + 1))
            rcases hso with ⟨e1, e2⟩ | ⟨e1, e2⟩ | e1
            · subst e1 e2
              have HM2 : Hid (Made c c' K (m + 1 + (k2 + 1) + 1)) := made_skip hmade.out (by
                obtain ⟨h1, h2, h3, h4⟩ := HXY.out
                exact Prod.ext (h1.symm.trans h3) (h2.symm.trans h4))
              go_wp2
              go_quiet (fail)
              go_wp2
              go_roundg (n - (m + 1 + (k2 + 1 + 1)))
              case measure => omega
              case rel => exact ⟨K, k2 + 1, c', rfl, by go_num, by omega, by omega, by omega, hrow2.out.drewN _, below_drewN hbr2 _, HM2⟩
            all_goals
              have HM2 : Hid (Made c (fun j => if j = K then c (m + 1 + (k2 + 1)) else c' j) (K + 1) (m + 1 + (k2 + 1) + 1)) := made_put hmade.out HS.out hlt2 (fun e => by
                obtain ⟨h1, h2, h3, h4⟩ := HXY.out
                have g1 : x1 = y1 := by rw [h1, h3]; exact congrArg Prod.fst e
                have g2 : x2 = y2 := by rw [h2, h4]; exact congrArg Prod.snd e
                first
                  | (rw [g2] at e2; simp at e2)
                  | (rw [g1] at e1; simp at e1))
              have HRP : Hid (∀ W, Row2 W g n c' → Row2 ((W.setCell ⟨g, K * 2, none⟩ (.int .i64 x1)).setCell ⟨g, K * 2 + 1, none⟩ (.int .i64 x2)) g n (fun j => if j = K then c (m + 1 + (k2 + 1)) else c' j)) := fun W hW => by
                have := hW.put (i := K) (by omega) (c (m + 1 + (k2 + 1)))
                obtain ⟨h1, h2, _⟩ := HXY.out
                rwa [← h1, ← h2] at this
              try subst e1
              go_wp2
              go_quiet (fail)
              go_wp2
              go_roundg (n - (m + 1 + (k2 + 1 + 1)))
              case measure => omega
              case rel => exact ⟨K + 1, k2 + 1, _, by go_num, by go_num, by omega, by omega, by omega, HRP.out _ (hrow2.out.drewN _), ((below_drewN hbr2 _).setCell (p := ⟨g, K * 2, none⟩) hb _).setCell (p := ⟨g, K * 2 + 1, none⟩) hb _, HM2⟩
          · have hend : n = m + 1 + k2 + 1 := by omega
            obtain ⟨vs, hvl, hcl⟩ := run_clear_edges wr g (K * 2) (n - K) (cap - K) (by omega) (fun j hj => by
              have := hrow2.out.2 (K + j / 2) (by omega)
              rcases Nat.mod_two_eq_zero_or_one j with h0 | h0
              · rw [show K * 2 + j = (K + j / 2) * 2 by omega, this.1.1]; rfl
              · rw [show K * 2 + j = (K + j / 2) * 2 + 1 by omega, this.2.1]; rfl) (fun j hj => by
              have := hrow2.out.2 (K + j / 2) (by omega)
              rcases Nat.mod_two_eq_zero_or_one j with h0 | h0
              · rw [show K * 2 + j = (K + j / 2) * 2 by omega]; exact this.1.2
              · rw [show K * 2 + j = (K + j / 2) * 2 + 1 by omega]; exact this.2.2)
            have HVL : Hid (vs.length = (n - K) * 2) := hvl
            have HEND : Hid (n = m + 1 + k2 + 1) := hend
            have hT' : n ≤ m + 1 + (k2 + 1) := by omega
            have q1 : ((n - (m + 1) : Nat) : Int) ≤ (k2 : Int) + 1 := by omega
            have q2 : K ≤ n := by omega
            clear hvl hend
            go_wp2
            go_ret
            refine ⟨K, c', rfl, by omega, ?_, hmade.out.rises, ?_, hbr2.trans (below_setCells hb _ _ _)⟩
            · have hE := hrow2.out.eat q2
              intro h0
              obtain ⟨g', off', e, hg', hc⟩ := hE h0
              simp only [Option.some.injEq, Addr.mk.injEq, and_true] at e
              obtain ⟨rfl, rfl⟩ := e
              refine ⟨g, 0, rfl, Nat.lt_of_lt_of_le hg' (below_setCells (Nat.le_refl g) _ _ _).size, fun k hk => ?_⟩
              have hk' : k < K := by rw [lst_len] at hk; exact hk
              rw [World.cell?_setCells_out _ _ _ _ _ (fun _ _ => Or.inl (by simp; omega)), World.cell?_setCells_out _ _ _ _ _ (fun _ _ => Or.inl (by simp; omega))]
              exact hc k hk
            · intro x
              rw [hmade.out.mem, ← HEND.out]
      · have HRN : Hid (Rises (lst c (m + 1 + 1))) := rise_next HS.out hlt (fun e => by
          obtain ⟨h1, h2, h3, h4⟩ := HXY.out
          have g1 : x1 = y1 := by rw [h1, h3]; exact congrArg Prod.fst e
          have g2 : x2 = y2 := by rw [h2, h4]; exact congrArg Prod.snd e
          rcases hne with ⟨_, e2⟩ | e1
          · rw [g2] at e2; simp at e2
          · rw [g1] at e1; simp at e1) hri.out
        rcases hne with ⟨e1, e2⟩ | e1
        all_goals
          try subst e1
          go_wp2
          go_quiet (fail)
          go_wp2
          go_roundg (n - (m + 1 + 1))
          case measure => omega
          case rel => exact ⟨m + 1, by omega, by omega, by go_num, hrow.out.drewN _, below_drewN hbr _, HRN⟩
    · obtain rfl : n = m + 1 := by omega
      go_wp2
      go_ret
      exact ⟨m + 1, c, by rfl, Nat.le_refl _, hrow.out.eat (Nat.le_refl _), hri.out, fun _ => Iff.rfl, hbr⟩

end Go.Proofs.Ytckcbaegehfkoaa
namespace Go.Proofs.Ytckcbaegehfkoaa
open Go.RowKit Go.Lib

theorem two_cells {w : World} {b : Nat} {x y : Value} {T : TypeId} {fr : Nat × Nat} (h : w.heap[b]? = some (.cells #[x, y] T fr)) : w.cell? ⟨b, 0, none⟩ = some x ∧ w.cell? ⟨b, 1, none⟩ = some y := ⟨cell_of_heap h 0, cell_of_heap h 1⟩
theorem cells_two {w : World} {b : Nat} {x y : Value} {T : TypeId} {fr : Nat × Nat} (h : w.heap[b]? = some (.cells #[x, y] T fr)) : ∀ j v, [x, y][j]? = some v → w.cell? ((⟨b, 0, none⟩ : Addr).add j) = some v := by
  intro j v hj
  rw [add_at, Nat.zero_add, cell_of_heap h]
  simpa using hj
theorem allIn_snoc {n : Int} {l : List (Int × Int)} {e : Int × Int} (h : AllIn n l) (he : (0 ≤ e.1 ∧ e.1 < n) ∧ (0 ≤ e.2 ∧ e.2 < n)) : AllIn n (l ++ [e]) := by
  intro x hx
  rcases List.mem_append.1 hx with hx | hx
  · exact h x hx
  · simp at hx; subst hx; exact he
theorem allIn_take {n : Int} {l : List (Int × Int)} {k : Nat} (hk : k < l.length) (h : AllIn n (l.take k)) (he : (0 ≤ l[k].1 ∧ l[k].1 < n) ∧ (0 ≤ l[k].2 ∧ l[k].2 < n)) : AllIn n (l.take (k + 1)) := by
  rw [List.take_succ_eq_append_getElem hk]
  exact allIn_snoc h he

/-- What Normal answers. -/
def NormE (n : Int) (l : List (Int × Int)) (er : Int) (es : List (Int × Int)) : Prop :=
  (n < 0 ∧ er = 1 ∧ es = []) ∨ (1000 < n ∧ er = 5 ∧ es = []) ∨ ((0 ≤ n ∧ n ≤ 1000) ∧ ¬ AllIn n l ∧ er = 4 ∧ es = []) ∨
  ((0 ≤ n ∧ n ≤ 1000) ∧ AllIn n l ∧ er = 5 ∧ es = [] ∧ ∃ x, IsNorm l x ∧ 4000 < x.length) ∨ ((0 ≤ n ∧ n ≤ 1000) ∧ AllIn n l ∧ er = 0 ∧ IsNorm l es ∧ es.length ≤ 4000)
def nOf (n er : Int) : Int := if er = 0 then n else 0

end Go.Proofs.Ytckcbaegehfkoaa
namespace Go.Proofs.Ytckcbaegehfkoaa
open Go.RowKit Go.Lib Go.Shelf
attribute [local go_sem] Oper.semAt_some

/-- The other end of an edge that has v. -/
def other (v : Int) (e : Int × Int) : List Int := if e.1 = v then [e.2] else if e.2 = v then [e.1] else []
def nbL (v : Int) : List (Int × Int) → List Int
  | [] => []
  | e :: es => other v e ++ nbL v es
theorem nbL_append (v : Int) (a b : List (Int × Int)) : nbL v (a ++ b) = nbL v a ++ nbL v b := by
  induction a with
  | nil => rfl
  | cons e a ih => rw [List.cons_append, nbL, nbL, ih, List.append_assoc]
theorem nbL_take {v : Int} {es : List (Int × Int)} {k : Nat} (h : k < es.length) : nbL v (es.take (k + 1)) = nbL v (es.take k) ++ other v es[k] := by
  rw [List.take_succ_eq_append_getElem h, nbL_append, nbL, nbL, List.append_nil]
theorem nbL_prefix (v : Int) (es : List (Int × Int)) (k : Nat) : nbL v (es.take k) <+: nbL v es := by
  refine ⟨nbL v (es.drop k), ?_⟩
  rw [← nbL_append, List.take_append_drop]
theorem nbL_len (v : Int) (es : List (Int × Int)) : (nbL v es).length ≤ es.length := by
  induction es with
  | nil => simp [nbL]
  | cons e es ih =>
    rw [nbL, List.length_append]
    have : (other v e).length ≤ 1 := by
      unfold other
      by_cases h1 : e.1 = v
      · rw [if_pos h1]; simp
      · rw [if_neg h1]
        by_cases h2 : e.2 = v
        · rw [if_pos h2]; simp
        · rw [if_neg h2]; simp
    simp; omega

theorem EAt.lt {w : World} {a : Option Addr} {es : List (Int × Int)} (h : EAt w a es) : ∀ g off, 0 < es.length → a = some ⟨g, off, none⟩ → g < w.heap.size := fun g off h0 ha => by
  obtain ⟨g', off', ha', hg, _⟩ := h h0
  rw [ha'] at ha
  simp only [Option.some.injEq, Addr.mk.injEq, and_true] at ha
  omega

theorem nbL_mem {v y : Int} {es : List (Int × Int)} : y ∈ nbL v es ↔ ∃ e ∈ es, y ∈ other v e := by
  induction es with
  | nil => simp [nbL]
  | cons e es ih => simp [nbL, ih]
theorem other_mem {v y : Int} {e : Int × Int} : y ∈ other v e ↔ (e.1 = v ∧ y = e.2) ∨ (e.1 ≠ v ∧ e.2 = v ∧ y = e.1) := by
  unfold other
  by_cases h1 : e.1 = v
  · rw [if_pos h1]; simp [h1]
  · rw [if_neg h1]
    by_cases h2 : e.2 = v
    · rw [if_pos h2]; simp [h1, h2]
    · rw [if_neg h2]; simp [h1, h2]
/-- The neighbours of a vertex are the other ends of its edges. -/
theorem nbL_right {n v y : Int} {es : List (Int × Int)} (h : RightG n es) : y ∈ nbL v es ↔ (v, y) ∈ es ∨ (y, v) ∈ es := by
  rw [nbL_mem]
  constructor
  · rintro ⟨e, he, ho⟩
    rcases other_mem.1 ho with ⟨h1, h2⟩ | ⟨_, h1, h2⟩
    · left; rw [show (v, y) = e from Prod.ext h1.symm h2]; exact he
    · right; rw [show (y, v) = e from Prod.ext h2 h1.symm]; exact he
  · rintro (he | he)
    · exact ⟨_, he, other_mem.2 (Or.inl ⟨rfl, rfl⟩)⟩
    · have := h.2.2.2.1 _ he
      simp only at this
      exact ⟨_, he, other_mem.2 (Or.inr ⟨by simp only; omega, rfl, rfl⟩)⟩
/-- They rise. -/
theorem nbL_rises {n v : Int} {es : List (Int × Int)} (h : RightG n es) : (nbL v es).Pairwise (· < ·) := by
  have key : ∀ es : List (Int × Int), (∀ e ∈ es, 0 ≤ e.1 ∧ e.1 < e.2 ∧ e.2 < n) → Rises es → (nbL v es).Pairwise (· < ·) := by
    intro es
    induction es with
    | nil => intro _ _; exact List.Pairwise.nil
    | cons e es ih =>
      intro hin hr
      rw [rises_cons] at hr
      rw [nbL, List.pairwise_append]
      refine ⟨?_, ih (fun x hx => hin x (by simp [hx])) hr.2, fun o ho o' ho' => ?_⟩
      · unfold other
        by_cases h1 : e.1 = v
        · rw [if_pos h1]; simp
        · rw [if_neg h1]
          by_cases h2 : e.2 = v
          · rw [if_pos h2]; simp
          · rw [if_neg h2]; simp
      · obtain ⟨f, hf, ho'⟩ := nbL_mem.1 ho'
        have hlt := hr.1 f hf
        rw [ltE_iff] at hlt
        have i1 := hin e (by simp)
        have i2 := hin f (by simp [hf])
        rcases other_mem.1 ho with ⟨h1, h2⟩ | ⟨h0, h1, h2⟩ <;> rcases other_mem.1 ho' with ⟨h3, h4⟩ | ⟨h3, h4, h5⟩ <;> omega
  exact key es h.2.2.2.1 h.2.2.2.2
end Go.Proofs.Ytckcbaegehfkoaa
namespace Go.Proofs.Ytckcbaegehfkoaa
open Go.RowKit Go.Lib Go.Shelf
attribute [local go_sem] Oper.semAt_some

theorem alloc_at {w : World} {o : Obj} {k : Nat} (h : k < w.heap.size) : (w.alloc o).heap[k]? = w.heap[k]? := Below.heap_alloc _ _ _ h
end Go.Proofs.Ytckcbaegehfkoaa
namespace Go.Proofs.Ytckcbaegehfkoaa
open Go.RowKit Go.Lib Go.Shelf
attribute [local go_sem] Oper.semAt_some

/-- A row of numbers in memory. -/
def IAt (w : World) (a : Option Addr) (xs : List Int) : Prop :=
  0 < xs.length → ∃ g off, a = some ⟨g, off, none⟩ ∧ g < w.heap.size ∧ ∀ k (hk : k < xs.length), w.cell? ⟨g, off + k, none⟩ = some (.int .i64 xs[k])
theorem iat_nil (w : World) (a : Option Addr) : IAt w a [] := fun h => absurd h (by simp)
theorem IAt.below {w w' : World} {a : Option Addr} {xs : List Int} (h : IAt w a xs) (hb : Below w.heap.size w w') : IAt w' a xs := by
  intro h0
  obtain ⟨g, off, ha, hg, hc⟩ := h h0
  exact ⟨g, off, ha, Nat.lt_of_lt_of_le hg hb.size, fun k hk => (hb.cell (p := ⟨g, off + k, none⟩) hg).trans (hc k hk)⟩
theorem iat_own {w : World} {base : Nat} {e : TypeId} {v : Value} {xs : List Int} (h : w.ownsRow base e 1 v xs.length (xs.map (Value.int .i64))) : ∃ a cap, v = .slice a xs.length cap ∧ IAt w a xs := by
  by_cases hn : 0 < xs.length
  · obtain ⟨g, cap, hv, hb, hg, hc, hcs⟩ := own_row h hn
    exact ⟨_, cap, hv, fun _ => ⟨g, 0, rfl, hg, fun k hk => by rw [Nat.zero_add]; exact hcs k _ (by rw [List.getElem?_map, List.getElem?_eq_getElem hk]; rfl)⟩⟩
  · rcases h.2 with ⟨hv, h0⟩ | ⟨g, cap, cur, hv, _, _, hc, _⟩
    · exact ⟨none, 0, by rw [hv, h0], fun h => absurd h hn⟩
    · exact ⟨_, cap, hv, fun h => absurd h hn⟩

theorem new_two (w : World) (o1 o2 : Obj) : ∃ W0, W0 = (w.alloc o1).alloc o2 ∧ W0.heap.size = w.heap.size + 1 + 1 ∧ W0.heap[w.heap.size]? = some o1 ∧ W0.heap[w.heap.size + 1]? = some o2 ∧ Below w.heap.size w W0 := by
  have s1 : (w.alloc o1).heap.size = w.heap.size + 1 := by simp
  refine ⟨_, rfl, by simp, ?_, ?_, ((Below.refl _ _).alloc (Nat.le_refl _) _).alloc (by omega) _⟩
  · rw [alloc_at (by omega)]; exact heap_alloc_new _ _
  · rw [← s1]; exact heap_alloc_new _ _

end Go.Proofs.Ytckcbaegehfkoaa
