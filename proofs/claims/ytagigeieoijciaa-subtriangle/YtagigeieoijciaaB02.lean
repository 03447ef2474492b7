/-
  graph.eachOnce: edges in order, each once: slices.SortFunc by its contract, slices.Compact walked.
  slices.Compact at edges, and graph.eachOnce: the edges of a row, rising, each once.
  slices.Compact at edges, walked; graph.eachOnce.
-/
import Derived.Test.YtagigeieoijciaaB01
import Derived.Lib.SliceRun
import Derived.Lib.Walk
import Derived.Deep.LoopGhost
import Derived.BigQuiet
namespace Go.Proofs.Ytagigeieoijciaa
open Go.RowKit Go.Lib Go.Sort

/-- The first n of a row that is told place by place. -/
def lst (c : Nat → Int × Int) (n : Nat) : List (Int × Int) := (List.range n).map c
theorem lst_len (c : Nat → Int × Int) (n : Nat) : (lst c n).length = n := by simp [lst]
theorem lst_succ (c : Nat → Int × Int) (n : Nat) : lst c (n + 1) = lst c n ++ [c n] := by simp [lst, List.range_succ]
theorem lst_at {c : Nat → Int × Int} {n k : Nat} (h : k < (lst c n).length) : (lst c n)[k] = c k := by simp [lst]
theorem mem_lst {c : Nat → Int × Int} {n : Nat} {x : Int × Int} : x ∈ lst c n ↔ ∃ j, j < n ∧ c j = x := by simp [lst]
theorem lst_congr {c d : Nat → Int × Int} {n : Nat} (h : ∀ j, j < n → c j = d j) : lst c n = lst d n := List.map_congr_left (fun j hj => h j (by simpa using hj))
theorem lst_list (es : List (Int × Int)) : lst (fun j => es[j]?.getD (0, 0)) es.length = es := by
  apply List.ext_getElem
  · simp [lst]
  · intro i h1 h2; simp [lst, h2]
theorem rises_snoc {es : List (Int × Int)} {x : Int × Int} (h : Rises es) (hx : ∀ y ∈ es, ltE y x = true) : Rises (es ++ [x]) := by
  unfold Rises
  rw [List.pairwise_append]
  exact ⟨h, by simp, fun a ha b hb => by simp at hb; subst hb; exact hx a ha⟩

/-- A row of edges that may be written, place by place. -/
def Row2 (w : World) (g n : Nat) (c : Nat → Int × Int) : Prop := g < w.heap.size ∧ ∀ j, j < n → (w.cell? ⟨g, j * 2, none⟩ = some (.int .i64 (c j).1) ∧ w.frozen? ⟨g, j * 2, none⟩ = false) ∧ (w.cell? ⟨g, j * 2 + 1, none⟩ = some (.int .i64 (c j).2) ∧ w.frozen? ⟨g, j * 2 + 1, none⟩ = false)
theorem Row2.drewN {w : World} {g n : Nat} {c : Nat → Int × Int} (h : Row2 w g n c) (q : Nat) : Row2 (w.drewN q) g n c := h
theorem cell_set_other {w : World} {p q : Addr} {v : Value} (h : q ≠ p) : (w.setCell p v).cell? q = w.cell? q := World.cell?_setCell_other _ _ _ _ (Ne.symm h)
theorem Row2.put {w : World} {g n : Nat} {c : Nat → Int × Int} (h : Row2 w g n c) {i : Nat} (hi : i < n) (x : Int × Int) :
    Row2 ((w.setCell ⟨g, i * 2, none⟩ (.int .i64 x.1)).setCell ⟨g, i * 2 + 1, none⟩ (.int .i64 x.2)) g n (fun j => if j = i then x else c j) := by
  refine ⟨by simpa using h.1, fun j hj => ?_⟩
  obtain ⟨⟨a, fa⟩, b, fb⟩ := h.2 j hj
  obtain ⟨⟨ai, fai⟩, bi, fbi⟩ := h.2 i hi
  simp only [World.frozen?_setCell]
  refine ⟨⟨?_, fa⟩, ?_, fb⟩
  · rw [cell_set_other (by simp <;> omega)]
    by_cases e : j = i
    · subst e
      rw [if_pos rfl]
      exact World.cell?_setCell_same' _ _ _ (by rw [a]; rfl)
    · rw [if_neg e, cell_set_other (by simp <;> omega)]
      exact a
  · by_cases e : j = i
    · subst e
      rw [if_pos rfl]
      exact World.cell?_setCell_same' _ _ _ (by rw [cell_set_other (by simp <;> omega), b]; rfl)
    · rw [if_neg e, cell_set_other (by simp <;> omega), cell_set_other (by simp <;> omega)]
      exact b
theorem Row2.eat {w : World} {g n K : Nat} {c : Nat → Int × Int} (h : Row2 w g n c) (hK : K ≤ n) : EAt w (some ⟨g, 0, none⟩) (lst c K) := fun _ =>
  ⟨g, 0, rfl, h.1, fun k hk => by
    rw [lst_len] at hk
    have := h.2 k (by omega)
    rw [lst_at, Nat.zero_add]
    exact ⟨this.1.1, this.2.1⟩⟩

def encE (x : Int × Int) : List Value := [.int .i64 x.1, .int .i64 x.2]
theorem encE_one (x : Int × Int) : ∀ v ∈ encE x, v.oneCell' = true := fun v hv => by simp [encE] at hv; rcases hv with rfl | rfl <;> rfl
theorem Row2.holds {w : World} {g n : Nat} {c : Nat → Int × Int} (h : Row2 w g n c) : HoldsK encE 2 w g 0 (lst c n).toArray := by
  intro j hj
  have hj' : j < n * 2 := by rw [size_flatK] at hj; simpa [lst_len] using hj
  rw [get_flatK _ _ _ _ (by simpa [lst_len] using hj')]
  have hn : j / 2 < (lst c n).length := by rw [lst_len]; omega
  have e : (lst c n).toArray[j / 2]! = c (j / 2) := by
    rw [getElem!_pos _ _ (by simpa using hn)]
    simp [lst]
  rw [e, Nat.zero_add]
  have hh := h.2 (j / 2) (by omega)
  rcases Nat.mod_two_eq_zero_or_one j with h0 | h0
  · have h2 : j / 2 * 2 = j := by omega
    rw [h0]
    rw [h2] at hh
    exact hh.1
  · have h2 : j / 2 * 2 + 1 = j := by omega
    rw [h0]
    rw [h2] at hh
    exact hh.2
theorem row2_holds {w : World} {g : Nat} {d : Array (Int × Int)} (hg : g < w.heap.size) (h : HoldsK encE 2 w g 0 d) : Row2 w g d.size (fun j => d[j]!) := by
  refine ⟨hg, fun j hj => ?_⟩
  have a := h.cell hj (show 0 < 2 by omega)
  have b := h.cell hj (show 1 < 2 by omega)
  rw [Nat.zero_add] at a b
  exact ⟨a, b⟩

theorem row2_own {w : World} {base : Nat} {e : TypeId} {v : Value} {es : List (Int × Int)} (h : w.ownsRow base e 2 v es.length (cellsE es)) (hn : 0 < es.length) :
    ∃ g cap, v = .slice (some ⟨g, 0, none⟩) es.length cap ∧ base ≤ g ∧ es.length ≤ cap ∧ Row2 w g es.length (fun j => es[j]?.getD (0, 0)) := by
  rcases h.2 with ⟨_, h0⟩ | ⟨g, cap, cur, hv, hb, hg, hnc, _, hcur, htake⟩
  · omega
  · have hgs : g < w.heap.size := (Array.getElem?_eq_some_iff.1 hg).1
    refine ⟨g, cap, hv, hb, hnc, hgs, fun j hj => ?_⟩
    have hc := h.cells (g := g) (by rw [hv]; rfl)
    have h1 := cellsE_at es j hj
    have c1 := hc _ _ h1.1
    have c2 := hc _ _ h1.2
    rw [add_at, Nat.zero_add] at c1 c2
    have e : es[j]?.getD (0, 0) = es[j] := by rw [List.getElem?_eq_getElem hj]; rfl
    show (_ = some (Value.int .i64 (es[j]?.getD (0, 0)).1) ∧ _) ∧ (_ = some (Value.int .i64 (es[j]?.getD (0, 0)).2) ∧ _)
    rw [e]
    exact ⟨⟨c1, frozen_of_heap hg _⟩, c2, frozen_of_heap hg _⟩

theorem swoE : SWO (ltOf cmpE) := by
  have e : ∀ x y, ltOf cmpE x y = ltE x y := fun x y => cmpE_lt x y
  exact ⟨fun x => by rw [e]; exact ltE_irrefl x, fun x y z h h' => by rw [e] at *; exact ltE_trans h h', fun x y z h h' => by rw [e] at *; exact ltE_ntrans h h'⟩

theorem cmpLays (blk off size : Nat) (w : World) : CmpLays Try.prog 54 #[] encE 2 cmpE blk off size w := fun _ _ _ _ x y =>
  (cmp_any x y _).mono fun _ _ ⟨h, os, hw⟩ => ⟨h, 0, os, hw⟩

theorem grown_sortE {w : World} {g n : Nat} {os : Array Obj} (d : Array (Int × Int)) : w.grownBy (sortWorldK encE 2 w g 0 n d os) (some g) := by
  refine ⟨rfl, rfl, rfl, size_sortWorldK_c encE 2 w g 0 n d os, fun k hk hne => ?_⟩
  unfold sortWorldK
  rw [heap_grow_old _ _ (by simpa [putRowK, putRow, mapBlock, Sort.ahead] using hk)]
  have : g ≠ k := fun e => hne (by rw [e])
  simp [putRowK, putRow, mapBlock, Sort.ahead, Array.getElem?_modify, this]

set_option maxHeartbeats 400000 in
/-- slices.SortFunc at edges: the row holds the same edges, none of which is less than one ahead of it. -/
theorem sort_any (g n cap base : Nat) (c : Nat → Int × Int) (w : World) (hb : base ≤ g) (hbw : base ≤ w.heap.size) (h : Row2 w g n c) (hn : n ≤ 1000000) :
    Calls Try.prog 53 #[.slice (some ⟨g, 0, none⟩) n cap, .func (.func 54) #[] #[]] w fun e w' => e = .returned (.tuple #[]) ∧ ∃ c', Row2 w' g n c' ∧ (∀ i j, i < j → j < n → ltE (c' j) (c' i) = false) ∧ (∀ x, x ∈ lst c' n ↔ x ∈ lst c n) ∧ Below base w w' := by
  have hsz : (lst c n).toArray.size = n := by simp [lst]
  have eg : ∀ args w, (callFunc 54 args).run Try.prog w = .ok (.enter 54 args) w := enters_of Try.func54 (by kernel_rfl) rfl
  have hcon := AnyQ.slices_SortFunc Try.sortE 2 Try.isAgg40 Try.sizeOf40 encE (fun _ => rfl) encE_one cmpE swoE 54 #[] g 0 cap (lst c n).toArray w eg (cmpLays g 0 _ w) h.holds h.1 (by rw [hsz]; omega)
  change Calls Try.prog 53 _ _ _ at hcon
  rw [hsz] at hcon
  refine hcon.mono ?_
  rintro e w' ⟨rfl, d', q, os, hp, hs, rfl⟩
  have hd : d'.size = n := by rw [hp.1, hsz]
  refine ⟨rfl, fun j => d'[j]!, ?_, fun i j hij hj => ?_, fun x => ?_, ?_⟩
  · have := row2_holds (d := d') (w := sortWorldK encE 2 w g 0 q d' os) (Nat.lt_of_lt_of_le h.1 (size_sortWorldK_c encE 2 w g 0 q d' os)) (holdsK_sortWorldK_c encE 2 w g 0 _ d' q os h.holds h.1 (by rw [hd, hsz]))
    rwa [hd] at this
  · have := hs i j (Nat.zero_le _) hij hj
    rwa [show ltOf cmpE d'[j]! d'[i]! = ltE d'[j]! d'[i]! from cmpE_lt _ _] at this
  · have hperm := hp.2.2
    have e1 : (d'.extract 0 n).toList = d'.toList := by rw [show n = d'.size from hd.symm]; simp
    have e2 : ((lst c n).toArray.extract 0 n).toList = lst c n := by
      rw [Array.toList_extract]
      simp [List.take_of_length_le, lst_len]
    rw [e1, e2] at hperm
    have e3 : lst (fun j => d'[j]!) n = d'.toList := by
      apply List.ext_getElem
      · simp [lst, hd]
      · intro i h1 h2
        simp [lst]
        rw [getElem!_pos d' i (by simpa using h2)]
    rw [e3]
    exact hperm.mem_iff
  · exact Below.grown (Below.refl _ _) (grown_sortE d') hbw (fun k hk => by cases hk; exact hb)
end Go.Proofs.Ytagigeieoijciaa
namespace Go.Proofs.Ytagigeieoijciaa
open Go.RowKit Go.Lib Go.Sort

theorem same_or (x y : Int × Int) : (x.1 = y.1 ∧ x.2 = y.2) ∨ (x.1 = y.1 ∧ (x.2 == y.2) = false) ∨ (x.1 == y.1) = false := by
  by_cases h : x.1 = y.1
  · by_cases h2 : x.2 = y.2
    · exact Or.inl ⟨h, h2⟩
    · exact Or.inr (Or.inl ⟨h, beq_eq_false_iff_ne.2 h2⟩)
  · exact Or.inr (Or.inr (beq_eq_false_iff_ne.2 h))
theorem lt_next {c : Nat → Int × Int} {n : Nat} (hs : ∀ i j, i < j → j < n → ltE (c j) (c i) = false) {m : Nat} (hm : m + 1 < n) (hne : c (m + 1) ≠ c m) : ∀ j, j ≤ m → ltE (c j) (c (m + 1)) = true := by
  intro j hj
  cases h : ltE (c j) (c (m + 1)) with
  | true => rfl
  | false =>
    have e := ltE_tri _ _ h (hs j (m + 1) (by omega) hm)
    by_cases hjm : j = m
    · subst hjm; exact absurd e.symm hne
    · have h2 := hs j m (by omega) (by omega)
      have h3 := hs m (m + 1) (by omega) hm
      rw [e] at h2
      exact absurd (ltE_tri _ _ h3 h2) hne
theorem rise_next {c : Nat → Int × Int} {n m : Nat} (hs : ∀ i j, i < j → j < n → ltE (c j) (c i) = false) (hm : m + 1 < n) (hne : c (m + 1) ≠ c m) (h : Rises (lst c (m + 1))) : Rises (lst c (m + 1 + 1)) := by
  rw [lst_succ]
  refine rises_snoc h (fun y hy => ?_)
  obtain ⟨j, hj, rfl⟩ := mem_lst.1 hy
  exact lt_next hs hm hne j (by omega)
theorem rise_small (c : Nat → Int × Int) {n : Nat} (h : n < 2) : Rises (lst c n) := by
  unfold Rises lst
  rcases (by omega : n = 0 ∨ n = 1) with rfl | rfl <;> simp [List.range_succ]

/-- What the second loop has made: K places hold the edges of the first T, each once; those behind are as they were. -/
structure Made (c c' : Nat → Int × Int) (K T : Nat) : Prop where
  rises : Rises (lst c' K)
  mem : ∀ x, x ∈ lst c' K ↔ x ∈ lst c T
  high : ∀ j, K ≤ j → c' j = c j
theorem made_start {c : Nat → Int × Int} {m : Nat} (h : Rises (lst c (m + 1))) (e : c (m + 1) = c m) : Made c c (m + 1) (m + 1 + 1) := by
  refine ⟨h, fun x => ?_, fun _ _ => rfl⟩
  rw [lst_succ c (m + 1), List.mem_append]
  refine ⟨Or.inl, fun hx => ?_⟩
  rcases hx with hx | hx
  · exact hx
  · simp at hx
    rw [hx, e]
    exact mem_lst.2 ⟨m, by omega, rfl⟩
theorem made_skip {c c' : Nat → Int × Int} {K T : Nat} (h : Made c c' K (T + 1)) (e : c (T + 1) = c T) : Made c c' K (T + 1 + 1) := by
  refine ⟨h.rises, fun x => ?_, h.high⟩
  rw [h.mem, lst_succ c (T + 1), List.mem_append]
  refine ⟨Or.inl, fun hx => ?_⟩
  rcases hx with hx | hx
  · exact hx
  · simp at hx
    rw [hx, e]
    exact mem_lst.2 ⟨T, by omega, rfl⟩
theorem made_put {c c' : Nat → Int × Int} {K T n : Nat} (h : Made c c' K (T + 1)) (hs : ∀ i j, i < j → j < n → ltE (c j) (c i) = false) (hT : T + 1 < n) (hne : c (T + 1) ≠ c T) : Made c (fun j => if j = K then c (T + 1) else c' j) (K + 1) (T + 1 + 1) := by
  have e0 : lst (fun j => if j = K then c (T + 1) else c' j) K = lst c' K := lst_congr (fun j hj => if_neg (by omega))
  refine ⟨?_, fun x => ?_, fun j hj => ?_⟩
  · rw [lst_succ, e0]
    refine rises_snoc h.rises (fun y hy => ?_)
    rw [h.mem] at hy
    obtain ⟨j, hj, rfl⟩ := mem_lst.1 hy
    show ltE (c j) (if K = K then c (T + 1) else c' K) = true
    rw [if_pos rfl]
    exact lt_next hs hT hne j (by omega)
  · rw [lst_succ, lst_succ c (T + 1), e0, List.mem_append, List.mem_append, h.mem]
    simp
  · show (if j = K then c (T + 1) else c' j) = c j
    rw [if_neg (by omega)]
    exact h.high j (by omega)

/-- 'clear' of a row of edges: some cells of that block alone are written. -/
theorem run_clear_edges (w : World) (b o n c : Nat) (hn : 0 < n) (hc : ∀ j, j < n * 2 → (w.cell? ⟨b, o + j, none⟩).isSome = true) (hf : ∀ j, j < n * 2 → w.frozen? ⟨b, o + j, none⟩ = false) :
    ∃ vs : List Value, vs.length = n * 2 ∧ ∀ ty : TypeId, (Builtin.clear_ #[22] ty #[.slice (some ⟨b, o, none⟩) n c]).run Try.prog w = .ok (.tuple #[]) (w.setCells b o vs) := by
  obtain ⟨vs, hvs⟩ : ∃ vs : List Value, vs = (Builtin.zeroCells (Value.agg #[.int .i64 0, .int .i64 0]).cells n).toList := ⟨_, rfl⟩
  have hl : vs.length = n * 2 := by rw [hvs]; simp [Builtin.zeroCells, Value.cells]
  have h1 : ∀ v ∈ vs, v.oneCell' = true := by
    rw [hvs]
    intro v hv
    simp [Builtin.zeroCells, Value.cells] at hv
    obtain ⟨i, hi, rfl⟩ := hv
    rcases Nat.mod_two_eq_zero_or_one i with h0 | h0 <;> simp [h0] <;> rfl
  refine ⟨vs, hl, fun ty => ?_⟩
  have hst := run_storeCells_cells (P := Try.prog) b o vs 0 w (by rw [hl]; simpa using hc) (by rw [hl]; simpa using hf) h1
  simp only [Nat.add_zero] at hst
  obtain ⟨m, rfl⟩ : ∃ m, n = m + 1 := ⟨n - 1, by omega⟩
  simp [Builtin.clear_, run_underlying Try.underlying22, Try.zeroValue40, ← hvs, hst]
end Go.Proofs.Ytagigeieoijciaa
namespace Go.Proofs.Ytagigeieoijciaa
open Go.RowKit Go.Lib Go.Sort

theorem below_setCells {base b : Nat} (hb : base ≤ b) : ∀ (vs : List Value) (o : Nat) (w : World), Below base w (w.setCells b o vs)
  | [], _, _ => Below.refl _ _
  | v :: vs, o, w => ((Below.refl base w).setCell (p := ⟨b, o, none⟩) hb v).trans (below_setCells hb vs (o + 1) _)

set_option maxHeartbeats 4000000 in
set_option maxRecDepth 1000000 in
theorem compact_any (g n cap base : Nat) (c : Nat → Int × Int) (w : World) (hb : base ≤ g) (h : Row2 w g n c) (hn : n ≤ 1000000) (hcap : n ≤ cap) (hs : ∀ i j, i < j → j < n → ltE (c j) (c i) = false) :
    Calls Try.prog 55 #[.slice (some ⟨g, 0, none⟩) n cap] w fun e w' => ∃ K c', e = .returned (.slice (some ⟨g, 0, none⟩) K cap) ∧ K ≤ n ∧ EAt w' (some ⟨g, 0, none⟩) (lst c' K) ∧ Rises (lst c' K) ∧ (∀ x, x ∈ lst c' K ↔ x ∈ lst c n) ∧ Below base w w' := by
  have HR : Hid (Row2 w g n c) := h
  have HS : Hid (∀ i j, i < j → j < n → ltE (c j) (c i) = false) := hs
  clear h hs
  by_cases h2 : n < 2
  · go_enter Try.func55, Try.ntmps55
    go_wp2
    go_ret
    exact ⟨n, c, rfl, Nat.le_refl _, HR.out.eat (Nat.le_refl _), rise_small c h2, fun _ => Iff.rfl, Below.refl _ _⟩
  go_enter Try.func55, Try.ntmps55
  go_wp2
  go_loopg [3] n (fun G v wr => ∃ m : Nat, m + 1 ≤ n ∧ n - (m + 1) ≤ G ∧ v = .int .i64 (m + 1) ∧ Hid (Row2 wr g n c) ∧ Below base w wr ∧ Hid (Rises (lst c (m + 1))))
  case atStart => exact ⟨0, by omega, by omega, by go_num, HR, Below.refl _ _, rise_small c (by omega)⟩
  case round =>
    obtain ⟨m, hm, hG, rfl, hrow, hbr, hri⟩ := hrel
    by_cases hlt : m + 1 < n
    · obtain ⟨⟨a0, _⟩, a1, _⟩ := hrow.out.2 (m + 1) hlt
      obtain ⟨⟨b0, _⟩, b1, _⟩ := hrow.out.2 m (by omega)
      have hso := same_or (c (m + 1)) (c m)
      obtain ⟨x1, hx1⟩ := ex_eq (c (m + 1)).1
      obtain ⟨x2, hx2⟩ := ex_eq (c (m + 1)).2
      obtain ⟨y1, hy1⟩ := ex_eq (c m).1
      obtain ⟨y2, hy2⟩ := ex_eq (c m).2
      rw [← hx1] at a0
      rw [← hx2] at a1
      rw [← hy1] at b0
      rw [← hy2] at b1
      rw [← hx1, ← hx2, ← hy1, ← hy2] at hso
      have HXY : Hid (x1 = (c (m + 1)).1 ∧ x2 = (c (m + 1)).2 ∧ y1 = (c m).1 ∧ y2 = (c m).2) := ⟨hx1, hx2, hy1, hy2⟩
      clear hx1 hx2 hy1 hy2
      have q0 : (m : Int) < (n : Int) := by omega
      rcases hso with ⟨e1, e2⟩ | hne
      · subst e1 e2
        have HM : Hid (Made c c (m + 1) (m + 1 + 1)) := made_start hri.out (by
          obtain ⟨h1, h2, h3, h4⟩ := HXY.out
          exact Prod.ext (h1.symm.trans h3) (h2.symm.trans h4))
        go_wp2
        go_quiet (fail)
        go_wp2
        clear a0 a1 b0 b1 HXY
        go_loopg [3, 5] n (fun G2 v3 v5 wr => ∃ (K k2 : Nat) (c' : Nat → Int × Int), v3 = .int .i64 K ∧ v5 = .int .i64 (k2 + 1) ∧ m + 1 + (k2 + 1) ≤ n ∧ n - (m + 1 + (k2 + 1)) ≤ G2 ∧ K ≤ m + 1 + k2 ∧ Hid (Row2 wr g n c') ∧ Below base w wr ∧ Hid (Made c c' K (m + 1 + k2 + 1)))
        case atStart => exact ⟨m + 1, 0, c, by go_num, by go_num, by omega, by omega, by omega, hrow.out.drewN _, below_drewN hbr _, HM⟩
        case round =>
          obtain ⟨K, k2, c', rfl, rfl, hT, hG2, hK, hrow2, hbr2, hmade⟩ := hrel
          by_cases hlt2 : m + 1 + (k2 + 1) < n
          · obtain ⟨⟨a0, _⟩, a1, _⟩ := hrow2.out.2 (m + 1 + (k2 + 1)) hlt2
            obtain ⟨⟨b0, _⟩, b1, _⟩ := hrow2.out.2 (m + 1 + k2) (by omega)
            obtain ⟨⟨k0, f0⟩, k1, f1⟩ := hrow2.out.2 K (by omega)
            rw [hmade.out.high _ (by omega)] at a0 a1 b0 b1
            have hso := same_or (c (m + 1 + (k2 + 1))) (c (m + 1 + k2))
            obtain ⟨x1, hx1⟩ := ex_eq (c (m + 1 + (k2 + 1))).1
            obtain ⟨x2, hx2⟩ := ex_eq (c (m + 1 + (k2 + 1))).2
            obtain ⟨y1, hy1⟩ := ex_eq (c (m + 1 + k2)).1
            obtain ⟨y2, hy2⟩ := ex_eq (c (m + 1 + k2)).2
            rw [← hx1] at a0
            rw [← hx2] at a1
            rw [← hy1] at b0
            rw [← hy2] at b1
            rw [← hx1, ← hx2, ← hy1, ← hy2] at hso
            have HXY : Hid (x1 = (c (m + 1 + (k2 + 1))).1 ∧ x2 = (c (m + 1 + (k2 + 1))).2 ∧ y1 = (c (m + 1 + k2)).1 ∧ y2 = (c (m + 1 + k2)).2) := ⟨hx1, hx2, hy1, hy2⟩
            rw [show (m + 1 + (k2 + 1)) * 2 = (m + 1) * 2 + (k2 + 1) * 2 by omega] at a0 a1
            rw [show (m + 1 + k2) * 2 = (m + 1) * 2 + k2 * 2 by omega] at b0 b1
            clear hx1 hx2 hy1 hy2
            have q1 : (k2 : Int) + 1 < ((n - (m + 1) : Nat) : Int) := by omega
            have q2 : (k2 : Int) < ((n - (m + 1) : Nat) : Int) := by omega
            have q3 : (K : Int) < (n : Int) := by omega
            obtain ⟨N2, hN2⟩ := ex_eq (n - (m + 1))
            rcases hso with ⟨e1, e2⟩ | ⟨e1, e2⟩ | e1
            · subst e1 e2
              have HM2 : Hid (Made c c' K (m + 1 + (k2 + 1) + 1)) := made_skip hmade.out (by
                obtain ⟨h1, h2, h3, h4⟩ := HXY.out
                exact Prod.ext (h1.symm.trans h3) (h2.symm.trans h4))
              go_wp2
              go_quiet (fail)
              go_wp2
              go_roundg (n - (m + 1 + (k2 + 1 + 1)))
              case measure => omega
              case rel => exact ⟨K, k2 + 1, c', rfl, by go_num, by omega, by omega, by omega, hrow2.out.drewN _, below_drewN hbr2 _, HM2⟩
            all_goals
              have HM2 : Hid (Made c (fun j => if j = K then c (m + 1 + (k2 + 1)) else c' j) (K + 1) (m + 1 + (k2 + 1) + 1)) := made_put hmade.out HS.out hlt2 (fun e => by
                obtain ⟨h1, h2, h3, h4⟩ := HXY.out
                have g1 : x1 = y1 := by rw [h1, h3]; exact congrArg Prod.fst e
                have g2 : x2 = y2 := by rw [h2, h4]; exact congrArg Prod.snd e
                first
                  | (rw [g2] at e2; simp at e2)
                  | (rw [g1] at e1; simp at e1))
              have HRP : Hid (∀ W, Row2 W g n c' → Row2 ((W.setCell ⟨g, K * 2, none⟩ (.int .i64 x1)).setCell ⟨g, K * 2 + 1, none⟩ (.int .i64 x2)) g n (fun j => if j = K then c (m + 1 + (k2 + 1)) else c' j)) := fun W hW => by
                have := hW.put (i := K) (by omega) (c (m + 1 + (k2 + 1)))
                obtain ⟨h1, h2, _⟩ := HXY.out
                rwa [← h1, ← h2] at this
              try subst e1
              go_wp2
              go_quiet (fail)
              go_wp2
              go_roundg (n - (m + 1 + (k2 + 1 + 1)))
              case measure => omega
              case rel => exact ⟨K + 1, k2 + 1, _, by go_num, by go_num, by omega, by omega, by omega, HRP.out _ (hrow2.out.drewN _), ((below_drewN hbr2 _).setCell (p := ⟨g, K * 2, none⟩) hb _).setCell (p := ⟨g, K * 2 + 1, none⟩) hb _, HM2⟩
          · have hend : n = m + 1 + k2 + 1 := by omega
            obtain ⟨vs, hvl, hcl⟩ := run_clear_edges wr g (K * 2) (n - K) (cap - K) (by omega) (fun j hj => by
              have := hrow2.out.2 (K + j / 2) (by omega)
              rcases Nat.mod_two_eq_zero_or_one j with h0 | h0
              · rw [show K * 2 + j = (K + j / 2) * 2 by omega, this.1.1]; rfl
              · rw [show K * 2 + j = (K + j / 2) * 2 + 1 by omega, this.2.1]; rfl) (fun j hj => by
              have := hrow2.out.2 (K + j / 2) (by omega)
              rcases Nat.mod_two_eq_zero_or_one j with h0 | h0
              · rw [show K * 2 + j = (K + j / 2) * 2 by omega]; exact this.1.2
              · rw [show K * 2 + j = (K + j / 2) * 2 + 1 by omega]; exact this.2.2)
            have HVL : Hid (vs.length = (n - K) * 2) := hvl
            have HEND : Hid (n = m + 1 + k2 + 1) := hend
            have hT' : n ≤ m + 1 + (k2 + 1) := by omega
            have q1 : ((n - (m + 1) : Nat) : Int) ≤ (k2 : Int) + 1 := by omega
            have q2 : K ≤ n := by omega
            clear hvl hend
            go_wp2
            go_ret
            refine ⟨K, c', rfl, by omega, ?_, hmade.out.rises, ?_, hbr2.trans (below_setCells hb _ _ _)⟩
            · have hE := hrow2.out.eat q2
              intro h0
              obtain ⟨g', off', e, hg', hc⟩ := hE h0
              simp only [Option.some.injEq, Addr.mk.injEq, and_true] at e
              obtain ⟨rfl, rfl⟩ := e
              refine ⟨g, 0, rfl, Nat.lt_of_lt_of_le hg' (below_setCells (Nat.le_refl g) _ _ _).size, fun k hk => ?_⟩
              have hk' : k < K := by rw [lst_len] at hk; exact hk
              rw [World.cell?_setCells_out _ _ _ _ _ (fun _ _ => Or.inl (by simp; omega)), World.cell?_setCells_out _ _ _ _ _ (fun _ _ => Or.inl (by simp; omega))]
              exact hc k hk
            · intro x
              rw [hmade.out.mem, ← HEND.out]
      · have HRN : Hid (Rises (lst c (m + 1 + 1))) := rise_next HS.out hlt (fun e => by
          obtain ⟨h1, h2, h3, h4⟩ := HXY.out
          have g1 : x1 = y1 := by rw [h1, h3]; exact congrArg Prod.fst e
          have g2 : x2 = y2 := by rw [h2, h4]; exact congrArg Prod.snd e
          rcases hne with ⟨_, e2⟩ | e1
          · rw [g2] at e2; simp at e2
          · rw [g1] at e1; simp at e1) hri.out
        rcases hne with ⟨e1, e2⟩ | e1
        all_goals
          try subst e1
          go_wp2
          go_quiet (fail)
          go_wp2
          go_roundg (n - (m + 1 + 1))
          case measure => omega
          case rel => exact ⟨m + 1, by omega, by omega, by go_num, hrow.out.drewN _, below_drewN hbr _, HRN⟩
    · obtain rfl : n = m + 1 := by omega
      go_wp2
      go_ret
      exact ⟨m + 1, c, by rfl, Nat.le_refl _, hrow.out.eat (Nat.le_refl _), hri.out, fun _ => Iff.rfl, hbr⟩

set_option maxHeartbeats 400000 in
theorem eachOnce_any (v : Value) (base : Nat) (es : List (Int × Int)) (w : World) (h : w.ownsRow base 40 2 v es.length (cellsE es)) (hbw : base ≤ w.heap.size) (hn : es.length ≤ 1000000) :
    Calls Try.prog 52 #[v] w fun e w' => ∃ a cap es', e = .returned (.slice a es'.length cap) ∧ Sl a cap es'.length ∧ EAt w' a es' ∧ (0 < es'.length → ∃ g, a = some ⟨g, 0, none⟩ ∧ base ≤ g) ∧ Rises es' ∧ (∀ x, x ∈ es' ↔ x ∈ es) ∧ Below base w w' := by
  by_cases h0 : 0 < es.length
  · obtain ⟨g, cap, rfl, hb, hcap, hrow⟩ := row2_own h h0
    have HM : Hid (∀ x, x ∈ lst (fun j => es[j]?.getD (0, 0)) es.length ↔ x ∈ es) := fun x => by rw [lst_list]
    obtain ⟨n, hne⟩ := ex_eq es.length
    rw [← hne] at hn hcap hrow ⊢
    rw [← hne] at HM
    obtain ⟨c, hc⟩ := ex_eq (fun j : Nat => es[j]?.getD ((0, 0) : Int × Int))
    rw [← hc] at hrow HM
    clear hc h h0
    have HS : Hid (∀ W, base ≤ W.heap.size → Row2 W g n c → Calls Try.prog 53 #[.slice (some ⟨g, 0, none⟩) n cap, .func (.func 54) #[] #[]] W fun e w' => e = .returned (.tuple #[]) ∧ ∃ c', Row2 w' g n c' ∧ (∀ i j, i < j → j < n → ltE (c' j) (c' i) = false) ∧ (∀ x, x ∈ lst c' n ↔ x ∈ lst c n) ∧ Below base W w') := fun W hW hr => sort_any g n cap base c W hb hW hr hn
    have HRW : Hid (Row2 w g n c) := hrow
    clear hrow hne
    go_enter Try.func52, Try.ntmps52
    go_wp2_with fail
    refine (HS.out _ hbw HRW.out).mono ?_
    rintro e w1 ⟨rfl, c', hr, hs, hm, hb1⟩
    have HC := compact_any g n cap base c' w1 hb hr hn hcap hs
    have HCH : Hid (Calls Try.prog 55 #[.slice (some ⟨g, 0, none⟩) n cap] w1 fun e w' => ∃ K c'', e = .returned (.slice (some ⟨g, 0, none⟩) K cap) ∧ K ≤ n ∧ EAt w' (some ⟨g, 0, none⟩) (lst c'' K) ∧ Rises (lst c'' K) ∧ (∀ x, x ∈ lst c'' K ↔ x ∈ lst c' n) ∧ Below base w1 w') := HC
    have HM2 : Hid (∀ x, x ∈ lst c' n ↔ x ∈ lst c n) := hm
    clear HC hr hs hm HS HRW
    go_wp2_with fail
    refine HCH.out.mono ?_
    rintro e w2 ⟨K, c'', rfl, hK, hE, hR, hm2, hb2⟩
    have HE : Hid (EAt w2 (some ⟨g, 0, none⟩) (lst c'' K)) := hE
    have HR : Hid (Rises (lst c'' K)) := hR
    have HM3 : Hid (∀ x, x ∈ lst c'' K ↔ x ∈ lst c' n) := hm2
    clear hE hR hm2 HCH
    go_wp2
    go_ret
    exact ⟨_, cap, lst c'' K, by rw [lst_len]; rfl, sl_some (by rw [lst_len]; omega), HE.out, fun _ => ⟨g, rfl, hb⟩, HR.out, fun x => ((HM3.out x).trans (HM2.out x)).trans (HM.out x), hb1.trans hb2⟩
  · have e0 : es = [] := List.eq_nil_of_length_eq_zero (by omega)
    subst e0
    obtain ⟨a, cap, rfl, hcap, _⟩ := eat_own h
    have hcon : Calls Try.prog 53 #[.slice a 0 cap, .func (.func 54) #[] #[]] w fun e w' => e = .returned (.tuple #[]) ∧ w' = w := AnyF.slices_SortFunc_none Try.sortE a cap _ w
    have hcomp : ∀ W, Calls Try.prog 55 #[.slice a 0 cap] W fun e w' => e = .returned (.slice a 0 cap) ∧ w' = W := fun W => by
      clear hcon h
      go_enter Try.func55, Try.ntmps55
      go_wp2
      go_ret
      exact ⟨rfl, rfl⟩
    have HC : Hid (∀ W, Calls Try.prog 55 #[.slice a 0 cap] W fun e w' => e = .returned (.slice a 0 cap) ∧ w' = W) := hcomp
    clear hcomp h
    go_enter Try.func52, Try.ntmps52
    go_wp2_with fail
    refine hcon.mono ?_
    rintro e w1 ⟨rfl, rfl⟩
    go_wp2_with fail
    refine (HC.out _).mono ?_
    rintro e w2 ⟨rfl, rfl⟩
    go_wp2
    go_ret
    exact ⟨a, cap, [], rfl, hcap, eat_nil _ _, fun h => absurd h (by simp), rises_nil, fun _ => Iff.rfl, Below.refl _ _⟩
end Go.Proofs.Ytagigeieoijciaa
