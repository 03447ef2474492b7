/-
  graph.eachOnce: edges in order, each once: slices.SortFunc by its contract, slices.Compact walked.
-/
import Derived.Test.YtalhjankofdhgaaGRight
import Derived.Test.YtalhjankofdhgaaShelf
import Derived.Lib.SliceRun
import Derived.Deep.LoopGhost
namespace Go.Proofs.Ytalhjankofdhgaa
open Go.RowKit Go.Lib Go.Sort

/-- The first n of a row that is told place by place. -/
def lst (c : Nat → Int × Int) (n : Nat) : List (Int × Int) := (List.range n).map c
theorem lst_len (c : Nat → Int × Int) (n : Nat) : (lst c n).length = n := by simp [lst]
theorem lst_succ (c : Nat → Int × Int) (n : Nat) : lst c (n + 1) = lst c n ++ [c n] := by simp [lst, List.range_succ]
theorem lst_at {c : Nat → Int × Int} {n k : Nat} (h : k < (lst c n).length) : (lst c n)[k] = c k := by simp [lst]
theorem mem_lst {c : Nat → Int × Int} {n : Nat} {x : Int × Int} : x ∈ lst c n ↔ ∃ j, j < n ∧ c j = x := by simp [lst]
theorem lst_congr {c d : Nat → Int × Int} {n : Nat} (h : ∀ j, j < n → c j = d j) : lst c n = lst d n := List.map_congr_left (fun j hj => h j (by simpa using hj))
theorem lst_list (es : List (Int × Int)) : lst (fun j => es[j]?.getD (0, 0)) es.length = es := by
  apply List.ext_getElem
  · simp [lst]
  · intro i h1 h2; simp [lst, h2]
theorem rises_snoc {es : List (Int × Int)} {x : Int × Int} (h : Rises es) (hx : ∀ y ∈ es, ltE y x = true) : Rises (es ++ [x]) := by
  unfold Rises
  rw [List.pairwise_append]
  exact ⟨h, by simp, fun a ha b hb => by simp at hb; subst hb; exact hx a ha⟩

/-- A row of edges that may be written, place by place. -/
def Row2 (w : World) (g n : Nat) (c : Nat → Int × Int) : Prop := g < w.heap.size ∧ ∀ j, j < n → (w.cell? ⟨g, j * 2, none⟩ = some (.int .i64 (c j).1) ∧ w.frozen? ⟨g, j * 2, none⟩ = false) ∧ (w.cell? ⟨g, j * 2 + 1, none⟩ = some (.int .i64 (c j).2) ∧ w.frozen? ⟨g, j * 2 + 1, none⟩ = false)
theorem Row2.drewN {w : World} {g n : Nat} {c : Nat → Int × Int} (h : Row2 w g n c) (q : Nat) : Row2 (w.drewN q) g n c := h
theorem cell_set_other {w : World} {p q : Addr} {v : Value} (h : q ≠ p) : (w.setCell p v).cell? q = w.cell? q := World.cell?_setCell_other _ _ _ _ (Ne.symm h)
theorem Row2.put {w : World} {g n : Nat} {c : Nat → Int × Int} (h : Row2 w g n c) {i : Nat} (hi : i < n) (x : Int × Int) :
    Row2 ((w.setCell ⟨g, i * 2, none⟩ (.int .i64 x.1)).setCell ⟨g, i * 2 + 1, none⟩ (.int .i64 x.2)) g n (fun j => if j = i then x else c j) := by
  refine ⟨by simpa using h.1, fun j hj => ?_⟩
  obtain ⟨⟨a, fa⟩, b, fb⟩ := h.2 j hj
  obtain ⟨⟨ai, fai⟩, bi, fbi⟩ := h.2 i hi
  simp only [World.frozen?_setCell]
  refine ⟨⟨?_, fa⟩, ?_, fb⟩
  · rw [cell_set_other (by simp <;> omega)]
    by_cases e : j = i
    · subst e
      rw [if_pos rfl]
      exact World.cell?_setCell_same' _ _ _ (by rw [a]; rfl)
    · rw [if_neg e, cell_set_other (by simp <;> omega)]
      exact a
  · by_cases e : j = i
    · subst e
      rw [if_pos rfl]
      exact World.cell?_setCell_same' _ _ _ (by rw [cell_set_other (by simp <;> omega), b]; rfl)
    · rw [if_neg e, cell_set_other (by simp <;> omega), cell_set_other (by simp <;> omega)]
      exact b
theorem Row2.eat {w : World} {g n K : Nat} {c : Nat → Int × Int} (h : Row2 w g n c) (hK : K ≤ n) : EAt w (some ⟨g, 0, none⟩) (lst c K) := fun _ =>
  ⟨g, 0, rfl, h.1, fun k hk => by
    rw [lst_len] at hk
    have := h.2 k (by omega)
    rw [lst_at, Nat.zero_add]
    exact ⟨this.1.1, this.2.1⟩⟩

def encE (x : Int × Int) : List Value := [.int .i64 x.1, .int .i64 x.2]
theorem encE_one (x : Int × Int) : ∀ v ∈ encE x, v.oneCell' = true := fun v hv => by simp [encE] at hv; rcases hv with rfl | rfl <;> rfl
theorem Row2.holds {w : World} {g n : Nat} {c : Nat → Int × Int} (h : Row2 w g n c) : HoldsK encE 2 w g 0 (lst c n).toArray := by
  intro j hj
  have hj' : j < n * 2 := by rw [size_flatK] at hj; simpa [lst_len] using hj
  rw [get_flatK _ _ _ _ (by simpa [lst_len] using hj')]
  have hn : j / 2 < (lst c n).length := by rw [lst_len]; omega
  have e : (lst c n).toArray[j / 2]! = c (j / 2) := by
    rw [getElem!_pos _ _ (by simpa using hn)]
    simp [lst]
  rw [e, Nat.zero_add]
  have hh := h.2 (j / 2) (by omega)
  rcases Nat.mod_two_eq_zero_or_one j with h0 | h0
  · have h2 : j / 2 * 2 = j := by omega
    rw [h0]
    rw [h2] at hh
    exact hh.1
  · have h2 : j / 2 * 2 + 1 = j := by omega
    rw [h0]
    rw [h2] at hh
    exact hh.2
theorem row2_holds {w : World} {g : Nat} {d : Array (Int × Int)} (hg : g < w.heap.size) (h : HoldsK encE 2 w g 0 d) : Row2 w g d.size (fun j => d[j]!) := by
  refine ⟨hg, fun j hj => ?_⟩
  have a := h.cell hj (show 0 < 2 by omega)
  have b := h.cell hj (show 1 < 2 by omega)
  rw [Nat.zero_add] at a b
  exact ⟨a, b⟩

theorem row2_own {w : World} {base : Nat} {e : TypeId} {v : Value} {es : List (Int × Int)} (h : w.ownsRow base e 2 v es.length (cellsE es)) (hn : 0 < es.length) :
    ∃ g cap, v = .slice (some ⟨g, 0, none⟩) es.length cap ∧ base ≤ g ∧ es.length ≤ cap ∧ Row2 w g es.length (fun j => es[j]?.getD (0, 0)) := by
  rcases h.2 with ⟨_, h0⟩ | ⟨g, cap, cur, hv, hb, hg, hnc, _, hcur, htake⟩
  · omega
  · have hgs : g < w.heap.size := (Array.getElem?_eq_some_iff.1 hg).1
    refine ⟨g, cap, hv, hb, hnc, hgs, fun j hj => ?_⟩
    have hc := h.cells (g := g) (by rw [hv]; rfl)
    have h1 := cellsE_at es j hj
    have c1 := hc _ _ h1.1
    have c2 := hc _ _ h1.2
    rw [add_at, Nat.zero_add] at c1 c2
    have e : es[j]?.getD (0, 0) = es[j] := by rw [List.getElem?_eq_getElem hj]; rfl
    show (_ = some (Value.int .i64 (es[j]?.getD (0, 0)).1) ∧ _) ∧ (_ = some (Value.int .i64 (es[j]?.getD (0, 0)).2) ∧ _)
    rw [e]
    exact ⟨⟨c1, frozen_of_heap hg _⟩, c2, frozen_of_heap hg _⟩

theorem swoE : SWO (ltOf cmpE) := by
  have e : ∀ x y, ltOf cmpE x y = ltE x y := fun x y => cmpE_lt x y
  exact ⟨fun x => by rw [e]; exact ltE_irrefl x, fun x y z h h' => by rw [e] at *; exact ltE_trans h h', fun x y z h h' => by rw [e] at *; exact ltE_ntrans h h'⟩

theorem cmpLays (blk off size : Nat) (w : World) : CmpLays Try.prog 41 #[] encE 2 cmpE blk off size w := fun _ _ _ _ x y =>
  (cmp_any x y _).mono fun _ _ ⟨h, os, hw⟩ => ⟨h, 0, os, hw⟩

theorem grown_sortE {w : World} {g n : Nat} {os : Array Obj} (d : Array (Int × Int)) : w.grownBy (sortWorldK encE 2 w g 0 n d os) (some g) := by
  refine ⟨rfl, rfl, rfl, size_sortWorldK_c encE 2 w g 0 n d os, fun k hk hne => ?_⟩
  unfold sortWorldK
  rw [heap_grow_old _ _ (by simpa [putRowK, putRow, mapBlock, Sort.ahead] using hk)]
  have : g ≠ k := fun e => hne (by rw [e])
  simp [putRowK, putRow, mapBlock, Sort.ahead, Array.getElem?_modify, this]

set_option maxHeartbeats 400000 in
/-- slices.SortFunc at edges: the row holds the same edges, none of which is less than one ahead of it. -/
theorem sort_any (g n cap base : Nat) (c : Nat → Int × Int) (w : World) (hb : base ≤ g) (hbw : base ≤ w.heap.size) (h : Row2 w g n c) (hn : n ≤ 1000000) :
    Calls Try.prog 40 #[.slice (some ⟨g, 0, none⟩) n cap, .func (.func 41) #[] #[]] w fun e w' => e = .returned (.tuple #[]) ∧ ∃ c', Row2 w' g n c' ∧ (∀ i j, i < j → j < n → ltE (c' j) (c' i) = false) ∧ (∀ x, x ∈ lst c' n ↔ x ∈ lst c n) ∧ Below base w w' := by
  have hsz : (lst c n).toArray.size = n := by simp [lst]
  have eg : ∀ args w, (callFunc 41 args).run Try.prog w = .ok (.enter 41 args) w := enters_of Try.func41 (by kernel_rfl) rfl
  have hcon := AnyQ.slices_SortFunc Try.sortE 2 Try.isAgg39 Try.sizeOf39 encE (fun _ => rfl) encE_one cmpE swoE 41 #[] g 0 cap (lst c n).toArray w eg (cmpLays g 0 _ w) h.holds h.1 (by rw [hsz]; omega)
  change Calls Try.prog 40 _ _ _ at hcon
  rw [hsz] at hcon
  refine hcon.mono ?_
  rintro e w' ⟨rfl, d', q, os, hp, hs, rfl⟩
  have hd : d'.size = n := by rw [hp.1, hsz]
  refine ⟨rfl, fun j => d'[j]!, ?_, fun i j hij hj => ?_, fun x => ?_, ?_⟩
  · have := row2_holds (d := d') (w := sortWorldK encE 2 w g 0 q d' os) (Nat.lt_of_lt_of_le h.1 (size_sortWorldK_c encE 2 w g 0 q d' os)) (holdsK_sortWorldK_c encE 2 w g 0 _ d' q os h.holds h.1 (by rw [hd, hsz]))
    rwa [hd] at this
  · have := hs i j (Nat.zero_le _) hij hj
    rwa [show ltOf cmpE d'[j]! d'[i]! = ltE d'[j]! d'[i]! from cmpE_lt _ _] at this
  · have hperm := hp.2.2
    have e1 : (d'.extract 0 n).toList = d'.toList := by rw [show n = d'.size from hd.symm]; simp
    have e2 : ((lst c n).toArray.extract 0 n).toList = lst c n := by
      rw [Array.toList_extract]
      simp [List.take_of_length_le, lst_len]
    rw [e1, e2] at hperm
    have e3 : lst (fun j => d'[j]!) n = d'.toList := by
      apply List.ext_getElem
      · simp [lst, hd]
      · intro i h1 h2
        simp [lst]
        rw [getElem!_pos d' i (by simpa using h2)]
    rw [e3]
    exact hperm.mem_iff
  · exact Below.grown (Below.refl _ _) (grown_sortE d') hbw (fun k hk => by cases hk; exact hb)
end Go.Proofs.Ytalhjankofdhgaa
