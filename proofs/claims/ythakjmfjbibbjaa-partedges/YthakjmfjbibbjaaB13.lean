/-
  The program's Classes of layer 4.
  The program's Classes of layer 4: the walk.
-/
import Derived.Test.YthakjmfjbibbjaaB09
import Derived.Test.YthakjmfjbibbjaaB12
namespace Go.Proofs.Ythakjmfjbibbjaa
open Go.RowKit Go.Lib Go.Shelf Go.Maps

/-- Rows of numbers of their own, each in a block of its own, that may be written. -/
def RowsOwn (w : World) (base : Nat) (v : Value) (LL : List (List Int)) : Prop :=
  ∃ a cap, v = .slice a LL.length cap ∧ (0 < LL.length → ∃ blk, a = some ⟨blk, 0, none⟩ ∧ base ≤ blk ∧ blk < w.heap.size ∧ ∃ gs : Nat → Nat,
    (∀ k (hk : k < LL.length), ∃ ck, w.cell? ⟨blk, k, none⟩ = some (.slice (some ⟨gs k, 0, none⟩) LL[k].length ck) ∧ base ≤ gs k ∧ gs k ≠ blk ∧ 0 < LL[k].length ∧ Row1 w (gs k) LL[k].length (fun j => LL[k][j]?.getD 0)) ∧
    ∀ i j, i < LL.length → j < LL.length → i ≠ j → gs i ≠ gs j)
theorem RowsOwn.in {w : World} {base : Nat} {v : Value} {LL : List (List Int)} (h : RowsOwn w base v LL) : ∃ a cap, v = .slice a LL.length cap ∧ LLIn w (fun k => base ≤ k) a LL := by
  obtain ⟨a, cap, hv, h⟩ := h
  refine ⟨a, cap, hv, fun h0 => ?_⟩
  obtain ⟨blk, ha, hb, hlt, gs, hr, _⟩ := h h0
  refine ⟨blk, 0, ha, hlt, hb, fun k hk => ?_⟩
  obtain ⟨ck, h1, h2, _, _, h4⟩ := hr k hk
  refine ⟨_, ck, by rw [Nat.zero_add]; exact h1, fun _ => ⟨gs k, 0, rfl, h4.1, fun j hj => ?_⟩, fun g off e _ => by cases e; exact h2⟩
  rw [Nat.zero_add, (h4.2 j hj).1]
  simp [hj]

theorem size_held {w : World} {b n : Nat} {D' : DataW Value} (h : w.ownsMap Try.prog 3 heldR b n D') : Maps.size D' ≤ n := by
  obtain ⟨es, clock, _, _, hs, rfl⟩ := h
  simpa [Maps.size, length_sorted] using hs
theorem nodup_at {l : List Int} (h : l.Nodup) {i j : Nat} (hi : i < l.length) (hj : j < l.length) (e : l[i] = l[j]) : i = j := by
  rcases Nat.lt_trichotomy i j with h1 | h1 | h1
  · exact absurd e (List.pairwise_iff_getElem.1 h i j hi hj h1)
  · exact h1
  · exact absurd e.symm (List.pairwise_iff_getElem.1 h j i hj hi h1)
/-- What has come is the classes: of each the row of its numbers, each once. -/
structure Rws (w : World) (base n : Nat) (f : Nat → Nat) (xs : List (Int × (Option Addr × Nat × Nat))) : Prop where
  row : ∀ x ∈ xs, f x.1.toNat ∈ repsF n f ∧ w.ownsInts base 3 .i64 (slv x.2) (classF n f (f x.1.toNat))
  inj : ∀ i j (hi : i < xs.length) (hj : j < xs.length), f xs[i].1.toNat = f xs[j].1.toNat → i = j
  all : ∀ r ∈ repsF n f, ∃ k, ∃ h : k < xs.length, f xs[k].1.toNat = r
  apart : ∀ i j (hi : i < xs.length) (hj : j < xs.length), i ≠ j → (slv xs[i].2).ownBlock = none ∨ (slv xs[i].2).ownBlock ≠ (slv xs[j].2).ownBlock
theorem came_rows {w : World} {b g n B base : Nat} {f rt : Nat → Nat} {c : Nat} {D : DataW Unit} {D' : DataW Value} {xs : List (Int × (Option Addr × Nat × Nat))} (hx : PX w b g n f rt c) (hP : Pt n f) (hG : Grp D f rt n n) (hH : Held w B base n D D') (hC : Came1 D' xs) : Rws w base n f xs := by
  have key : ∀ x ∈ xs, ∃ a, a < n ∧ x.1 = (rt a : Int) := fun x hxm => by
    have h1 := (hC.2.1 x.1).1 (List.mem_map.2 ⟨x, hxm, rfl⟩)
    rw [hH.has] at h1
    obtain ⟨a, ha, e⟩ := (hG.has _).1 h1
    exact ⟨a, ha, by simpa using e⟩
  have fk : ∀ x ∈ xs, ∀ a, a < n → x.1 = (rt a : Int) → f x.1.toNat = f a := fun x _ a ha e => by rw [e, Int.toNat_natCast]; exact (hx.top_lt ha).2
  refine ⟨fun x hxm => ?_, fun i j hi hj e => ?_, fun r hr => ?_, fun i j hi hj hne => ?_⟩
  · obtain ⟨a, ha, e⟩ := key x hxm
    have hfa := fk x hxm a ha e
    rw [hfa]
    refine ⟨mem_reps.2 ⟨hP.lt ha, hP.idem a ha⟩, ?_⟩
    obtain ⟨zs, ho, hz⟩ := hH.row x.1 _ (hC.2.2 x hxm)
    rw [e, hG.at a ha] at hz
    have : zs = partTo f (f a) n := rowD_of ho hz.symm
    rw [this] at ho
    exact ho
  · obtain ⟨a, ha, e1⟩ := key _ (List.getElem_mem hi)
    obtain ⟨a', ha', e2⟩ := key _ (List.getElem_mem hj)
    rw [fk _ (List.getElem_mem hi) a ha e1, fk _ (List.getElem_mem hj) a' ha' e2] at e
    have hrt := (hx.same ha ha').2 e
    have hkk : (xs.map Prod.fst)[i]'(by simpa using hi) = (xs.map Prod.fst)[j]'(by simpa using hj) := by
      rw [List.getElem_map, List.getElem_map, e1, e2, hrt]
    exact nodup_at hC.1 _ _ hkk
  · obtain ⟨hr1, hr2⟩ := mem_reps.1 hr
    have h1 : has D' (.int .i64 (rt r : Int)) = true := by rw [hH.has]; exact (hG.has _).2 ⟨r, hr1, rfl⟩
    obtain ⟨x, hxm, e⟩ := List.mem_map.1 ((hC.2.1 _).2 h1)
    obtain ⟨k, hk, rfl⟩ := List.getElem_of_mem hxm
    exact ⟨k, hk, (fk _ hxm r hr1 e).trans hr2⟩
  · refine hH.apart xs[i].1 xs[j].1 _ _ (fun e => hne ?_) (hC.2.2 _ (List.getElem_mem hi)) (hC.2.2 _ (List.getElem_mem hj))
    have hkk : (xs.map Prod.fst)[i]'(by simpa using hi) = (xs.map Prod.fst)[j]'(by simpa using hj) := by
      rw [List.getElem_map, List.getElem_map, e]
    exact nodup_at hC.1 _ _ hkk
/-- In the order of their first numbers they are the classes in their order. -/
theorem sorted_reps {n N : Nat} {f rep : Nat → Nat} {d : List Nat} (hp : d.Perm (List.range N)) (hs : d.Pairwise (fun x y => ¬ ((rep y : Int)) < (rep x : Int))) (hin : ∀ k, k < N → rep k ∈ repsF n f) (hinj : ∀ i j, i < N → j < N → rep i = rep j → i = j) (hall : ∀ r ∈ repsF n f, ∃ k, k < N ∧ rep k = r) : d.map rep = repsF n f := by
  have hnd : d.Nodup := hp.nodup_iff.2 List.nodup_range
  have hlt : ∀ k ∈ d, k < N := fun k hk => by simpa using hp.mem_iff.1 hk
  have h1 : (d.map (fun k => (rep k : Int))).Pairwise (· < ·) := by
    rw [List.pairwise_map]
    have := List.Pairwise.and hs hnd
    refine List.Pairwise.imp_of_mem (fun {a b} ha hb h => ?_) this
    have hne : rep a ≠ rep b := fun e => h.2 (hinj a b (hlt a ha) (hlt b hb) e)
    omega
  have h2 : ((repsF n f).map (fun i : Nat => (i : Int))).Pairwise (· < ·) := by
    rw [List.pairwise_map]
    exact (reps_rises n f).imp (fun h => by omega)
  have h3 := rise_one h1 h2 (fun e => by
    rw [List.mem_map, List.mem_map]
    constructor
    · rintro ⟨k, hk, rfl⟩; exact ⟨rep k, hin k (hlt k hk), rfl⟩
    · rintro ⟨r, hr, rfl⟩
      obtain ⟨k, hk, rfl⟩ := hall r hr
      exact ⟨k, hp.mem_iff.2 (by simpa using hk), rfl⟩)
  have h4 : (d.map rep).map (fun i : Nat => (i : Int)) = (repsF n f).map (fun i : Nat => (i : Int)) := by rw [List.map_map]; exact h3
  exact (List.map_inj_right (fun a b hab => by omega)).1 h4
theorem ints_slice {w : World} {base : Nat} {e : TypeId} {v : Value} {zs : List Int} (h : w.ownsInts base e .i64 v zs) (h0 : 0 < zs.length) : ∃ g cap, v = .slice (some ⟨g, 0, none⟩) zs.length cap ∧ base ≤ g ∧ Row1 w g zs.length (fun j => zs[j]?.getD 0) := by
  rcases h.1.2 with ⟨_, h1⟩ | ⟨g, cap, cur, hv, hb, _⟩
  · omega
  · subst hv
    exact ⟨g, cap, rfl, hb, row1_own h.1 rfl⟩
theorem Row1.grown {w w' : World} {row : Option Nat} {g n : Nat} {c : Nat → Int} (h : Row1 w g n c) (hg : w.grownBy w' row) (hne : some g ≠ row) : Row1 w' g n c :=
  ⟨Nat.lt_of_lt_of_le h.1 hg.size, fun j hj => ⟨(World.cell?_of_block (w := w) (a := ⟨g, j, none⟩) (hg.block g h.1 hne)).trans (h.2 j hj).1, (World.frozen?_of_block (w := w) (a := ⟨g, j, none⟩) (hg.block g h.1 hne)).trans (h.2 j hj).2⟩⟩
theorem Row1.below {w w' : World} {g n : Nat} {c : Nat → Int} (h : Row1 w g n c) (hb : Below w.heap.size w w') : Row1 w' g n c := h.grown (grown_of_below hb) (by simp)
end Go.Proofs.Ythakjmfjbibbjaa
namespace Go.Proofs.Ythakjmfjbibbjaa
open Go.RowKit Go.Lib Go.Shelf Go.Maps

/-- What Classes leaves: the part as it was, and rows of their own. -/
def ClsIs (b g n : Nat) (f rt : Nat → Nat) (c : Nat) (w w' : World) (v : Value) : Prop := PX w' b g n f rt c ∧ RowsOwn w' w.heap.size v (classesF n f) ∧ KeptBut (fun k => k = g) w w'
/-- Ahead of the sort: all that was collected. -/
structure Pre (b g n : Nat) (f rt : Nat → Nat) (c : Nat) (w w1 w2 w3 : World) (v : Value) (xs : List (Int × (Option Addr × Nat × Nat))) : Prop where
  px : PX w1 b g n f rt c
  rws : Rws w1 (w.heap.size + 1) n f xs
  kept : KeptBut (fun k => k = g) w w1
  b12 : Below w1.heap.size w1 w2
  b23 : Below w2.heap.size w2 w3
  row : w3.ownsRow w2.heap.size 42 1 v xs.length (xs.map (fun x => slv x.2))
theorem Pre.lt {b g n : Nat} {f rt : Nat → Nat} {c : Nat} {w w1 w2 w3 : World} {v : Value} {xs : List (Int × (Option Addr × Nat × Nat))} (h : Pre b g n f rt c w w1 w2 w3 v xs) : w.heap.size ≤ w1.heap.size ∧ w1.heap.size ≤ w2.heap.size ∧ w2.heap.size ≤ w3.heap.size := ⟨h.kept.size, h.b12.size, h.b23.size⟩
theorem Pre.len {b g n : Nat} {f rt : Nat → Nat} {c : Nat} {w w1 w2 w3 : World} {v : Value} {xs : List (Int × (Option Addr × Nat × Nat))} (h : Pre b g n f rt c w w1 w2 w3 v xs) : xs.length = 0 → (classesF n f) = [] := fun h0 => by
  have : repsF n f = [] := by
    cases hr : repsF n f with
    | nil => rfl
    | cons r l => obtain ⟨k, hk, _⟩ := h.rws.all r (by rw [hr]; simp); omega
  unfold classesF
  rw [this]
  rfl
/-- Behind the sort. -/
theorem Pre.end {b g n : Nat} {f rt : Nat → Nat} {c : Nat} {w w1 w2 w3 w4 : World} {v : Value} {xs : List (Int × (Option Addr × Nat × Nat))} (h : Pre b g n f rt c w w1 w2 w3 v xs) {row : Option Nat} (hg : w3.grownBy w4 row) (hr : ∀ k, row = some k → w2.heap.size ≤ k) (hb : b < w.heap.size) (hgl : g < w.heap.size) : PX w4 b g n f rt c ∧ KeptBut (fun k => k = g) w w4 := by
  obtain ⟨l1, l2, l3⟩ := h.lt
  have k13 : KeptBut (fun k => w1.heap.size ≤ k) w1 w3 := KeptBut.of_below (h.b12.trans (h.b23.mono l2))
  have k34 : KeptBut (fun k => w1.heap.size ≤ k) w3 w4 := KeptBut.one hg (fun k hk => Nat.le_trans l2 (hr k hk))
  have k14 := k13.trans k34
  refine ⟨h.px.kept k14 (by omega) (by omega), ⟨k14.os.trans h.kept.os, k14.tape.trans h.kept.tape, k14.output.trans h.kept.output, Nat.le_trans l1 k14.size, fun i hi hne => (k14.block i (by omega) (by omega)).trans (h.kept.block i hi hne)⟩⟩

theorem rep_len {n : Nat} {f : Nat → Nat} (hP : Pt n f) {r : Nat} (hr : r ∈ repsF n f) : 0 < (classF n f r).length ∧ (classF n f r)[0]?.getD 0 = (r : Int) := by
  obtain ⟨l, hl⟩ := class_head hP hr
  rw [hl]
  exact ⟨by simp, rfl⟩
/-- What the sort is handed, and what comes of it. -/
theorem Pre.sort {b g n : Nat} {f rt : Nat → Nat} {c : Nat} {w w1 w2 w3 : World} {v : Value} {xs : List (Int × (Option Addr × Nat × Nat))} (h : Pre b g n f rt c w w1 w2 w3 v xs) (hP : Pt n f) (h0 : 0 < xs.length) :
    ∃ (blk cap : Nat) (V : Nat → Value) (hd : Nat → Int), v = .slice (some ⟨blk, 0, none⟩) xs.length cap ∧ w2.heap.size ≤ blk ∧ blk < w3.heap.size ∧ Heads w3 blk V hd ∧ (∀ j, j < xs.length → w3.cell? ⟨blk, j, none⟩ = some (V j) ∧ w3.frozen? ⟨blk, j, none⟩ = false) ∧
      ∀ w4, SortIs w3 w4 blk xs.length V hd → RowsOwn w4 w.heap.size v (classesF n f) := by
  obtain ⟨l1, l2, l3⟩ := h.lt
  have hb13 : Below w1.heap.size w1 w3 := h.b12.trans (h.b23.mono l2)
  obtain ⟨blk, cap, hv, hbb, hblt, hcap, hcs⟩ := own_row h.row h0
  have hfz : ∀ j, w3.frozen? ⟨blk, j, none⟩ = false := fun j => by
    rcases h.row.2 with ⟨hv', _⟩ | ⟨g', cap', cur, hv', _, hgb, _⟩
    · rw [hv] at hv'; simp at hv'
    · rw [hv] at hv'
      simp only [Value.slice.injEq, Option.some.injEq, Addr.mk.injEq, and_true, true_and] at hv'
      obtain ⟨rfl, _⟩ := hv'
      exact frozen_of_heap hgb _
  obtain ⟨X, hX⟩ : ∃ X : Nat → Int × (Option Addr × Nat × Nat), ∀ k, X k ∈ xs ∧ ∀ h : k < xs.length, X k = xs[k] := ⟨fun k => xs[k]?.getD xs[0], fun k => by
    show xs[k]?.getD xs[0] ∈ xs ∧ ∀ h : k < xs.length, xs[k]?.getD xs[0] = xs[k]
    by_cases hk : k < xs.length
    · rw [List.getElem?_eq_getElem hk]; exact ⟨List.getElem_mem hk, fun _ => rfl⟩
    · rw [List.getElem?_eq_none (by omega)]; exact ⟨List.getElem_mem h0, fun h => absurd h hk⟩⟩
  have info : ∀ k, ∃ gk ck, slv (X k).2 = .slice (some ⟨gk, 0, none⟩) (classF n f (f (X k).1.toNat)).length ck ∧ w.heap.size + 1 ≤ gk ∧ gk < w1.heap.size ∧ Row1 w3 gk (classF n f (f (X k).1.toNat)).length (fun j => (classF n f (f (X k).1.toNat))[j]?.getD 0) := fun k => by
    obtain ⟨h1, h2⟩ := h.rws.row _ (hX k).1
    obtain ⟨gk, ck, e1, e2, e3⟩ := ints_slice h2 (rep_len hP h1).1
    exact ⟨gk, ck, e1, e2, e3.1, e3.below hb13⟩
  refine ⟨blk, cap, fun k => slv (X k).2, fun k => ((f (X k).1.toNat : Nat) : Int), hv, hbb, hblt, fun k => ?_, fun j hj => ⟨?_, hfz j⟩, ?_⟩
  · obtain ⟨gk, ck, e1, e2, e3, e4⟩ := info k
    have hrp := rep_len hP (h.rws.row _ (hX k).1).1
    refine ⟨gk, _, ck, e1, hrp.1, e4.1, by omega, ?_⟩
    rw [(e4.2 0 hrp.1).1]
    show some (Value.int .i64 ((classF n f (f (X k).1.toNat))[0]?.getD 0)) = _
    rw [hrp.2]
  · show _ = some (slv (X j).2)
    rw [(hX j).2 hj]
    exact hcs j _ (by rw [List.getElem?_map, List.getElem?_eq_getElem hj]; rfl)
  · rintro w4 ⟨d, hp, hs, hcell, hgr⟩
    have hreps : d.map (fun k => f (X k).1.toNat) = repsF n f := sorted_reps hp hs (fun k _ => (h.rws.row _ (hX k).1).1)
      (fun i j hi hj e => h.rws.inj i j hi hj (by rw [← (hX i).2 hi, ← (hX j).2 hj]; exact e))
      (fun r hr => by obtain ⟨k, hk, e⟩ := h.rws.all r hr; exact ⟨k, hk, by rw [(hX k).2 hk]; exact e⟩)
    have hdl : d.length = xs.length := by rw [hp.length_eq]; simp
    have hcl : (classesF n f).length = xs.length := by rw [classesF_len, ← hreps, List.length_map, hdl]
    have hat : ∀ k (hk : k < d.length) (hk' : k < (classesF n f).length), (classesF n f)[k] = classF n f (f (X d[k]).1.toNat) := fun k hk hk' => by
      have h1 : k < (repsF n f).length := by rw [classesF_len] at hk'; exact hk'
      rw [classesF_at hk' h1]
      have : (repsF n f)[k] = f (X d[k]).1.toNat := by
        have h2 : k < (d.map (fun k => f (X k).1.toNat)).length := by rw [List.length_map]; exact hk
        have h3 : (d.map (fun k => f (X k).1.toNat))[k] = (repsF n f)[k] := by simp only [hreps]
        rw [← h3, List.getElem_map]
      rw [this]
    refine ⟨some ⟨blk, 0, none⟩, cap, by rw [hcl]; exact hv, fun _ => ⟨blk, rfl, by omega, Nat.lt_of_lt_of_le hblt hgr.size, fun k => ((slv (X (d[k]?.getD 0)).2).ownBlock).getD 0, fun k hk => ?_, fun i j hi hj hne => ?_⟩⟩
    · have hkd : k < d.length := by omega
      obtain ⟨gk, ck, e1, e2, e3, e4⟩ := info d[k]
      have hrp := rep_len hP (h.rws.row _ (hX d[k]).1).1
      simp only [List.getElem?_eq_getElem hkd, Option.getD_some, hat k hkd hk]
      rw [e1]
      refine ⟨ck, ?_, by show w.heap.size ≤ gk; omega, by show gk ≠ blk; omega, hrp.1, ?_⟩
      · rw [(hcell k hkd).1]
        show some (slv (X d[k]).2) = _
        rw [e1]
        rfl
      · exact e4.grown hgr (fun e => by have := Option.some.inj e; omega)
    · have hi' : i < d.length := by omega
      have hj' : j < d.length := by omega
      obtain ⟨gi, ci, a1, _⟩ := info d[i]
      obtain ⟨gj, cj, a2, _⟩ := info d[j]
      have hdi : d[i] < xs.length := by have := hp.mem_iff.1 (List.getElem_mem hi'); simpa using this
      have hdj : d[j] < xs.length := by have := hp.mem_iff.1 (List.getElem_mem hj'); simpa using this
      have hdne : d[i] ≠ d[j] := fun e => hne (by
        have hnd : d.Nodup := hp.nodup_iff.2 List.nodup_range
        rcases Nat.lt_trichotomy i j with h1 | h1 | h1
        · exact absurd e (List.pairwise_iff_getElem.1 hnd i j hi' hj' h1)
        · exact h1
        · exact absurd e.symm (List.pairwise_iff_getElem.1 hnd j i hj' hi' h1))
      have hap := h.rws.apart d[i] d[j] hdi hdj hdne
      rw [← (hX d[i]).2 hdi, ← (hX d[j]).2 hdj, a1, a2] at hap
      simp only [List.getElem?_eq_getElem hi', List.getElem?_eq_getElem hj', Option.getD_some, a1, a2]
      rcases hap with e | e
      · cases e
      · intro e2
        exact e (by show some gi = some gj; rw [show gi = gj from e2])

set_option maxHeartbeats 1000000 in
set_option maxRecDepth 100000 in
theorem pclasses_px (b g n : Nat) (f rt : Nat → Nat) (c : Nat) (w : World) (hn : n ≤ 1000) (hP : Pt n f) (hx : PX w b g n f rt c) :
    Calls Try.prog 20 #[.pointer (some ⟨b, 0, none⟩)] w fun e w' => ∃ v, e = .returned v ∧ ClsIs b g n f rt c w w' v := by
  have c0 := hx.box
  obtain ⟨hlb, hlg, _⟩ := hx.lt
  have HG := hid (gather_any b g n f rt c w hn hx)
  have HP := hid hP
  clear hx hP
  go_enter Try.func20, Try.ntmps20
  go_wp2_with fail
  refine HG.out.mono ?_
  rintro e w1 ⟨rfl, h1⟩
  have H1 := hid h1
  clear h1 HG c0
  go_wp2_with fail
  refine (values_any _ _).mono ?_
  rintro e w2 ⟨rfl, hw2⟩
  obtain ⟨D, hO, hD⟩ := H1.out.2.1
  obtain ⟨D', hH⟩ := groups_held hO
  have hb12 : Below w1.heap.size w1 w2 := by rw [hw2]; exact (Below.refl _ _).alloc (Nat.le_refl _) _
  have hs2 : w2.heap.size = w1.heap.size + 1 := by rw [hw2]; simp
  have o2 : w2.heap[w1.heap.size]? = some (.cells #[.map (some w.heap.size)] 65) := by rw [hw2]; exact heap_alloc_new _ _
  have HC := hid (collect_vals w1.heap.size w.heap.size n D' w2 (Nat.le_trans (size_held hH.owns) hn) (by omega) (cell_of_heap o2 0) (ownsMap_below hH.owns hb12))
  have HPre : Hid (∀ w3 v xs, Came1 D' xs → w3.ownsRow w2.heap.size 42 1 v xs.length (xs.map (fun x => slv x.2)) → Below w2.heap.size w2 w3 → Pre b g n f rt c w w1 w2 w3 v xs) := fun w3 v xs hC hr hb => ⟨H1.out.1, came_rows H1.out.1 HP.out hD hH hC, H1.out.2.2.1, hb12, hb, hr⟩
  have HS2 := hid hs2
  clear H1 hO hD hH hb12 hw2 o2 hs2
  go_wp2_with fail
  refine HC.out.mono ?_
  rintro e w3 ⟨v, rfl, hv⟩
  obtain ⟨xs, hC, hrow, hb23⟩ := hv
  have HR := hid (HPre.out w3 v xs hC hrow hb23)
  obtain ⟨N, hNe⟩ := ex_eq xs.length
  clear HC HPre hC hb23
  by_cases h0 : 0 < xs.length
  · obtain ⟨blk, cap, V, hd, rfl, hbb, hblt, hV, hcell, hend⟩ := HR.out.sort HP.out h0
    have hN : xs.length ≤ 1000 := by
      have h2 : xs.length ≤ (repsF n f).length := by
        have hnd : (xs.map (fun x => ((f x.1.toNat : Nat) : Int))).Nodup := by
          show List.Pairwise _ _
          rw [List.pairwise_iff_getElem]
          intro i j hi hj hij e
          rw [List.getElem_map, List.getElem_map] at e
          have := HR.out.rws.inj i j (by simpa using hi) (by simpa using hj) (by omega)
          omega
        have := len_le_of_subI (b := (repsF n f).map (fun i : Nat => (i : Int))) hnd (fun e he => by
          obtain ⟨x, hxm, rfl⟩ := List.mem_map.1 he
          exact List.mem_map.2 ⟨_, (HR.out.rws.row x hxm).1, rfl⟩)
        simpa using this
      exact Nat.le_trans h2 (Nat.le_trans (reps_len n f) hn)
    have HSo := hid (sort_rows blk xs.length cap V hd w3 hN hblt hV hcell)
    have HE : Hid (∀ w4, SortIs w3 w4 blk xs.length V hd → ClsIs b g n f rt c w w4 (.slice (some ⟨blk, 0, none⟩) xs.length cap)) := fun w4 hs => by
      have hgr : w3.grownBy w4 (some blk) := by obtain ⟨d, _, _, _, h4⟩ := hs; exact h4
      obtain ⟨e1, e2⟩ := HR.out.end hgr (fun k hk => by cases hk; exact hbb) hlb hlg
      exact ⟨e1, hend w4 hs, e2⟩
    rw [← hNe] at HSo HE
    rw [← hNe]
    clear hrow hV hcell hend h0 hN hNe HR HP
    go_wp2_with fail
    refine HSo.out.mono ?_
    rintro e w4 ⟨rfl, hs⟩
    have HX := hid (HE.out w4 hs)
    clear hs HE HSo
    go_wp2
    go_ret
    exact ⟨_, rfl, HX.out⟩
  · have hx0 : xs.length = 0 := by omega
    obtain ⟨a, cp, rfl, _⟩ := sl_own hrow
    have HX : Hid (ClsIs b g n f rt c w w3 (.slice a 0 cp)) := by
      obtain ⟨e1, e2⟩ := HR.out.end (w4 := w3) (row := none) ⟨rfl, rfl, rfl, Nat.le_refl _, fun _ _ _ => rfl⟩ (fun k hk => by cases hk) hlb hlg
      refine ⟨e1, ?_, e2⟩
      rw [HR.out.len hx0]
      exact ⟨a, cp, rfl, fun h => absurd h (by simp)⟩
    have HSo : Hid (Calls Try.prog 35 #[.slice a 0 cp, .func (.func 36) #[] #[]] w3 fun e w' => e = .returned (.tuple #[]) ∧ w' = w3) := by
      have := AnyF.slices_SortFunc_none (P := Try.prog) { Try.sortE with } a cp (.func (.func 36) #[] #[]) w3
      exact this
    rw [hx0]
    clear hrow HR HP h0 hx0 hNe
    go_wp2_with fail
    refine HSo.out.mono ?_
    rintro e w4 ⟨rfl, rfl⟩
    go_wp2
    go_ret
    exact ⟨_, rfl, HX.out⟩
end Go.Proofs.Ythakjmfjbibbjaa
