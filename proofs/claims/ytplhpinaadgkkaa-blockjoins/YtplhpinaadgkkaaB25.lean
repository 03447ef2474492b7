/-
  carcanetlaw04.PartTells answers true, for any part that keeps the contracts.
  carcanetlaw04.PartOrder answers true, for any part that keeps the contracts.
  The document's components (Of of layer 4).
  carcanetlaw04.PartCounts answers true, for any part that keeps the contracts.
  The program's Classes of layer 4.
  The program's Classes of layer 4: the walk.
  The program's Of of layer 4, and all its calls together.
  The program's components, with what is known of their slices.
-/
import Derived.Test.YtplhpinaadgkkaaB15
import Derived.Test.YtplhpinaadgkkaaB14
import Derived.Test.YtplhpinaadgkkaaB09
import Derived.Test.YtplhpinaadgkkaaB17
import Derived.Test.YtplhpinaadgkkaaB12
namespace Go.Proofs.Ytplhpinaadgkkaa
open Go.RowKit Go.Lib

theorem EAt.at2 {w : World} {a : Option Addr} {l : List (Int × Int)} (h : EAt w a l) {k : Nat} (hk : k < l.length) : ∃ g off, a = some ⟨g, off, none⟩ ∧ g < w.heap.size ∧ w.cell? ⟨g, off + k * 2, none⟩ = some (.int .i64 l[k].1) ∧ w.cell? ⟨g, off + k * 2 + 1, none⟩ = some (.int .i64 l[k].2) := by
  obtain ⟨g, off, ha, hg, hc⟩ := h (by omega)
  exact ⟨g, off, ha, hg, (hc k hk).1, (hc k hk).2⟩
/-- Both parts, side by side. -/
structure TwoP (PA : World → Addr → Nat → (Nat → Nat) → (Nat → Prop) → Prop) (u w : World) (b0 : Nat) (p : Addr) (b g : Nat) (a : Option Addr) (n cap : Nat) (f : Nat → Nat) (S : Nat → Prop) : Prop where
  pa : PA w p n f S
  ge : ∀ k, S k → b0 ≤ k
  nb : ¬ S b
  ng : 0 < n → ¬ S g
  qa : QAt w b g a n cap f
  qb : b0 ≤ b
  qg : b0 ≤ g
  bel : Below b0 u w
theorem TwoP.next {PA : World → Addr → Nat → (Nat → Nat) → (Nat → Prop) → Prop} {u w w' : World} {b0 : Nat} {p : Addr} {b g : Nat} {a : Option Addr} {n cap : Nat} {f f' : Nat → Nat} {S : Nat → Prop} (h : TwoP PA u w b0 p b g a n cap f S) (hN : PNext PA S w w' p n f') (h0 : b0 ≤ u.heap.size) :
    ∃ S', PA w' p n f' S' ∧ (∀ k, S' k → b0 ≤ k) ∧ ¬ S' b ∧ (0 < n → ¬ S' g) ∧ QAt w' b g a n cap f ∧ Below b0 u w' := by
  obtain ⟨S', h1, h2, h3, h4, h5⟩ := hN.step h.ge h.bel (Nat.le_trans h0 h.bel.size)
  have hbl := block_lt_of_cell h.qa.box
  refine ⟨S', h1, h2, fun e => (h5 b e).elim h.nb (fun e => by simp at hbl; omega), fun hn e => (h5 g e).elim (h.ng hn) (fun e => by have := (h.qa.row hn).2.1; omega), h.qa.kept h4 h.nb h.ng, h3⟩
theorem TwoP.same {PA : World → Addr → Nat → (Nat → Nat) → (Nat → Prop) → Prop} {u w w' : World} {b0 : Nat} {p : Addr} {b g : Nat} {a : Option Addr} {n cap : Nat} {f : Nat → Nat} {S : Nat → Prop} (h : TwoP PA u w b0 p b g a n cap f S) (hN : PNext PA S w w' p n f) (h0 : b0 ≤ u.heap.size) : ∃ S', TwoP PA u w' b0 p b g a n cap f S' := by
  obtain ⟨S', h1, h2, h3, h4, h5, h6⟩ := h.next hN h0
  exact ⟨S', h1, h2, h3, h4, h5, h.qb, h.qg, h6⟩
end Go.Proofs.Ytplhpinaadgkkaa
namespace Go.Proofs.Ytplhpinaadgkkaa
open Go.RowKit Go.Lib

/-- Two parts, side by side. -/
structure PPr (PA : World → Addr → Nat → (Nat → Nat) → (Nat → Prop) → Prop) (u w : World) (b0 : Nat) (p q : Addr) (m : Nat) (f h : Nat → Nat) (S T : Nat → Prop) : Prop where
  pa : PA w p m f S
  qa : PA w q m h T
  sep : ∀ k, S k → ¬ T k
  geS : ∀ k, S k → b0 ≤ k
  geT : ∀ k, T k → b0 ≤ k
  bel : Below b0 u w
theorem PPr.turn {PA : World → Addr → Nat → (Nat → Nat) → (Nat → Prop) → Prop} {u w : World} {b0 : Nat} {p q : Addr} {m : Nat} {f h : Nat → Nat} {S T : Nat → Prop} (H : PPr PA u w b0 p q m f h S T) : PPr PA u w b0 q p m h f T S := ⟨H.qa, H.pa, fun k hk e => H.sep k e hk, H.geT, H.geS, H.bel⟩
end Go.Proofs.Ytplhpinaadgkkaa
namespace Go.Proofs.Ytplhpinaadgkkaa
open Go.RowKit Go.Lib

theorem RowB.kept {S : Nat → Prop} {w w' : World} {g n : Nat} {c : Nat → Bool} (h : RowB w g n c) (hk : KeptBut S w w') (hs : ¬ S g) : RowB w' g n c :=
  ⟨Nat.lt_of_lt_of_le h.1 hk.size, fun j hj => ⟨(hk.cell (p := ⟨g, j, none⟩) h.1 hs).trans (h.2 j hj).1, (hk.frozen (p := ⟨g, j, none⟩) h.1 hs).trans (h.2 j hj).2⟩⟩
theorem own_oneI (w : World) (x : Int) : (w.alloc (.cells #[.int .i64 x] 3 (0, 0))).ownsRow w.heap.size 3 1 (.slice (some ⟨w.heap.size, 0, none⟩) 1 1) 1 [.int .i64 x] :=
  ⟨rfl, Or.inr ⟨w.heap.size, 1, #[.int .i64 x], rfl, Nat.le_refl _, heap_alloc_new _ _, Nat.le_refl _, by unfold maxLen; omega, rfl, rfl⟩⟩
theorem own_cell {w : World} {base : Nat} {e : TypeId} {v : Value} {ls : List Int} (h : w.ownsRow base e 1 v ls.length (ls.map (Value.int .i64))) {i : Nat} (hi : i < ls.length) : ∃ g cap, v = .slice (some ⟨g, 0, none⟩) ls.length cap ∧ base ≤ g ∧ w.cell? ⟨g, i, none⟩ = some (.int .i64 ls[i]) := by
  obtain ⟨g, cap, hv, hb, hg, hc, hcs⟩ := own_row h (by omega)
  exact ⟨g, cap, hv, hb, hcs i _ (by simp [hi])⟩
end Go.Proofs.Ytplhpinaadgkkaa
namespace Go.Proofs.Ytplhpinaadgkkaa
open Go.RowKit Go.Lib

theorem classesF_len (n : Nat) (f : Nat → Nat) : (classesF n f).length = (repsF n f).length := by unfold classesF; rw [List.length_map]
theorem classesF_at {n : Nat} {f : Nat → Nat} {i : Nat} (h : i < (classesF n f).length) (h' : i < (repsF n f).length) : (classesF n f)[i] = classF n f (repsF n f)[i] := by
  simp [classesF]
end Go.Proofs.Ytplhpinaadgkkaa
namespace Go.Proofs.Ytplhpinaadgkkaa
open Go.RowKit Go.Lib Go.Shelf Go.Maps

/-- Rows of numbers of their own, each in a block of its own, that may be written. -/
def RowsOwn (w : World) (base : Nat) (v : Value) (LL : List (List Int)) : Prop :=
  ∃ a cap, v = .slice a LL.length cap ∧ (0 < LL.length → ∃ blk, a = some ⟨blk, 0, none⟩ ∧ base ≤ blk ∧ blk < w.heap.size ∧ ∃ gs : Nat → Nat,
    (∀ k (hk : k < LL.length), ∃ ck, w.cell? ⟨blk, k, none⟩ = some (.slice (some ⟨gs k, 0, none⟩) LL[k].length ck) ∧ base ≤ gs k ∧ gs k ≠ blk ∧ 0 < LL[k].length ∧ Row1 w (gs k) LL[k].length (fun j => LL[k][j]?.getD 0) ∧ LL[k].length ≤ ck) ∧
    ∀ i j, i < LL.length → j < LL.length → i ≠ j → gs i ≠ gs j)
theorem RowsOwn.in {w : World} {base : Nat} {v : Value} {LL : List (List Int)} (h : RowsOwn w base v LL) : ∃ a cap, v = .slice a LL.length cap ∧ LLIn w (fun k => base ≤ k) a LL := by
  obtain ⟨a, cap, hv, h⟩ := h
  refine ⟨a, cap, hv, fun h0 => ?_⟩
  obtain ⟨blk, ha, hb, hlt, gs, hr, _⟩ := h h0
  refine ⟨blk, 0, ha, hlt, hb, fun k hk => ?_⟩
  obtain ⟨ck, h1, h2, _, _, h4, _⟩ := hr k hk
  refine ⟨_, ck, by rw [Nat.zero_add]; exact h1, fun _ => ⟨gs k, 0, rfl, h4.1, fun j hj => ?_⟩, fun g off e _ => by cases e; exact h2⟩
  rw [Nat.zero_add, (h4.2 j hj).1]
  simp [hj]

theorem size_held {w : World} {b n : Nat} {D' : DataW Value} (h : w.ownsMap Try.prog 3 heldR b n D') : Maps.size D' ≤ n := by
  obtain ⟨es, clock, _, _, hs, rfl⟩ := h
  simpa [Maps.size, length_sorted] using hs
theorem nodup_at {l : List Int} (h : l.Nodup) {i j : Nat} (hi : i < l.length) (hj : j < l.length) (e : l[i] = l[j]) : i = j := by
  rcases Nat.lt_trichotomy i j with h1 | h1 | h1
  · exact absurd e (List.pairwise_iff_getElem.1 h i j hi hj h1)
  · exact h1
  · exact absurd e.symm (List.pairwise_iff_getElem.1 h j i hj hi h1)
/-- What has come is the classes: of each the row of its numbers, each once. -/
structure Rws (w : World) (base n : Nat) (f : Nat → Nat) (xs : List (Int × (Option Addr × Nat × Nat))) : Prop where
  row : ∀ x ∈ xs, f x.1.toNat ∈ repsF n f ∧ w.ownsInts base 3 .i64 (slv x.2) (classF n f (f x.1.toNat))
  inj : ∀ i j (hi : i < xs.length) (hj : j < xs.length), f xs[i].1.toNat = f xs[j].1.toNat → i = j
  all : ∀ r ∈ repsF n f, ∃ k, ∃ h : k < xs.length, f xs[k].1.toNat = r
  apart : ∀ i j (hi : i < xs.length) (hj : j < xs.length), i ≠ j → (slv xs[i].2).ownBlock = none ∨ (slv xs[i].2).ownBlock ≠ (slv xs[j].2).ownBlock
theorem came_rows {w : World} {b g n B base : Nat} {f rt : Nat → Nat} {c : Nat} {D : DataW Unit} {D' : DataW Value} {xs : List (Int × (Option Addr × Nat × Nat))} (hx : PX w b g n f rt c) (hP : Pt n f) (hG : Grp D f rt n n) (hH : Held w B base n D D') (hC : Came1 D' xs) : Rws w base n f xs := by
  have key : ∀ x ∈ xs, ∃ a, a < n ∧ x.1 = (rt a : Int) := fun x hxm => by
    have h1 := (hC.2.1 x.1).1 (List.mem_map.2 ⟨x, hxm, rfl⟩)
    rw [hH.has] at h1
    obtain ⟨a, ha, e⟩ := (hG.has _).1 h1
    exact ⟨a, ha, by simpa using e⟩
  have fk : ∀ x ∈ xs, ∀ a, a < n → x.1 = (rt a : Int) → f x.1.toNat = f a := fun x _ a ha e => by rw [e, Int.toNat_natCast]; exact (hx.top_lt ha).2
  refine ⟨fun x hxm => ?_, fun i j hi hj e => ?_, fun r hr => ?_, fun i j hi hj hne => ?_⟩
  · obtain ⟨a, ha, e⟩ := key x hxm
    have hfa := fk x hxm a ha e
    rw [hfa]
    refine ⟨mem_reps.2 ⟨hP.lt ha, hP.idem a ha⟩, ?_⟩
    obtain ⟨zs, ho, hz⟩ := hH.row x.1 _ (hC.2.2 x hxm)
    rw [e, hG.at a ha] at hz
    have : zs = partTo f (f a) n := rowD_of ho hz.symm
    rw [this] at ho
    exact ho
  · obtain ⟨a, ha, e1⟩ := key _ (List.getElem_mem hi)
    obtain ⟨a', ha', e2⟩ := key _ (List.getElem_mem hj)
    rw [fk _ (List.getElem_mem hi) a ha e1, fk _ (List.getElem_mem hj) a' ha' e2] at e
    have hrt := (hx.same ha ha').2 e
    have hkk : (xs.map Prod.fst)[i]'(by simpa using hi) = (xs.map Prod.fst)[j]'(by simpa using hj) := by
      rw [List.getElem_map, List.getElem_map, e1, e2, hrt]
    exact nodup_at hC.1 _ _ hkk
  · obtain ⟨hr1, hr2⟩ := mem_reps.1 hr
    have h1 : has D' (.int .i64 (rt r : Int)) = true := by rw [hH.has]; exact (hG.has _).2 ⟨r, hr1, rfl⟩
    obtain ⟨x, hxm, e⟩ := List.mem_map.1 ((hC.2.1 _).2 h1)
    obtain ⟨k, hk, rfl⟩ := List.getElem_of_mem hxm
    exact ⟨k, hk, (fk _ hxm r hr1 e).trans hr2⟩
  · refine hH.apart xs[i].1 xs[j].1 _ _ (fun e => hne ?_) (hC.2.2 _ (List.getElem_mem hi)) (hC.2.2 _ (List.getElem_mem hj))
    have hkk : (xs.map Prod.fst)[i]'(by simpa using hi) = (xs.map Prod.fst)[j]'(by simpa using hj) := by
      rw [List.getElem_map, List.getElem_map, e]
    exact nodup_at hC.1 _ _ hkk
/-- In the order of their first numbers they are the classes in their order. -/
theorem sorted_reps {n N : Nat} {f rep : Nat → Nat} {d : List Nat} (hp : d.Perm (List.range N)) (hs : d.Pairwise (fun x y => ¬ ((rep y : Int)) < (rep x : Int))) (hin : ∀ k, k < N → rep k ∈ repsF n f) (hinj : ∀ i j, i < N → j < N → rep i = rep j → i = j) (hall : ∀ r ∈ repsF n f, ∃ k, k < N ∧ rep k = r) : d.map rep = repsF n f := by
  have hnd : d.Nodup := hp.nodup_iff.2 List.nodup_range
  have hlt : ∀ k ∈ d, k < N := fun k hk => by simpa using hp.mem_iff.1 hk
  have h1 : (d.map (fun k => (rep k : Int))).Pairwise (· < ·) := by
    rw [List.pairwise_map]
    have := List.Pairwise.and hs hnd
    refine List.Pairwise.imp_of_mem (fun {a b} ha hb h => ?_) this
    have hne : rep a ≠ rep b := fun e => h.2 (hinj a b (hlt a ha) (hlt b hb) e)
    omega
  have h2 : ((repsF n f).map (fun i : Nat => (i : Int))).Pairwise (· < ·) := by
    rw [List.pairwise_map]
    exact (reps_rises n f).imp (fun h => by omega)
  have h3 := rise_one h1 h2 (fun e => by
    rw [List.mem_map, List.mem_map]
    constructor
    · rintro ⟨k, hk, rfl⟩; exact ⟨rep k, hin k (hlt k hk), rfl⟩
    · rintro ⟨r, hr, rfl⟩
      obtain ⟨k, hk, rfl⟩ := hall r hr
      exact ⟨k, hp.mem_iff.2 (by simpa using hk), rfl⟩)
  have h4 : (d.map rep).map (fun i : Nat => (i : Int)) = (repsF n f).map (fun i : Nat => (i : Int)) := by rw [List.map_map]; exact h3
  exact (List.map_inj_right (fun a b hab => by omega)).1 h4
theorem ints_slice {w : World} {base : Nat} {e : TypeId} {v : Value} {zs : List Int} (h : w.ownsInts base e .i64 v zs) (h0 : 0 < zs.length) : ∃ g cap, v = .slice (some ⟨g, 0, none⟩) zs.length cap ∧ base ≤ g ∧ Row1 w g zs.length (fun j => zs[j]?.getD 0) ∧ zs.length ≤ cap := by
  rcases h.1.2 with ⟨_, h1⟩ | ⟨g, cap, cur, hv, hb, _, hc, _⟩
  · omega
  · subst hv
    exact ⟨g, cap, rfl, hb, row1_own h.1 rfl, hc⟩
theorem Row1.grown {w w' : World} {row : Option Nat} {g n : Nat} {c : Nat → Int} (h : Row1 w g n c) (hg : w.grownBy w' row) (hne : some g ≠ row) : Row1 w' g n c :=
  ⟨Nat.lt_of_lt_of_le h.1 hg.size, fun j hj => ⟨(World.cell?_of_block (w := w) (a := ⟨g, j, none⟩) (hg.block g h.1 hne)).trans (h.2 j hj).1, (World.frozen?_of_block (w := w) (a := ⟨g, j, none⟩) (hg.block g h.1 hne)).trans (h.2 j hj).2⟩⟩
theorem Row1.below {w w' : World} {g n : Nat} {c : Nat → Int} (h : Row1 w g n c) (hb : Below w.heap.size w w') : Row1 w' g n c := h.grown (grown_of_below hb) (by simp)
end Go.Proofs.Ytplhpinaadgkkaa
namespace Go.Proofs.Ytplhpinaadgkkaa
open Go.RowKit Go.Lib Go.Shelf Go.Maps

/-- What Classes leaves: the part as it was, and rows of their own. -/
def ClsIs (b g n : Nat) (f rt : Nat → Nat) (c : Nat) (w w' : World) (v : Value) : Prop := PX w' b g n f rt c ∧ RowsOwn w' w.heap.size v (classesF n f) ∧ KeptBut (fun k => k = g) w w'
/-- Ahead of the sort: all that was collected. -/
structure Pre (b g n : Nat) (f rt : Nat → Nat) (c : Nat) (w w1 w2 w3 : World) (v : Value) (xs : List (Int × (Option Addr × Nat × Nat))) : Prop where
  px : PX w1 b g n f rt c
  rws : Rws w1 (w.heap.size + 1) n f xs
  kept : KeptBut (fun k => k = g) w w1
  b12 : Below w1.heap.size w1 w2
  b23 : Below w2.heap.size w2 w3
  row : w3.ownsRow w2.heap.size 28 1 v xs.length (xs.map (fun x => slv x.2))
theorem Pre.lt {b g n : Nat} {f rt : Nat → Nat} {c : Nat} {w w1 w2 w3 : World} {v : Value} {xs : List (Int × (Option Addr × Nat × Nat))} (h : Pre b g n f rt c w w1 w2 w3 v xs) : w.heap.size ≤ w1.heap.size ∧ w1.heap.size ≤ w2.heap.size ∧ w2.heap.size ≤ w3.heap.size := ⟨h.kept.size, h.b12.size, h.b23.size⟩
theorem Pre.len {b g n : Nat} {f rt : Nat → Nat} {c : Nat} {w w1 w2 w3 : World} {v : Value} {xs : List (Int × (Option Addr × Nat × Nat))} (h : Pre b g n f rt c w w1 w2 w3 v xs) : xs.length = 0 → (classesF n f) = [] := fun h0 => by
  have : repsF n f = [] := by
    cases hr : repsF n f with
    | nil => rfl
    | cons r l => obtain ⟨k, hk, _⟩ := h.rws.all r (by rw [hr]; simp); omega
  unfold classesF
  rw [this]
  rfl
/-- Behind the sort. -/
theorem Pre.end {b g n : Nat} {f rt : Nat → Nat} {c : Nat} {w w1 w2 w3 w4 : World} {v : Value} {xs : List (Int × (Option Addr × Nat × Nat))} (h : Pre b g n f rt c w w1 w2 w3 v xs) {row : Option Nat} (hg : w3.grownBy w4 row) (hr : ∀ k, row = some k → w2.heap.size ≤ k) (hb : b < w.heap.size) (hgl : g < w.heap.size) : PX w4 b g n f rt c ∧ KeptBut (fun k => k = g) w w4 := by
  obtain ⟨l1, l2, l3⟩ := h.lt
  have k13 : KeptBut (fun k => w1.heap.size ≤ k) w1 w3 := KeptBut.of_below (h.b12.trans (h.b23.mono l2))
  have k34 : KeptBut (fun k => w1.heap.size ≤ k) w3 w4 := KeptBut.one hg (fun k hk => Nat.le_trans l2 (hr k hk))
  have k14 := k13.trans k34
  refine ⟨h.px.kept k14 (by omega) (by omega), ⟨k14.os.trans h.kept.os, k14.tape.trans h.kept.tape, k14.output.trans h.kept.output, Nat.le_trans l1 k14.size, fun i hi hne => (k14.block i (by omega) (by omega)).trans (h.kept.block i hi hne)⟩⟩

theorem rep_len {n : Nat} {f : Nat → Nat} (hP : Pt n f) {r : Nat} (hr : r ∈ repsF n f) : 0 < (classF n f r).length ∧ (classF n f r)[0]?.getD 0 = (r : Int) := by
  obtain ⟨l, hl⟩ := class_head hP hr
  rw [hl]
  exact ⟨by simp, rfl⟩
/-- What the sort is handed, and what comes of it. -/
theorem Pre.sort {b g n : Nat} {f rt : Nat → Nat} {c : Nat} {w w1 w2 w3 : World} {v : Value} {xs : List (Int × (Option Addr × Nat × Nat))} (h : Pre b g n f rt c w w1 w2 w3 v xs) (hP : Pt n f) (h0 : 0 < xs.length) :
    ∃ (blk cap : Nat) (V : Nat → Value) (hd : Nat → Int), v = .slice (some ⟨blk, 0, none⟩) xs.length cap ∧ w2.heap.size ≤ blk ∧ blk < w3.heap.size ∧ Heads w3 blk V hd ∧ (∀ j, j < xs.length → w3.cell? ⟨blk, j, none⟩ = some (V j) ∧ w3.frozen? ⟨blk, j, none⟩ = false) ∧
      ∀ w4, SortIs w3 w4 blk xs.length V hd → RowsOwn w4 w.heap.size v (classesF n f) := by
  obtain ⟨l1, l2, l3⟩ := h.lt
  have hb13 : Below w1.heap.size w1 w3 := h.b12.trans (h.b23.mono l2)
  obtain ⟨blk, cap, hv, hbb, hblt, hcap, hcs⟩ := own_row h.row h0
  have hfz : ∀ j, w3.frozen? ⟨blk, j, none⟩ = false := fun j => by
    rcases h.row.2 with ⟨hv', _⟩ | ⟨g', cap', cur, hv', _, hgb, _⟩
    · rw [hv] at hv'; simp at hv'
    · rw [hv] at hv'
      simp only [Value.slice.injEq, Option.some.injEq, Addr.mk.injEq, and_true, true_and] at hv'
      obtain ⟨rfl, _⟩ := hv'
      exact frozen_of_heap hgb _
  obtain ⟨X, hX⟩ : ∃ X : Nat → Int × (Option Addr × Nat × Nat), ∀ k, X k ∈ xs ∧ ∀ h : k < xs.length, X k = xs[k] := ⟨fun k => xs[k]?.getD xs[0], fun k => by
    show xs[k]?.getD xs[0] ∈ xs ∧ ∀ h : k < xs.length, xs[k]?.getD xs[0] = xs[k]
    by_cases hk : k < xs.length
    · rw [List.getElem?_eq_getElem hk]; exact ⟨List.getElem_mem hk, fun _ => rfl⟩
    · rw [List.getElem?_eq_none (by omega)]; exact ⟨List.getElem_mem h0, fun h => absurd h hk⟩⟩
  have info : ∀ k, ∃ gk ck, slv (X k).2 = .slice (some ⟨gk, 0, none⟩) (classF n f (f (X k).1.toNat)).length ck ∧ w.heap.size + 1 ≤ gk ∧ gk < w1.heap.size ∧ Row1 w3 gk (classF n f (f (X k).1.toNat)).length (fun j => (classF n f (f (X k).1.toNat))[j]?.getD 0) ∧ (classF n f (f (X k).1.toNat)).length ≤ ck := fun k => by
    obtain ⟨h1, h2⟩ := h.rws.row _ (hX k).1
    obtain ⟨gk, ck, e1, e2, e3, e5⟩ := ints_slice h2 (rep_len hP h1).1
    exact ⟨gk, ck, e1, e2, e3.1, e3.below hb13, e5⟩
  refine ⟨blk, cap, fun k => slv (X k).2, fun k => ((f (X k).1.toNat : Nat) : Int), hv, hbb, hblt, fun k => ?_, fun j hj => ⟨?_, hfz j⟩, ?_⟩
  · obtain ⟨gk, ck, e1, e2, e3, e4, _⟩ := info k
    have hrp := rep_len hP (h.rws.row _ (hX k).1).1
    refine ⟨gk, _, ck, e1, hrp.1, e4.1, by omega, ?_⟩
    rw [(e4.2 0 hrp.1).1]
    show some (Value.int .i64 ((classF n f (f (X k).1.toNat))[0]?.getD 0)) = _
    rw [hrp.2]
  · show _ = some (slv (X j).2)
    rw [(hX j).2 hj]
    exact hcs j _ (by rw [List.getElem?_map, List.getElem?_eq_getElem hj]; rfl)
  · rintro w4 ⟨d, hp, hs, hcell, hgr⟩
    have hreps : d.map (fun k => f (X k).1.toNat) = repsF n f := sorted_reps hp hs (fun k _ => (h.rws.row _ (hX k).1).1)
      (fun i j hi hj e => h.rws.inj i j hi hj (by rw [← (hX i).2 hi, ← (hX j).2 hj]; exact e))
      (fun r hr => by obtain ⟨k, hk, e⟩ := h.rws.all r hr; exact ⟨k, hk, by rw [(hX k).2 hk]; exact e⟩)
    have hdl : d.length = xs.length := by rw [hp.length_eq]; simp
    have hcl : (classesF n f).length = xs.length := by rw [classesF_len, ← hreps, List.length_map, hdl]
    have hat : ∀ k (hk : k < d.length) (hk' : k < (classesF n f).length), (classesF n f)[k] = classF n f (f (X d[k]).1.toNat) := fun k hk hk' => by
      have h1 : k < (repsF n f).length := by rw [classesF_len] at hk'; exact hk'
      rw [classesF_at hk' h1]
      have : (repsF n f)[k] = f (X d[k]).1.toNat := by
        have h2 : k < (d.map (fun k => f (X k).1.toNat)).length := by rw [List.length_map]; exact hk
        have h3 : (d.map (fun k => f (X k).1.toNat))[k] = (repsF n f)[k] := by simp only [hreps]
        rw [← h3, List.getElem_map]
      rw [this]
    refine ⟨some ⟨blk, 0, none⟩, cap, by rw [hcl]; exact hv, fun _ => ⟨blk, rfl, by omega, Nat.lt_of_lt_of_le hblt hgr.size, fun k => ((slv (X (d[k]?.getD 0)).2).ownBlock).getD 0, fun k hk => ?_, fun i j hi hj hne => ?_⟩⟩
    · have hkd : k < d.length := by omega
      obtain ⟨gk, ck, e1, e2, e3, e4, e5⟩ := info d[k]
      have hrp := rep_len hP (h.rws.row _ (hX d[k]).1).1
      simp only [List.getElem?_eq_getElem hkd, Option.getD_some, hat k hkd hk]
      rw [e1]
      refine ⟨ck, ?_, by show w.heap.size ≤ gk; omega, by show gk ≠ blk; omega, hrp.1, ?_, e5⟩
      · rw [(hcell k hkd).1]
        show some (slv (X d[k]).2) = _
        rw [e1]
        rfl
      · exact e4.grown hgr (fun e => by have := Option.some.inj e; omega)
    · have hi' : i < d.length := by omega
      have hj' : j < d.length := by omega
      obtain ⟨gi, ci, a1, _⟩ := info d[i]
      obtain ⟨gj, cj, a2, _⟩ := info d[j]
      have hdi : d[i] < xs.length := by have := hp.mem_iff.1 (List.getElem_mem hi'); simpa using this
      have hdj : d[j] < xs.length := by have := hp.mem_iff.1 (List.getElem_mem hj'); simpa using this
      have hdne : d[i] ≠ d[j] := fun e => hne (by
        have hnd : d.Nodup := hp.nodup_iff.2 List.nodup_range
        rcases Nat.lt_trichotomy i j with h1 | h1 | h1
        · exact absurd e (List.pairwise_iff_getElem.1 hnd i j hi' hj' h1)
        · exact h1
        · exact absurd e.symm (List.pairwise_iff_getElem.1 hnd j i hj' hi' h1))
      have hap := h.rws.apart d[i] d[j] hdi hdj hdne
      rw [← (hX d[i]).2 hdi, ← (hX d[j]).2 hdj, a1, a2] at hap
      simp only [List.getElem?_eq_getElem hi', List.getElem?_eq_getElem hj', Option.getD_some, a1, a2]
      rcases hap with e | e
      · cases e
      · intro e2
        exact e (by show some gi = some gj; rw [show gi = gj from e2])

set_option maxHeartbeats 1000000 in
set_option maxRecDepth 100000 in
theorem pclasses_px (b g n : Nat) (f rt : Nat → Nat) (c : Nat) (w : World) (hn : n ≤ 1000) (hP : Pt n f) (hx : PX w b g n f rt c) :
    Calls Try.prog 40 #[.pointer (some ⟨b, 0, none⟩)] w fun e w' => ∃ v, e = .returned v ∧ ClsIs b g n f rt c w w' v := by
  have c0 := hx.box
  obtain ⟨hlb, hlg, _⟩ := hx.lt
  have HG := hid (gather_any b g n f rt c w hn hx)
  have HP := hid hP
  clear hx hP
  go_enter Try.func40, Try.ntmps40
  go_wp2_with fail
  refine HG.out.mono ?_
  rintro e w1 ⟨rfl, h1⟩
  have H1 := hid h1
  clear h1 HG c0
  go_wp2_with fail
  refine (values_any _ _).mono ?_
  rintro e w2 ⟨rfl, hw2⟩
  obtain ⟨D, hO, hD⟩ := H1.out.2.1
  obtain ⟨D', hH⟩ := groups_held hO
  have hb12 : Below w1.heap.size w1 w2 := by rw [hw2]; exact (Below.refl _ _).alloc (Nat.le_refl _) _
  have hs2 : w2.heap.size = w1.heap.size + 1 := by rw [hw2]; simp
  have o2 : w2.heap[w1.heap.size]? = some (.cells #[.map (some w.heap.size)] 95) := by rw [hw2]; exact heap_alloc_new _ _
  have HC := hid (collect_vals w1.heap.size w.heap.size n D' w2 (Nat.le_trans (size_held hH.owns) hn) (by omega) (cell_of_heap o2 0) (ownsMap_below hH.owns hb12))
  have HPre : Hid (∀ w3 v xs, Came1 D' xs → w3.ownsRow w2.heap.size 28 1 v xs.length (xs.map (fun x => slv x.2)) → Below w2.heap.size w2 w3 → Pre b g n f rt c w w1 w2 w3 v xs) := fun w3 v xs hC hr hb => ⟨H1.out.1, came_rows H1.out.1 HP.out hD hH hC, H1.out.2.2.1, hb12, hb, hr⟩
  have HS2 := hid hs2
  clear H1 hO hD hH hb12 hw2 o2 hs2
  go_wp2_with fail
  refine HC.out.mono ?_
  rintro e w3 ⟨v, rfl, hv⟩
  obtain ⟨xs, hC, hrow, hb23⟩ := hv
  have HR := hid (HPre.out w3 v xs hC hrow hb23)
  obtain ⟨N, hNe⟩ := ex_eq xs.length
  clear HC HPre hC hb23
  by_cases h0 : 0 < xs.length
  · obtain ⟨blk, cap, V, hd, rfl, hbb, hblt, hV, hcell, hend⟩ := HR.out.sort HP.out h0
    have hN : xs.length ≤ 1000 := by
      have h2 : xs.length ≤ (repsF n f).length := by
        have hnd : (xs.map (fun x => ((f x.1.toNat : Nat) : Int))).Nodup := by
          show List.Pairwise _ _
          rw [List.pairwise_iff_getElem]
          intro i j hi hj hij e
          rw [List.getElem_map, List.getElem_map] at e
          have := HR.out.rws.inj i j (by simpa using hi) (by simpa using hj) (by omega)
          omega
        have := len_le_of_subI (b := (repsF n f).map (fun i : Nat => (i : Int))) hnd (fun e he => by
          obtain ⟨x, hxm, rfl⟩ := List.mem_map.1 he
          exact List.mem_map.2 ⟨_, (HR.out.rws.row x hxm).1, rfl⟩)
        simpa using this
      exact Nat.le_trans h2 (Nat.le_trans (reps_len n f) hn)
    have HSo := hid (sort_rows blk xs.length cap V hd w3 hN hblt hV hcell)
    have HE : Hid (∀ w4, SortIs w3 w4 blk xs.length V hd → ClsIs b g n f rt c w w4 (.slice (some ⟨blk, 0, none⟩) xs.length cap)) := fun w4 hs => by
      have hgr : w3.grownBy w4 (some blk) := by obtain ⟨d, _, _, _, h4⟩ := hs; exact h4
      obtain ⟨e1, e2⟩ := HR.out.end hgr (fun k hk => by cases hk; exact hbb) hlb hlg
      exact ⟨e1, hend w4 hs, e2⟩
    rw [← hNe] at HSo HE
    rw [← hNe]
    clear hrow hV hcell hend h0 hN hNe HR HP
    go_wp2_with fail
    refine HSo.out.mono ?_
    rintro e w4 ⟨rfl, hs⟩
    have HX := hid (HE.out w4 hs)
    clear hs HE HSo
    go_wp2
    go_ret
    exact ⟨_, rfl, HX.out⟩
  · have hx0 : xs.length = 0 := by omega
    obtain ⟨a, cp, rfl, _⟩ := sl_own hrow
    have HX : Hid (ClsIs b g n f rt c w w3 (.slice a 0 cp)) := by
      obtain ⟨e1, e2⟩ := HR.out.end (w4 := w3) (row := none) ⟨rfl, rfl, rfl, Nat.le_refl _, fun _ _ _ => rfl⟩ (fun k hk => by cases hk) hlb hlg
      refine ⟨e1, ?_, e2⟩
      rw [HR.out.len hx0]
      exact ⟨a, cp, rfl, fun h => absurd h (by simp)⟩
    have HSo : Hid (Calls Try.prog 28 #[.slice a 0 cp, .func (.func 71) #[] #[]] w3 fun e w' => e = .returned (.tuple #[]) ∧ w' = w3) := by
      have := AnyF.slices_SortFunc_none (P := Try.prog) { Try.sortR with } a cp (.func (.func 71) #[] #[]) w3
      exact this
    rw [hx0]
    clear hrow HR HP h0 hx0 hNe
    go_wp2_with fail
    refine HSo.out.mono ?_
    rintro e w4 ⟨rfl, rfl⟩
    go_wp2
    go_ret
    exact ⟨_, rfl, HX.out⟩
end Go.Proofs.Ytplhpinaadgkkaa
namespace Go.Proofs.Ytplhpinaadgkkaa
open Go.RowKit Go.Lib

theorem prsN_take {es : List (Int × Int)} {k : Nat} (hk : k < es.length) : prsN (es.take (k + 1)) = prsN (es.take k) ++ [(es[k].1.toNat, es[k].2.toNat)] := by
  unfold prsN
  rw [List.take_succ_eq_append_getElem hk, List.map_append]
  rfl
theorem pairsIn_take {n : Nat} {es : List (Int × Int)} (h : PairsIn n (prsN es)) (k : Nat) : PairsIn n (prsN (es.take k)) := fun e he => h e (by
  unfold prsN at *
  rw [List.map_take] at he
  exact List.mem_of_mem_take he)
/-- The part so far. -/
def Joined (w : World) (p : Addr) (n B : Nat) (es : List (Int × Int)) : Prop := ∃ f S, PAp w p n f S ∧ Tells n f (prsN es) ∧ ∀ k, S k → B ≤ k
theorem joined_step {u w w' : World} {p : Addr} {n B k : Nat} {es : List (Int × Int)} {f : Nat → Nat} {S : Nat → Prop} {x y : Nat} (hN : PNext PAp S w w' p n (joinR n f x y)) (hT : Tells n f (prsN (es.take k))) (hin : PairsIn n (prsN es)) (hk : k < es.length) (h1 : (x : Int) = es[k].1) (h2 : (y : Int) = es[k].2) (hx : x < n) (hy : y < n) (hS : ∀ k, S k → B ≤ k) (hB : B ≤ w.heap.size) (hb : Below B u w) :
    Joined w' p n B (es.take (k + 1)) ∧ Below B u w' := by
  obtain ⟨S', hp, hs, hk2⟩ := hN
  have hJ : joinR n f (x : Int) (y : Int) = joinF f x y := by
    unfold joinR
    rw [if_pos ⟨by omega, by omega⟩, Int.toNat_natCast, Int.toNat_natCast]
  rw [hJ] at hp
  refine ⟨⟨_, S', hp, ?_, fun k hk => (hs k hk).elim (hS k) (fun e => by omega)⟩, hb.trans (hk2.below hB (fun k _ e => hS k e))⟩
  rw [prsN_take hk, ← h1, ← h2, Int.toNat_natCast, Int.toNat_natCast]
  exact tells_join hT (pairsIn_take hin k) hx hy

set_option maxHeartbeats 1000000 in
set_option maxRecDepth 100000 in
theorem joinAll_any (p : Addr) (n B : Nat) (a : Option Addr) (N cap : Nat) (es : List (Int × Int)) (w : World) (hN : N = es.length) (hR : RightG n es) (hE : ∀ W, Below B w W → EAt W a es) (hB : B ≤ w.heap.size) (hJ : Joined w p n B []) :
    Calls Try.prog 38 #[.slice a N cap, .func (.func 39) #[.pointer (some p)] #[]] w fun e w' => e = .returned (.tuple #[]) ∧ Joined w' p n B es ∧ Below B w w' := by
  have HN := hid hN
  have HR := hid hR
  have HE := hid hE
  have hNN : N ≤ 4000 := by have := hR.2.2.1; omega
  have H0 : Hid (Joined w p n B (es.take 0)) := by rw [List.take_zero]; exact hJ
  have HJ : Hid (∀ W f S (x y : Int) (r : Bool), PAp W p n f S → (r = true ↔ joinI n f x y) → Calls Try.prog 39 #[.pointer (some p), .int .i64 x, .int .i64 y] W fun e w' => e = .returned (.bool r) ∧ PNext PAp S W w' p n (joinR n f x y)) := fun W f S x y r h hr => pjoin_any W p n f S x y r h hr
  clear hN hR hE hJ
  go_enter Try.func38, Try.ntmps38
  go_wp2
  go_loopg [8] N (fun G i wz => ∃ k : Nat, k ≤ N ∧ N - k ≤ G ∧ i = .int .i64 k ∧ Hid (Joined wz p n B (es.take k)) ∧ Hid (Below B w wz))
  case atStart => exact ⟨0, Nat.zero_le _, by omega, rfl, H0, Below.refl _ _⟩
  case round =>
    obtain ⟨k, hk, hG, rfl, hJ, hb⟩ := hrel
    by_cases hlt : k < N
    · have hkr : k < es.length := by rw [← HN.out]; exact hlt
      obtain ⟨g, off, rfl, hg, hcs⟩ := HE.out wr hb.out (by omega)
      have hin := (HR.out.at k hkr).1
      obtain ⟨x, hx⟩ : ∃ x : Nat, (x : Int) = es[k].1 := ⟨es[k].1.toNat, by omega⟩
      obtain ⟨y, hy⟩ : ∃ y : Nat, (y : Int) = es[k].2 := ⟨es[k].2.toNat, by omega⟩
      have d := hcs k hkr
      rw [← hx, ← hy] at d hin
      obtain ⟨d0, d1⟩ := d
      have q1 : (k : Int) < (N : Int) := by omega
      have hxn : x < n := by omega
      have hyn : y < n := by omega
      obtain ⟨W, hW⟩ := ex_eq (wr.alloc (.cells #[.int .i64 x, .int .i64 y] 42))
      have hBr : B ≤ wr.heap.size := Nat.le_trans hB hb.out.size
      have hbW : Below B w W := by rw [hW]; exact hb.out.alloc hBr _
      have hO : W.heap[wr.heap.size]? = some (.cells #[.int .i64 x, .int .i64 y] 42 (0, 0)) := by rw [hW]; exact heap_alloc_new _ _
      have e0 := cell_of_heap hO 0
      have e1 := cell_of_heap hO 1
      obtain ⟨f, S, hp, hT, hS⟩ := hJ.out
      have hpW : PAp W p n f S := by rw [hW]; exact pap_keep hp (kept_alloc wr _ (fun _ => False)) (fun _ _ e => e)
      have hBW : B ≤ W.heap.size := Nat.le_trans hB hbW.size
      obtain ⟨r, hr⟩ := boolR_of (joinI n f x y)
      have HCJ := hid (HJ.out W f S x y r hpW hr)
      have HST : Hid (∀ w', PNext PAp S W w' p n (joinR n f x y) → Joined w' p n B (es.take (k + 1)) ∧ Below B w w') := fun w' h => joined_step h hT (prsN_in HR.out) hkr hx hy hxn hyn hS hBW hbW
      have HW := hid hW
      clear hcs hx hy hin hp hT hS hpW hr hO hW hJ hb
      go_wp2_with (rw [← HW.out])
      refine HCJ.out.mono ?_
      rintro e w4 ⟨rfl, h4⟩
      have H4 := hid (HST.out w4 h4)
      clear h4 HCJ HST
      go_wp2
      go_roundg (N - (k + 1))
      case measure => omega
      case rel => exact ⟨k + 1, by omega, Nat.le_refl _, by go_num, H4.out.1, H4.out.2⟩
    · obtain rfl : k = N := by omega
      have HX : Hid (Joined wr p n B es) := by
        have := hJ.out
        rw [HN.out, List.take_length] at this
        exact this
      clear hJ
      go_wp2
      go_end0
      exact ⟨rfl, HX.out, hb.out⟩

/-- The components, in rows that may be written. -/
def PCompR (w w' : World) (v : Value) (LL : List (List Int)) : Prop := ∃ B, w.heap.size ≤ B ∧ RowsOwn w' B v LL ∧ Below w.heap.size w w'
/-- What Classes leaves, with rows that may be written. -/
def POwn (S : Nat → Prop) (w w' : World) (p : Addr) (n : Nat) (f : Nat → Nat) (v : Value) : Prop := PAp w' p n f S ∧ RowsOwn w' w.heap.size v (classesF n f) ∧ KeptBut S w w'
theorem pclasses_own (w : World) (p : Addr) (n : Nat) (f : Nat → Nat) (S : Nat → Prop) (h : PAp w p n f S) :
    Calls Try.prog 40 #[.pointer (some p)] w fun e w' => ∃ v, e = .returned v ∧ POwn S w w' p n f v := by
  obtain ⟨b, g, rt, rfl, hx, hP, hn, hS⟩ := h
  refine (pclasses_px b g n f rt (cntF f n) w hn hP hx).mono ?_
  rintro e w1 ⟨v, rfl, h1, h2, h3⟩
  exact ⟨v, rfl, ⟨b, g, rt, rfl, h1, hP, hn, hS⟩, h2, h3.mono (fun k _ e => (hS k).2 (Or.inr e))⟩
/-- What Of leaves, of a graph that is right. -/
theorem pof_end {w w1 w2 w3 w4 : World} {n : Nat} {es : List (Int × Int)} {p : Addr} {f f' : Nat → Nat} {S : Nat → Prop} {v : Value} (hb1 : Below w.heap.size w w1) (hb2 : Below w1.heap.size w1 w2) (hb3 : Below w1.heap.size w2 w3) (hp : PAp w3 p n f' S) (hT : Tells n f' (prsN es)) (hS : ∀ k, S k → w1.heap.size ≤ k) (hP : Pt n f) (hTf : Tells n f (prsN es)) (h : POwn S w3 w4 p n f' v) : PCompR w w4 v (classesF n f) := by
  obtain ⟨_, hr, hk⟩ := h
  have hff : ∀ i, i < n → f' i = f i := tells_one (pap_own hp).1 hP hT hTf (fun e he => Cl.of he) (fun e he => Cl.of he)
  rw [classesF_congr hff] at hr
  have h13 : Below w1.heap.size w1 w3 := hb2.trans hb3
  have h14 : Below w1.heap.size w1 w4 := h13.trans (hk.below h13.size (fun k _ e => hS k e))
  have hs1 := hb1.size
  have hs3 := h13.size
  exact ⟨w3.heap.size, by omega, hr, hb1.trans (h14.mono hs1)⟩

set_option maxHeartbeats 1000000 in
set_option maxRecDepth 100000 in
theorem pofR_any (n : Int) (a : Option Addr) (cap : Nat) (es : List (Int × Int)) (b : Bool) (f : Nat → Nat) (w : World) (hN : es.length ≤ 1000000) (hE : EAt w a es) (hb : b = true ↔ RightG n es) (hf : b = true → Pt n.toNat f ∧ Tells n.toNat f (prsN es)) :
    Calls Try.prog 20 #[.agg #[.int .i64 n, .slice a es.length cap]] w fun e w' => ∃ v, e = .returned v ∧ PCompR w w' v (if b = true then classesF n.toNat f else []) := by
  obtain ⟨LL, hLL⟩ := ex_eq (if b = true then classesF n.toNat f else [])
  have HLL := hid hLL
  rw [← hLL]
  clear hLL
  obtain ⟨N, hNe⟩ := ex_eq es.length
  obtain ⟨W, hW⟩ := ex_eq (w.alloc (.cells #[.int .i64 n, .slice a es.length cap] 26))
  have hbW : Below w.heap.size w W := by rw [hW]; exact (Below.refl _ _).alloc (Nat.le_refl _) _
  have hO : W.heap[w.heap.size]? = some (.cells #[.int .i64 n, .slice a es.length cap] 26 (0, 0)) := by rw [hW]; exact heap_alloc_new _ _
  have hlt : w.heap.size < W.heap.size := (Array.getElem?_eq_some_iff.1 hO).1
  have CR : Hid (Calls Try.prog 26 #[.agg #[.int .i64 n, .slice a es.length cap]] W fun e w' => e = .returned (.bool b) ∧ Below W.heap.size W w') := right_any n a cap es b W hN (hE.below hbW) hb
  have HEW : Hid (∀ w', Below w.heap.size w w' → EAt w' a es) := fun w' h => hE.below h
  have HC : Hid (∀ w', Below W.heap.size W w' → w'.cell? ⟨w.heap.size, 0, none⟩ = some (.int .i64 n) ∧ w'.cell? ⟨w.heap.size, 1, none⟩ = some (.slice a es.length cap)) := fun w' h => by
    have o := (h.block _ hlt).trans hO
    exact ⟨cell_of_heap o 0, cell_of_heap o 1⟩
  have HBW := hid hbW
  have HW := hid hW
  have HB := hid hb
  have HF := hid hf
  have HN := hid hNe
  obtain ⟨c0, c1⟩ := HC.out W (Below.refl _ _)
  rw [← hNe] at CR HC HW c1 ⊢
  clear hNe hW hbW hO hE hb hf hN
  go_enter Try.func20, Try.ntmps20
  go_wp2_with (rw [← HW.out])
  refine CR.out.mono ?_
  rintro e w1 ⟨rfl, hb1⟩
  obtain ⟨d0, d1⟩ := HC.out w1 hb1
  have hbw1 : Below w.heap.size w w1 := HBW.out.trans (hb1.mono (by omega))
  have HB1 := hid hbw1
  have HE1 : Hid (EAt w1 a es) := HEW.out w1 hbw1
  clear hb1 hbw1 CR HW HEW c0 c1
  cases b with
  | false =>
    obtain rfl : LL = [] := by rw [HLL.out, if_neg (by simp)]
    have HX : Hid (PCompR w w1 (.slice none 0 0) []) := ⟨w.heap.size, Nat.le_refl _, ⟨none, 0, rfl, fun h => absurd h (by simp)⟩, HB1.out⟩
    clear HF HB HE1 HLL
    go_wp2
    go_ret
    exact ⟨_, rfl, HX.out⟩
  | true =>
    obtain ⟨hP, hT⟩ := HF.out rfl
    have hR := HB.out.1 rfl
    obtain ⟨m, rfl⟩ : ∃ m : Nat, n = m := ⟨n.toNat, by have := hR.1; omega⟩
    rw [Int.toNat_natCast] at hP hT
    have HLM : Hid (LL = classesF m f) := by have := HLL.out; rw [if_pos rfl, Int.toNat_natCast] at this; exact this
    clear HLL
    have hm : (m : Int) ≤ 1000 := hR.2.1
    have HP := hid hP
    have HT := hid hT
    have HR := hid hR
    have HS1 := hid HB1.out.size
    clear hP hT hR HF HB
    go_wp2_with fail
    refine (pnew_any m w1).mono ?_
    rintro e w2 ⟨p, rfl, m', S, hm', hp, hS, hb2⟩
    obtain rfl : m' = m := by omega
    have HJ : Hid (Joined w2 p m' w1.heap.size []) := ⟨_, S, hp, tells_new _, hS⟩
    have HEJ : Hid (∀ X, Below w1.heap.size w2 X → EAt X a es) := fun X h => HE1.out.below (hb2.trans h)
    have HB2 := hid hb2
    have d1' : w2.cell? ⟨w.heap.size, 1, none⟩ = some (.slice a N cap) := (hb2.cell (p := ⟨w.heap.size, 1, none⟩) (block_lt_of_cell d1)).trans d1
    have hs2 := hb2.size
    have CJ := hid (joinAll_any p m' w1.heap.size a N cap es w2 HN.out HR.out HEJ.out hs2 HJ.out)
    clear hp hS hb2 hm' hm HJ HEJ HE1 d0 d1
    go_wp2_with fail
    refine CJ.out.mono ?_
    rintro e w3 ⟨rfl, hJ3, hb3⟩
    obtain ⟨f', S', hp3, hT3, hS3⟩ := hJ3
    have CC := hid (pclasses_own w3 p m' f' S' hp3)
    have HEND : Hid (∀ w4 v, POwn S' w3 w4 p m' f' v → PCompR w w4 v (classesF m' f)) := fun w4 v h => pof_end HB1.out HB2.out hb3 hp3 hT3 hS3 HP.out HT.out h
    clear hb3 hp3 hT3 hS3 CJ d1'
    go_wp2_with fail
    refine CC.out.mono ?_
    rintro e w4 ⟨v, rfl, h4⟩
    have HX := hid (HEND.out w4 v h4)
    clear h4 HEND CC
    go_wp2
    go_ret
    exact ⟨_, rfl, by rw [HLM.out]; exact HX.out⟩

end Go.Proofs.Ytplhpinaadgkkaa
namespace Go.Proofs.Ytplhpinaadgkkaa
open Go.RowKit Go.Lib

theorem RowsOwn.lls {w : World} {base : Nat} {v : Value} {LL : List (List Int)} (h : RowsOwn w base v LL) : ∃ a cap, v = .slice a LL.length cap ∧ LLS w a LL := by
  obtain ⟨a, cap, hv, h⟩ := h
  refine ⟨a, cap, hv, fun h0 => ?_⟩
  obtain ⟨blk, ha, hb, hlt, gs, hr, _⟩ := h h0
  refine ⟨blk, 0, ha, hlt, fun k hk => ?_⟩
  obtain ⟨ck, h1, h2, _, _, h4, h5⟩ := hr k hk
  refine ⟨_, ck, by rw [Nat.zero_add]; exact h1, fun _ => ⟨gs k, 0, rfl, h4.1, fun j hj => ?_⟩, h5, (fun e => by cases e)⟩
  rw [Nat.zero_add, (h4.2 j hj).1]
  simp [hj]
theorem pofS_any (n : Int) (a : Option Addr) (cap : Nat) (es : List (Int × Int)) (b : Bool) (f : Nat → Nat) (w : World) (hN : es.length ≤ 1000000) (hE : EAt w a es) (hb : b = true ↔ RightG n es) (hf : b = true → Pt n.toNat f ∧ Tells n.toNat f (prsN es)) :
    Calls Try.prog 20 #[.agg #[.int .i64 n, .slice a es.length cap]] w fun e w' => ∃ v, e = .returned v ∧ PCompS w w' v (if b = true then classesF n.toNat f else []) :=
  (pofR_any n a cap es b f w hN hE hb hf).mono fun _ _ ⟨v, h1, B, _, h2, h3⟩ => by
    obtain ⟨x, c, hv, hL⟩ := h2.lls
    exact ⟨v, h1, x, c, hv, hL, h3⟩
end Go.Proofs.Ytplhpinaadgkkaa
