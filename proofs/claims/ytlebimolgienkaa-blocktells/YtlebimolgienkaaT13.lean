/-
  A search under way, in memory (layer 7).
  Numbers in order, in memory: slices.Sort by its contract.
  How low one comes: the program's closure keeps its contract (layer 7).
-/
import Derived.Test.YtlebimolgienkaaT12
import Derived.Test.YtlebimolgienkaaT09
import Derived.Test.YtlebimolgienkaaT08
import Derived.Lib.Walk
import Derived.ArgAppend
namespace Go.Proofs.Ytlebimolgienkaa
open Go.RowKit Go.Lib

/-- A search s in memory; v: those gone through, u: the blocks, as the variables hold them. -/
structure DMem (w W0 : World) (nr bl gn nm ct go lw D gw m : Nat) (es : List (Int × Int)) (s : Dst) (v u : Value) (us : List Value) : Prop where
  ord : W0.heap.size ≤ nr ∧ nr < bl ∧ bl < gn ∧ gn < nm ∧ nm < ct ∧ ct < go ∧ go < lw ∧ lw < D
  sz : D ≤ w.heap.size
  bel : Below W0.heap.size W0 w
  near : NearAt W0 gw m es
  cnr : w.cell? ⟨nr, 0, none⟩ = some (.slice (some ⟨gw, 0, none⟩) m m)
  cnm : w.cell? ⟨nm, 0, none⟩ = some (.slice (some ⟨gn, 0, none⟩) m m)
  cct : w.cell? ⟨ct, 0, none⟩ = some (.int .i64 s.cnt) ∧ w.frozen? ⟨ct, 0, none⟩ = false
  clw : w.cell? ⟨lw, 0, none⟩ = some (.func (.func 77) #[] #[.pointer (some ⟨ct, 0, none⟩), .pointer (some ⟨nm, 0, none⟩), .pointer (some ⟨go, 0, none⟩), .pointer (some ⟨nr, 0, none⟩), .pointer (some ⟨lw, 0, none⟩), .pointer (some ⟨bl, 0, none⟩)])
  num : Row1 w gn m s.num
  cgo : w.cell? ⟨go, 0, none⟩ = some v ∧ w.frozen? ⟨go, 0, none⟩ = false
  cbl : w.cell? ⟨bl, 0, none⟩ = some u ∧ w.frozen? ⟨bl, 0, none⟩ = false
  gone : w.ownsRow D 3 1 v s.gone.length (s.gone.map (Value.int .i64))
  blk : LLOwn w D (fun k => D ≤ k ∧ v.ownBlock ≠ some k) u us s.blk

theorem LLOwn.swap {A A' : Nat → Prop} {w : World} {base : Nat} {v : Value} {us : List Value} {LL : List (List Int)} (h : LLOwn w base A v us LL) (hA : ∀ k, k < w.heap.size → A k → A' k) : LLOwn w base A' v us LL := by
  refine ⟨h.1, h.2.1, fun g hg => hA g (h.1.lt g hg).2 (h.2.2.1 g hg), fun k hk => ?_⟩
  obtain ⟨ak, ck, h1, h2, h3⟩ := h.2.2.2 k hk
  refine ⟨ak, ck, h1, h2, fun g off e h0 => ⟨hA g ?_ (h3 g off e h0).1, (h3 g off e h0).2⟩⟩
  obtain ⟨g2, o2, e2, hg2, _⟩ := h2 h0
  rw [e] at e2
  cases e2
  exact hg2
section
variable {w W0 : World} {nr bl gn nm ct go lw D gw m : Nat} {es : List (Int × Int)} {s : Dst} {v u : Value} {us : List Value}
theorem DMem.size (h : DMem w W0 nr bl gn nm ct go lw D gw m es s v u us) : nr < w.heap.size ∧ bl < w.heap.size ∧ gn < w.heap.size ∧ nm < w.heap.size ∧ ct < w.heap.size ∧ go < w.heap.size ∧ lw < w.heap.size ∧ W0.heap.size ≤ D := by
  have := h.ord
  have := h.sz
  omega
theorem DMem.own (h : DMem w W0 nr bl gn nm ct go lw D gw m es s v u us) : (∀ k, v.ownBlock = some k → D ≤ k ∧ k < w.heap.size) ∧ (∀ k, u.ownBlock = some k → D ≤ k ∧ k < w.heap.size ∧ v.ownBlock ≠ some k) :=
  ⟨fun k hk => h.gone.lt k hk, fun k hk => ⟨(h.blk.1.lt k hk).1, (h.blk.1.lt k hk).2, (h.blk.2.2.1 k hk).2⟩⟩
/-- All that does not lie in S stays. -/
theorem DMem.kept {S : Nat → Prop} {w' : World} (h : DMem w W0 nr bl gn nm ct go lw D gw m es s v u us) (hk : KeptBut S w w') (h0 : ∀ k, k < w.heap.size → S k → W0.heap.size ≤ k)
    (n1 : ¬ S nr) (n2 : ¬ S nm) (n3 : ¬ S lw) : 
    D ≤ w'.heap.size ∧ Below W0.heap.size W0 w' ∧ w'.cell? ⟨nr, 0, none⟩ = some (.slice (some ⟨gw, 0, none⟩) m m) ∧ w'.cell? ⟨nm, 0, none⟩ = some (.slice (some ⟨gn, 0, none⟩) m m) ∧
    w'.cell? ⟨lw, 0, none⟩ = some (.func (.func 77) #[] #[.pointer (some ⟨ct, 0, none⟩), .pointer (some ⟨nm, 0, none⟩), .pointer (some ⟨go, 0, none⟩), .pointer (some ⟨nr, 0, none⟩), .pointer (some ⟨lw, 0, none⟩), .pointer (some ⟨bl, 0, none⟩)]) ∧
    (¬ S ct → w'.cell? ⟨ct, 0, none⟩ = some (.int .i64 s.cnt) ∧ w'.frozen? ⟨ct, 0, none⟩ = false) ∧ (¬ S gn → Row1 w' gn m s.num) ∧
    (¬ S go → w'.cell? ⟨go, 0, none⟩ = some v ∧ w'.frozen? ⟨go, 0, none⟩ = false) ∧ (¬ S bl → w'.cell? ⟨bl, 0, none⟩ = some u ∧ w'.frozen? ⟨bl, 0, none⟩ = false) := by
  obtain ⟨z1, z2, z3, z4, z5, z6, z7, z8⟩ := h.size
  have hs := hk.size
  have hsz := h.sz
  refine ⟨by omega, h.bel.trans (hk.below (by omega) h0), ?_, ?_, ?_, fun n => ?_, fun n => h.num.kept hk n, fun n => ?_, fun n => ?_⟩
  · rw [hk.cell (p := ⟨nr, 0, none⟩) z1 n1]; exact h.cnr
  · rw [hk.cell (p := ⟨nm, 0, none⟩) z4 n2]; exact h.cnm
  · rw [hk.cell (p := ⟨lw, 0, none⟩) z7 n3]; exact h.clw
  · rw [hk.cell (p := ⟨ct, 0, none⟩) z5 n, hk.frozen (p := ⟨ct, 0, none⟩) z5 n]; exact h.cct
  · rw [hk.cell (p := ⟨go, 0, none⟩) z6 n, hk.frozen (p := ⟨go, 0, none⟩) z6 n]; exact h.cgo
  · rw [hk.cell (p := ⟨bl, 0, none⟩) z2 n, hk.frozen (p := ⟨bl, 0, none⟩) z2 n]; exact h.cbl
theorem DMem.below {w' : World} (h : DMem w W0 nr bl gn nm ct go lw D gw m es s v u us) (hb : Below w.heap.size w w') : DMem w' W0 nr bl gn nm ct go lw D gw m es s v u us := by
  obtain ⟨a1, a2, a3, a4, a5, a6, a7, a8, a9⟩ := h.kept (KeptBut.of_whole (fun _ => False) hb) (fun _ _ k => k.elim) (fun k => k) (fun k => k) (fun k => k)
  exact ⟨h.ord, a1, a2, h.near, a3, a4, a6 (fun k => k), a5, a7 (fun k => k), a8 (fun k => k), a9 (fun k => k), own_below h.gone hb, h.blk.below hb⟩
theorem DMem.count (h : DMem w W0 nr bl gn nm ct go lw D gw m es s v u us) (c : Nat) : DMem (w.setCell ⟨ct, 0, none⟩ (.int .i64 c)) W0 nr bl gn nm ct go lw D gw m es ⟨s.num, c, s.gone, s.blk⟩ v u us := by
  have ho := h.ord
  have hk := kept_set w ⟨ct, 0, none⟩ (.int .i64 c)
  obtain ⟨a1, a2, a3, a4, a5, _, a7, a8, a9⟩ := h.kept hk (fun k _ e => by simp only at e; omega) (by simp only; omega) (by simp only; omega) (by simp only; omega)
  obtain ⟨o1, o2⟩ := h.own
  refine ⟨h.ord, a1, a2, h.near, a3, a4, ⟨World.cell?_setCell_same' _ _ _ (by rw [h.cct.1]; rfl), by rw [World.frozen?_setCell]; exact h.cct.2⟩, a5, a7 (by simp only; omega), a8 (by simp only; omega), a9 (by simp only; omega), own_kept h.gone hk (fun g hg e => ?_), h.blk.kept hk (fun k hA _ e => ?_)⟩
  · have := o1 g hg; simp only at e; omega
  · have := hA.1; simp only at e; omega
theorem DMem.number (h : DMem w W0 nr bl gn nm ct go lw D gw m es s v u us) {j : Nat} (hj : j < m) (x : Int) : DMem (w.setCell ⟨gn, j, none⟩ (.int .i64 x)) W0 nr bl gn nm ct go lw D gw m es ⟨fun i => if i = j then x else s.num i, s.cnt, s.gone, s.blk⟩ v u us := by
  have ho := h.ord
  have hk := kept_set w ⟨gn, j, none⟩ (.int .i64 x)
  obtain ⟨a1, a2, a3, a4, a5, a6, _, a8, a9⟩ := h.kept hk (fun k _ e => by simp only at e; omega) (by simp only; omega) (by simp only; omega) (by simp only; omega)
  obtain ⟨o1, o2⟩ := h.own
  refine ⟨h.ord, a1, a2, h.near, a3, a4, a6 (by simp only; omega), a5, h.num.put hj x, a8 (by simp only; omega), a9 (by simp only; omega), own_kept h.gone hk (fun g hg e => ?_), h.blk.kept hk (fun k hA _ e => ?_)⟩
  · have := o1 g hg; simp only at e; omega
  · have := hA.1; simp only at e; omega
/-- One number more gone through. -/
theorem DMem.push {wa w4 : World} {v' : Value} {x : Int} (h : DMem w W0 nr bl gn nm ct go lw D gw m es s v u us) (hb : Below w.heap.size w wa) (hown : w4.ownsRow D 3 1 v' (s.gone.length + 1) (s.gone.map (Value.int .i64) ++ [.int .i64 x])) (hg : wa.grownBy w4 v.ownBlock) (hat : v'.ownBlock = v.ownBlock ∨ v'.ownBlock = some wa.heap.size) :
    (w4.cell? ⟨go, 0, none⟩ = some v ∧ w4.frozen? ⟨go, 0, none⟩ = false) ∧ DMem (w4.setCell ⟨go, 0, none⟩ v') W0 nr bl gn nm ct go lw D gw m es ⟨s.num, s.cnt, s.gone ++ [x], s.blk⟩ v' u us := by
  have ho := h.ord
  have hsz := h.sz
  have hbs := hb.size
  obtain ⟨o1, o2⟩ := h.own
  have hk : KeptBut (fun k => some k = v.ownBlock) w w4 := (KeptBut.of_whole _ hb).trans (KeptBut.of_grown hg)
  have hne : ∀ k, k < D → ¬ some k = v.ownBlock := fun k hk e => by have := o1 k e.symm; omega
  obtain ⟨a1, a2, a3, a4, a5, a6, a7, a8, a9⟩ := h.kept hk (fun k _ e => by have := o1 k e.symm; omega) (hne _ (by omega)) (hne _ (by omega)) (hne _ (by omega))
  have a8 := a8 (hne _ (by omega))
  have hks := kept_set w4 ⟨go, 0, none⟩ v'
  have hv' : ∀ g, v'.ownBlock = some g → D ≤ g := fun g hg' => by
    rcases hat with h1 | h1
    · exact (o1 g (h1.symm.trans hg')).1
    · rw [h1] at hg'; simp at hg'; omega
  have hblk : LLOwn w4 D (fun k => D ≤ k ∧ v'.ownBlock ≠ some k) u us s.blk := by
    have h1 := h.blk.swap (A' := fun k => D ≤ k ∧ v.ownBlock ≠ some k ∧ v'.ownBlock ≠ some k) (fun k hkl hA => ⟨hA.1, hA.2, fun e => by
      rcases hat with h1 | h1
      · exact hA.2 (h1.symm.trans e)
      · rw [h1] at e; simp at e; omega⟩)
    have h2 := h1.kept hk (fun k hA _ e => hA.2.1 e.symm)
    exact h2.swap (fun k _ hA => ⟨hA.1, hA.2.2⟩)
  refine ⟨a8, ⟨h.ord, by simpa using a1, a2.setCell (p := ⟨go, 0, none⟩) (by simp only; omega) _, h.near, ?_, ?_, ?_, ?_, (a7 (hne _ (by omega))).kept hks (by simp only; omega), ⟨World.cell?_setCell_same' _ _ _ (by rw [a8.1]; rfl), by rw [World.frozen?_setCell]; exact a8.2⟩, ?_, own_kept (S := fun k => k = go) ?_ hks (fun g hg' e => ?_), hblk.kept hks (fun k hA _ e => ?_)⟩⟩
  · rw [World.cell?_setCell_other _ _ _ _ (by simp <;> omega)]; exact a3
  · rw [World.cell?_setCell_other _ _ _ _ (by simp <;> omega)]; exact a4
  · rw [World.cell?_setCell_other _ _ _ _ (by simp <;> omega), World.frozen?_setCell]; exact a6 (hne _ (by omega))
  · rw [World.cell?_setCell_other _ _ _ _ (by simp <;> omega)]; exact a5
  · rw [World.cell?_setCell_other _ _ _ _ (by simp <;> omega), World.frozen?_setCell]; exact a9 (hne _ (by omega))
  · rw [List.length_append, List.map_append]; exact hown
  · have := hv' g hg'; omega
  · have := hA.1; simp only at e; omega
theorem own_take {w : World} {base : Nat} {e : TypeId} {g n cap k : Nat} {xs : List Value} (h : w.ownsRow base e 1 (.slice (some ⟨g, 0, none⟩) n cap) n xs) (hk : k ≤ n) : w.ownsRow base e 1 (.slice (some ⟨g, 0, none⟩) k cap) k (xs.take k) := by
  refine ⟨by rw [List.length_take, h.1]; omega, Or.inr ?_⟩
  rcases h.2 with ⟨hv, _⟩ | ⟨g', cap', cur, hv, hb, hg, h1, h2, h3, h4⟩
  · simp at hv
  · simp only [Value.slice.injEq, Option.some.injEq, Addr.mk.injEq, and_true, true_and] at hv
    obtain ⟨rfl, rfl⟩ := hv
    refine ⟨g, cap, cur, rfl, hb, hg, by omega, h2, h3, ?_⟩
    rw [← h4, List.take_take]
    congr 1
    omega
/-- A block cut off: it stands behind the others, those gone through end ahead of it. -/
theorem DMem.cut {w4 : World} {X : Obj} {u' : Value} {g n cap k : Nat} {ar : Option Addr} {cr : Nat} {L : List Int} (h : DMem w W0 nr bl gn nm ct go lw D gw m es s (.slice (some ⟨g, 0, none⟩) n cap) u us) (hn : n = s.gone.length) (hk : k ≤ n) (hI : IAt w ar L) (hA : ∀ g' off, ar = some ⟨g', off, none⟩ → 0 < L.length → D ≤ g' ∧ g ≠ g' ∧ u.ownBlock ≠ some g')
    (hown : w4.ownsRow D 28 1 u' (s.blk.length + 1) (us ++ [.slice ar L.length cr])) (hg : (w.alloc X).grownBy w4 u.ownBlock) (hat : u'.ownBlock = u.ownBlock ∨ u'.ownBlock = some (w.alloc X).heap.size) :
    (w4.cell? ⟨go, 0, none⟩ = some (.slice (some ⟨g, 0, none⟩) n cap) ∧ w4.frozen? ⟨go, 0, none⟩ = false) ∧ (w4.cell? ⟨bl, 0, none⟩ = some u ∧ w4.frozen? ⟨bl, 0, none⟩ = false) ∧ ((w4.setCell ⟨bl, 0, none⟩ u').cell? ⟨go, 0, none⟩ = some (.slice (some ⟨g, 0, none⟩) n cap) ∧ (w4.setCell ⟨bl, 0, none⟩ u').frozen? ⟨go, 0, none⟩ = false) ∧ DMem ((w4.setCell ⟨bl, 0, none⟩ u').setCell ⟨go, 0, none⟩ (.slice (some ⟨g, 0, none⟩) k cap)) W0 nr bl gn nm ct go lw D gw m es ⟨s.num, s.cnt, s.gone.take k, s.blk ++ [L]⟩ (.slice (some ⟨g, 0, none⟩) k cap) u' (us ++ [.slice ar L.length cr]) := by
  have ho := h.ord
  have hsz := h.sz
  obtain ⟨o1, o2⟩ := h.own
  have hgl := o1 g rfl
  have hb : Below w.heap.size w (w.alloc X) := (Below.refl _ _).alloc (Nat.le_refl _) _
  have hbs := hb.size
  have hkp : KeptBut (fun k => some k = u.ownBlock) w w4 := (KeptBut.of_whole _ hb).trans (KeptBut.of_grown hg)
  have hne : ∀ k, k < D → ¬ some k = u.ownBlock := fun k hk e => by have := o2 k e.symm; omega
  obtain ⟨a1, a2, a3, a4, a5, a6, a7, a8, a9⟩ := h.kept hkp (fun k _ e => by have := o2 k e.symm; omega) (hne _ (by omega)) (hne _ (by omega)) (hne _ (by omega))
  have a8 := a8 (hne _ (by omega))
  have a9 := a9 (hne _ (by omega))
  have hk1 := kept_set w4 ⟨bl, 0, none⟩ u'
  have hk2 := kept_set (w4.setCell ⟨bl, 0, none⟩ u') ⟨go, 0, none⟩ (.slice (some ⟨g, 0, none⟩) k cap)
  have hut : ∀ i, u'.ownBlock = some i → D ≤ i := fun i hi => by
    rcases hat with h1 | h1
    · exact (o2 i (h1.symm.trans hi)).1
    · rw [h1] at hi; simp at hi; simp at hbs; omega
  have hblk : LLOwn w4 D (fun k => D ≤ k ∧ some g ≠ some k) u' (us ++ [.slice ar L.length cr]) (s.blk ++ [L]) :=
    LLOwn.put (X := X) h.blk hI (fun g' off e h0 => by
      obtain ⟨q1, q2, q3⟩ := hA g' off e h0
      exact ⟨⟨q1, fun e => q2 (Option.some.inj e)⟩, q3⟩) ⟨by simp; omega, fun e => by simp at e; omega⟩ hown hg hat
  have hgone4 : w4.ownsRow D 3 1 (.slice (some ⟨g, 0, none⟩) n cap) n (s.gone.map (Value.int .i64)) := by
    have := own_kept h.gone hkp (fun i hi e => (o2 i e.symm).2.2 hi)
    rw [← hn] at this
    exact this
  have c8 : (w4.setCell ⟨bl, 0, none⟩ u').cell? ⟨go, 0, none⟩ = some (.slice (some ⟨g, 0, none⟩) n cap) := by rw [World.cell?_setCell_other _ _ _ _ (by simp <;> omega)]; exact a8.1
  refine ⟨a8, a9, ⟨c8, by rw [World.frozen?_setCell]; exact a8.2⟩, h.ord, by simpa using a1, (a2.setCell (p := ⟨bl, 0, none⟩) (by simp only; omega) _).setCell (p := ⟨go, 0, none⟩) (by simp only; omega) _, h.near, ?_, ?_, ?_, ?_, ((a7 (hne _ (by omega))).kept hk1 (by simp only; omega)).kept hk2 (by simp only; omega), ⟨World.cell?_setCell_same' _ _ _ (by rw [c8]; rfl), by rw [World.frozen?_setCell, World.frozen?_setCell]; exact a8.2⟩, ?_, own_kept (S := fun k => k = go) (own_kept (S := fun k => k = bl) ?_ hk1 (fun i hi e => ?_)) hk2 (fun i hi e => ?_), (hblk.kept hk1 (fun i hi _ e => ?_)).kept hk2 (fun i hi _ e => ?_)⟩
  · rw [World.cell?_setCell_other _ _ _ _ (by simp <;> omega), World.cell?_setCell_other _ _ _ _ (by simp <;> omega)]; exact a3
  · rw [World.cell?_setCell_other _ _ _ _ (by simp <;> omega), World.cell?_setCell_other _ _ _ _ (by simp <;> omega)]; exact a4
  · rw [World.cell?_setCell_other _ _ _ _ (by simp <;> omega), World.cell?_setCell_other _ _ _ _ (by simp <;> omega), World.frozen?_setCell, World.frozen?_setCell]; exact a6 (hne _ (by omega))
  · rw [World.cell?_setCell_other _ _ _ _ (by simp <;> omega), World.cell?_setCell_other _ _ _ _ (by simp <;> omega)]; exact a5
  · rw [World.cell?_setCell_other _ _ _ _ (by simp <;> omega), World.frozen?_setCell, World.frozen?_setCell]
    exact ⟨World.cell?_setCell_same' _ _ _ (by rw [a9.1]; rfl), a9.2⟩
  · have := own_take hgone4 hk
    rw [← List.map_take] at this
    have hl : (s.gone.take k).length = k := by rw [List.length_take]; omega
    simp only
    rw [hl]
    exact this
  · simp [Value.ownBlock] at hi; omega
  · simp [Value.ownBlock] at hi; omega
  · have := hi.1; simp only at e; omega
  · have := hi.1; simp only at e; omega
end
end Go.Proofs.Ytlebimolgienkaa
namespace Go.Proofs.Ytlebimolgienkaa
open Go.RowKit Go.Lib Go.Shelf Go.Sort

theorem own_holds {w : World} {B : Nat} {fv : Value} {F : List Int} (h : w.ownsRow B 3 1 fv F.length (F.map (Value.int .i64))) (h0 : 0 < F.length) : ∃ g cap, fv = .slice (some ⟨g, 0, none⟩) F.length cap ∧ F.length ≤ cap ∧ B ≤ g ∧ g < w.heap.size ∧ Holds (Value.int .i64) w g 0 F.toArray := by
  rcases h.2 with ⟨_, h0'⟩ | ⟨g, cap, cur, hv, hg, hgb, hc, _⟩
  · omega
  · refine ⟨g, cap, hv, hc, hg, (Array.getElem?_eq_some_iff.1 hgb).1, fun j hj => ?_⟩
    have hj' : j < F.length := by simpa using hj
    have := h.cells (g := g) (by rw [hv]; rfl) j (.int .i64 F[j]) (by rw [List.getElem?_map, List.getElem?_eq_getElem hj']; rfl)
    rw [add_at] at this
    refine ⟨?_, frozen_of_heap hgb _⟩
    rw [this, getElem!_pos F.toArray j hj]
    simp
theorem grown_sortI {w : World} {g n : Nat} {os : Array Obj} (d : Array Int) : w.grownBy (sortWorld (Value.int .i64) w g 0 n d os) (some g) := by
  refine ⟨rfl, rfl, rfl, ?_, fun k hk hne => ?_⟩
  · unfold sortWorld
    rw [size_grow]
    simp [putRow, mapBlock, Sort.ahead]
  · unfold sortWorld
    rw [heap_grow_old _ _ (by simpa [putRow, mapBlock, Sort.ahead] using hk)]
    have : g ≠ k := fun e => hne (by rw [e])
    simp [putRow, mapBlock, Sort.ahead, Array.getElem?_modify, this]
/-- slices.Sort of a row of the call's own. -/
theorem bsort_any (base : Nat) (fv : Value) (xs : List Int) (w : World) (hown : w.ownsRow base 3 1 fv xs.length (xs.map (Value.int .i64))) (h0 : 0 < xs.length) (hN : xs.length ≤ 1000000) :
    ∃ g cap, fv = .slice (some ⟨g, 0, none⟩) xs.length cap ∧ base ≤ g ∧ g < w.heap.size ∧ Calls Try.prog 78 #[.slice (some ⟨g, 0, none⟩) xs.length cap] w fun e w' => e = .returned (.tuple #[]) ∧ w.grownBy w' (some g) ∧ IAt w' (some ⟨g, 0, none⟩) (isrt xs) := by
  obtain ⟨g, cap, hv, hcap, hg, hgl, hH⟩ := own_holds hown h0
  have hs := Any.slices_Sort_int Try.sortI g 0 cap xs w hH hgl (by omega)
  change Calls Try.prog 78 _ _ _ at hs
  refine ⟨g, cap, hv, hg, hgl, hs.mono ?_⟩
  rintro e w2 ⟨rfl, q, os, hw2⟩
  have hw2' : w2 = sortWorld (Value.int .i64) w g 0 q (srtI xs).toArray os := hw2
  have hsz : (srtI xs).toArray.size = xs.toArray.size := by simp [srtI_len]
  have hgr : w.grownBy w2 (some g) := by rw [hw2']; exact grown_sortI _
  have hH2 : Holds (Value.int .i64) w2 g 0 (srtI xs).toArray := by
    rw [hw2']
    exact SW.holds (⟨q, os, rfl⟩ : SW (Value.int .i64) w g 0 (srtI xs).toArray (sortWorld (Value.int .i64) w g 0 q (srtI xs).toArray os)) hgl hH hsz
  refine ⟨rfl, hgr, fun _ => ⟨g, 0, rfl, Nat.lt_of_lt_of_le hgl hgr.size, fun k hk => ?_⟩⟩
  rw [← srtI_is] at hk
  have h := (hH2 k (by simpa using hk)).1
  rw [h, getElem!_pos (srtI xs).toArray k (by simpa using hk)]
  simp only [List.getElem_toArray]
  congr 2
  simp only [srtI_is]
end Go.Proofs.Ytlebimolgienkaa
namespace Go.Proofs.Ytlebimolgienkaa
open Go.RowKit Go.Lib

theorem Try.infoRow28 : (Try.prog.info? 28).map (fun i => (i.zero, i.size, i.bytes)) = some (some (.slice none 0 0), 1, 24) := by kernel_rfl

set_option maxHeartbeats 4000000 in
set_option maxRecDepth 100000 in
theorem low_any {W0 : World} {nr bl gn nm ct go lw D gw m : Nat} {es : List (Int × Int)} (hR : RightG m es) : ∀ (k : Nat) (s : Dst) (v : Nat) (w : World), (∃ gv uv us, DMem w W0 nr bl gn nm ct go lw D gw m es s gv uv us) → DSz m s → v < m → s.num v = 0 → unv m s.num ≤ k →
    Calls Try.prog 77 #[.int .i64 v, .pointer (some ⟨ct, 0, none⟩), .pointer (some ⟨nm, 0, none⟩), .pointer (some ⟨go, 0, none⟩), .pointer (some ⟨nr, 0, none⟩), .pointer (some ⟨lw, 0, none⟩), .pointer (some ⟨bl, 0, none⟩)] w fun e w' =>
      e = .returned (.int .i64 (lowF (fun v => nbL (v : Int) es) k s v).2) ∧ ∃ gv uv us, DMem w' W0 nr bl gn nm ct go lw D gw m es (lowF (fun v => nbL (v : Int) es) k s v).1 gv uv us := by
  intro k
  induction k with
  | zero => intro s v w _ _ hv h0 hk; have := unv_pos hv h0; omega
  | succ k ih =>
    intro s v w hM hs hv h0 hk
    obtain ⟨gv, uv, us, hM⟩ := hM
    have hm : m ≤ 1000 := by have := hR.2.1; omega
    have hin : ∀ (v : Nat) x, x ∈ nbL (v : Int) es → 0 ≤ x ∧ x < m := fun v x hx => ((nb_adj hR).1 hx |>.in hR).2.1
    have hgr := low_gr (nb := fun v => nbL (v : Int) es) hin k
    obtain ⟨Lo, hLo⟩ := ex_eq (fun t : Nat => ((nbL (v : Int) es).take t).foldl (lowStep (lowF (fun v => nbL (v : Int) es) k) v) (s.enter v, (s.cnt : Int) + 1))
    have HGR : Hid (∀ t, DGr m s (Lo t).1 1) := fun t => by
      rw [hLo]
      exact fold_gr hs hk hgr _ _ (fun x hx => hin v x (List.mem_of_mem_take hx)) (start_gr hs hv h0)
    have HL0 : Hid (Lo 0 = (s.enter v, (s.cnt : Int) + 1)) := by show _ = _; rw [hLo]; rfl
    have HLS : Hid (∀ t (h : t < (nbL (v : Int) es).length), Lo (t + 1) = lowStep (lowF (fun v => nbL (v : Int) es) k) v (Lo t) (nbL (v : Int) es)[t]) := fun t h => by
      rw [hLo]
      simp only
      rw [← List.take_append_getElem h, List.foldl_append]
      rfl
    have HLE : Hid (lowF (fun v => nbL (v : Int) es) (k + 1) s v = Lo (nbL (v : Int) es).length) := by
      show _ = _
      rw [hLo]
      simp only [List.take_length]
      rfl
    obtain ⟨c, hc⟩ := ex_eq s.cnt
    have hc1 : c ≤ 1000 := by have := hs.sum; omega
    have HIH := hid ih
    have HUN := hid hk
    have HSZ := hid hs
    have HIN := hid hin
    have HGRR := hid hgr
    have hM1 := hM.count (c + 1)
    have hM2 := hM1.number hv ((c + 1 : Nat) : Int)
    have hM0 := hid hM
    have q0 : IntKind.i64.wrap ((c : Int) + 1) = (c : Int) + 1 := by simp [IntKind.wrap, IntKind.bits, IntKind.signed]; omega
    have q1 : (v : Int) < (m : Int) := by omega
    have ecc : ((c + 1 : Nat) : Int) = (c : Int) + 1 := by omega
    rw [ecc] at hM1 hM2
    obtain ⟨W1, hW1⟩ := ex_eq (w.setCell ⟨ct, 0, none⟩ (.int .i64 ((c : Int) + 1)))
    obtain ⟨W2, hW2⟩ := ex_eq (W1.setCell ⟨gn, v, none⟩ (.int .i64 ((c : Int) + 1)))
    rw [← hW1] at hM1 hM2
    rw [← hW2] at hM2
    have HW1 := hid hW1
    have HW2 := hid hW2
    have HM1 := hid hM1
    have HM2 := hid hM2
    have HC := hid hc
    obtain ⟨i0, hi0, hz0, hz1, hz2⟩ := info_parts Try.info3
    obtain ⟨a0, f0⟩ := hM.cct
    rw [← hc] at a0
    have hz : 0 < w.heap.size := by have := hM.size; omega
    clear hW1 hW2 hc ih hk hs hin hgr hM hM1 hM2 hLo
    go_enter Try.func77, Try.ntmps77
    go_upto_region 2 with fail
    rw [← HW1.out]
    clear HW1 a0 f0
    have b1 := HM1.out.cnm
    have b2 : W1.cell? ⟨ct, 0, none⟩ = some (.int .i64 ((c : Int) + 1)) := by rw [← ecc]; exact HM1.out.cct.1
    obtain ⟨b3, b4⟩ := HM1.out.num.2 v hv
    go_upto_region 3 with fail
    rw [← HW2.out]
    clear HW2 b1 b2 b3 b4 HM1
    obtain ⟨b1, b2⟩ := HM2.out.cgo
    have hown2 := HM2.out.gone
    obtain ⟨n0, hn0⟩ := ex_eq s.gone.length
    obtain ⟨xs0, hxs0⟩ := ex_eq (s.gone.map (Value.int .i64))
    have hn0l : n0 ≤ 1000 := by have := HSZ.out.gone; have := HSZ.out.sum; omega
    have HPU := hid (fun (w4 : World) (v' : Value) => HM2.out.push (wa := W2.alloc (.cells #[.int .i64 v] 3)) (w4 := w4) (v' := v') (x := (v : Int)) ((Below.refl _ _).alloc (Nat.le_refl _) _))
    simp only at hown2 HPU
    rw [← hn0, ← hxs0] at hown2 HPU
    have hD2 : D ≤ W2.heap.size := HM2.out.sz
    clear hn0 hxs0
    go_upto_region 4 with (at_builtin; refine wpList_append_any _ rfl _ _ 28 rfl D 3 i0 _ 1 8 Try.underlying28 hi0 hz0 hz1 hz2 rfl (by decide) gv n0 xs0 rfl (hown2.alloc _) (some ⟨W2.heap.size, 0, none⟩) 1 1 [.int .i64 v] rfl (fun h => by cases h) rfl (fun pp hpp => by cases hpp; exact cells_one (heap_alloc_new _ _)) (fun u hu => by simp at hu; rw [hu]; rfl) (by unfold maxLen; omega) (by omega) (by simp; omega) ?_; intro v' w4 hown4 hgrow4 hat4; obtain ⟨va, vc, rfl, _⟩ := sl_own hown4; obtain ⟨⟨c4, f4⟩, hM4⟩ := HPU.out w4 _ hown4 hgrow4 hat4)
    obtain ⟨W5, hW5⟩ := ex_eq (w4.setCell ⟨go, 0, none⟩ (.slice va (n0 + 1) vc))
    rw [← hW5] at hM4
    have HW5 := hid hW5
    have eE : (⟨fun i => if i = v then (c : Int) + 1 else s.num i, c + 1, s.gone ++ [(v : Int)], s.blk⟩ : Dst) = s.enter v := by rw [HC.out]; rfl
    rw [eE] at hM4
    have HM5 : Hid (∃ gv uv us, DMem W5 W0 nr bl gn nm ct go lw D gw m es (Lo 0).1 gv uv us) := by
      show ∃ gv uv us, _
      rw [HL0.out]
      exact ⟨_, _, _, hM4⟩
    have d1 : W5.cell? ⟨ct, 0, none⟩ = some (.int .i64 ((c : Int) + 1)) := by
      have h := hM4.cct.1
      have e2 : (((s.enter v).cnt : Nat) : Int) = (c : Int) + 1 := by rw [HC.out]; show ((s.cnt + 1 : Nat) : Int) = _; omega
      rw [e2] at h
      exact h
    have d2 := hM4.cnr
    have hbel := hM4.bel
    have HNE := hid hM4.near
    obtain ⟨aj, cj, d3, hI, hsl⟩ := (hM4.near.below hbel).2 v hv
    obtain ⟨L, hL⟩ := ex_eq (nbL (v : Int) es).length
    rw [← hL] at d3
    have HL := hid hL
    have hL8 : L ≤ 8000 := by
      have h1 := nb_len (v : Int) es
      have h2 := hR.2.2.1
      omega
    have hI0 := hM4.near
    have HI0 : Hid (∀ X, Below W0.heap.size W0 X → IAt X aj (nbL (v : Int) es)) := fun X hX => by
      obtain ⟨aj', cj', e3, hI', _⟩ := hI0.2 v hv
      have e4 := (hbel.cell (p := ⟨gw, v, none⟩) hI0.1).trans e3
      rw [d3] at e4
      simp only [Option.some.injEq, Value.slice.injEq] at e4
      obtain ⟨rfl, _, rfl⟩ := e4
      exact hI'.below hX
    clear hW5 hM4 hL hI hsl hI0 hown4 hgrow4 hat4 c4 f4 b1 b2 hown2 HPU HM2 eE
    rw [← HW5.out]
    clear HW5
    go_wp2
    clear d1 d2 d3
    go_loopw [9, 31] (fun b i wz => ∃ t : Nat, t ≤ L ∧ i = .int .i64 t ∧ Hid (b = .int .i64 (Lo t).2) ∧ Hid (∃ gv uv us, DMem wz W0 nr bl gn nm ct go lw D gw m es (Lo t).1 gv uv us)) (fun _ i _ => L - (RowKit.intOf i).toNat)
    case atStart => exact ⟨0, Nat.zero_le _, rfl, (by show _ = _; rw [HL0.out, HC.out]), HM5.out⟩
    case round =>
      obtain ⟨t, ht, rfl, hbt, hmt⟩ := hrel
      obtain ⟨T, hT⟩ := ex_eq (Lo t).1
      obtain ⟨r, hr⟩ := ex_eq (Lo t).2
      rw [← hr] at hbt
      rw [← hT] at hmt
      have hbt := hbt.out
      subst hbt
      have hgrt := HGR.out t
      rw [← hT] at hgrt
      by_cases hlt : t < L
      · have htl : t < (nbL (v : Int) es).length := by rw [← HL.out]; exact hlt
        have hx := HIN.out v _ (List.getElem_mem htl)
        obtain ⟨x, hxe⟩ : ∃ x : Nat, (nbL (v : Int) es)[t] = (x : Int) := ⟨((nbL (v : Int) es)[t]).toNat, by omega⟩
        rw [hxe] at hx
        have hxm : x < m := by omega
        obtain ⟨gv1, uv1, us1, hD⟩ := hmt.out
        have hst : Lo (t + 1) = lowStep (lowF (fun v => nbL (v : Int) es) k) v (T, r) (x : Int) := by rw [HLS.out t htl, hxe, hT, hr]
        unfold lowStep at hst
        simp only [Int.toNat_natCast] at hst
        obtain ⟨gj, oj, rfl, hgj, hcs⟩ := HI0.out wr hD.bel (by omega)
        have e0 := hcs t htl
        rw [hxe] at e0
        obtain ⟨e1, _⟩ := hD.num.2 x hxm
        have e2 := hD.cnm
        have p1 : (x : Int) < (m : Int) := by omega
        have p2 : (t : Int) < (L : Int) := by omega
        clear hcs hxe hx htl hT hr
        by_cases hvis : 0 < T.num x
        · rw [if_pos hvis] at hst
          obtain ⟨y, hy⟩ := ex_eq (T.num x)
          rw [← hy] at e1 hvis hst
          have HN : Hid (∃ gv uv us, DMem wr W0 nr bl gn nm ct go lw D gw m es (Lo (t + 1)).1 gv uv us) := by
            show ∃ gv uv us, _
            rw [hst]
            exact ⟨_, _, _, hD⟩
          have HB : Hid (Value.int .i64 (min r y) = .int .i64 (Lo (t + 1)).2) := by
            show _ = _
            rw [hst]
          clear hst hy hD hmt hgrt
          go_wp2
          go_roundw
          case rel => exact ⟨t + 1, by omega, by go_num, HB, HN⟩
          case measure => simp [RowKit.intOf]; omega
        · rw [if_neg hvis] at hst
          have hTx : T.num x = 0 := by have := hgrt.sz.pos x; omega
          have hkT : unv m T.num ≤ k := by have := hgrt.unv; have := HUN.out; omega
          have hg2 := HGRR.out T x hgrt.sz hxm hTx hkT
          have C := hid (HIH.out T x wr hmt.out hgrt.sz hxm hTx hkT)
          obtain ⟨R, hRR⟩ := ex_eq (lowF (fun v => nbL (v : Int) es) k T x)
          rw [← hRR] at C hg2 hst
          obtain ⟨T2, hT2⟩ := ex_eq R.1
          obtain ⟨r2, hr2⟩ := ex_eq R.2
          rw [← hT2] at C hg2 hst
          rw [← hr2] at C hst
          rw [hTx] at e1
          have hglen : 0 < T.gone.length := by
            obtain ⟨Z, z1, _, z3⟩ := hgrt.gone
            rw [z1, List.length_append]; omega
          obtain ⟨g1, c1, rfl, hg1D, hg1l, hc1c, _⟩ := own_row hD.gone hglen
          obtain ⟨nT, hnT⟩ := ex_eq T.gone.length
          have e3 := hD.cgo.1
          rw [← hnT] at e3 hst
          have e4 := hD.clw
          have HHT : Hid (nT < T2.gone.length ∧ T2.gone.length ≤ 1000 ∧ T2.blk.length ≤ 1000) := by
            obtain ⟨Z, z1, _, z3⟩ := hg2.gone
            have z4 := hg2.sz.gone
            have z5 := hg2.sz.sum
            have z6 := hg2.sz.blk
            refine ⟨?_, by omega, by omega⟩
            rw [z1, List.length_append, hnT]; omega
          have HST := hid hst
          clear hgrt hmt hvis hD hRR hT2 hr2 hst hTx hkT hg2 hglen hnT HGR HL0 HLS HLE hlt
          go_wp2_with fail
          refine C.out.mono ?_
          rintro e w2 ⟨rfl, gv2, uv2, us2, hD2⟩
          clear e0 e1 e2 e3 e4 C
          have e5 := hD2.cnm
          obtain ⟨e6, _⟩ := hD2.num.2 v hv
          obtain ⟨y2, hy2⟩ := ex_eq (T2.num v)
          rw [← hy2] at e6
          have hst := HST.out
          rw [← hy2] at hst
          by_cases hcut : r2 < y2
          · rw [if_pos hcut] at hst
            have HN : Hid (∃ gv uv us, DMem w2 W0 nr bl gn nm ct go lw D gw m es (Lo (t + 1)).1 gv uv us) := by
              show ∃ gv uv us, _
              rw [hst]
              exact ⟨_, _, _, hD2⟩
            have HB : Hid (Value.int .i64 (min r r2) = .int .i64 (Lo (t + 1)).2) := by
              show _ = _
              rw [hst]
            clear hst HST hy2 hD2 HHT
            go_wp2
            go_roundw
            case rel => exact ⟨t + 1, by omega, by go_num, HB, HN⟩
            case measure => simp [RowKit.intOf]; omega
          · rw [if_neg hcut] at hst
            have HST2 := hid hst
            obtain ⟨hh1, hh2, hh3⟩ := HHT.out
            obtain ⟨g2, cap2, rfl, hg2D, hg2l, hcap2, hcs2⟩ := own_row hD2.gone (by omega)
            obtain ⟨n2, hn2⟩ := ex_eq T2.gone.length
            rw [← hn2] at hh1 hh2
            have e7 := hD2.cgo.1
            rw [← hn2] at e7 hcap2
            obtain ⟨olds, hol⟩ := ex_eq ((T2.gone.drop nT).map (Value.int .i64))
            have HOL1 : Hid (olds.length = (n2 - nT) * 1) := by show _ = _; rw [hol]; simp [hn2]
            have HOL2 : Hid (∀ b, some (⟨g2, nT, none⟩ : Addr) = some b → ∀ j u, olds[j]? = some u → (w2.alloc (.cells #[.int .i64 v] 3)).cell? (b.add j) = some u) := fun b hb j u hu => by
              cases hb
              rw [add_at, (kept_alloc w2 _ (fun _ => False)).cell (p := ⟨g2, nT + j, none⟩) hg2l (fun e => e)]
              refine hcs2 (nT + j) u ?_
              rw [hol, List.getElem?_map, List.getElem?_drop] at hu
              rw [List.getElem?_map]; exact hu
            have HOLD := hid hol
            have HD2 := hid hD2
            have HN2 := hid hn2
            have HY2 := hid hy2
            have q5 : ¬ n2 = nT := by omega
            have q6 : (nT : Int) ≤ (n2 : Int) := by omega
            have q7 : (n2 : Int) ≤ (cap2 : Int) := by omega
            have q8 : (0 : Int) ≤ (nT : Int) := by omega
            have q9 : nT ≤ cap2 := by omega
            have HBL : Hid (T2.blk.length ≤ 1000) := hh3
            clear hst HST hcs2 hol hD2 hn2 hy2 HHT hh3
            go_upto_region 15 with (at_builtin; refine wpList_append_grows _ rfl _ _ 28 rfl 3 i0 _ 1 8 Try.underlying28 hi0 hz0 hz1 hz2 rfl (by decide) (some ⟨g2, nT, none⟩) (n2 - nT) (n2 - nT) olds rfl (fun h => by cases h) HOL1.out HOL2.out ⟨w2.heap.size, 0, none⟩ 1 1 [.int .i64 v] rfl rfl (cells_one (heap_alloc_new _ _)) (fun u hu => by simp at hu; rw [hu]; rfl) (by omega) (by unfold maxLen; omega) (by omega) ?_; intro v3 w3 hown3 hgrow3)
            obtain ⟨xs, hxs⟩ := ex_eq (T2.gone.drop nT ++ [(v : Int)])
            have hxl : xs.length = n2 - nT + 1 := by rw [hxs, HN2.out]; simp
            have hown3' : w3.ownsRow (w2.alloc (.cells #[.int .i64 v] 3)).heap.size 3 1 v3 xs.length (xs.map (Value.int .i64)) := by
              rw [hxl, hxs, List.map_append, ← HOLD.out]
              exact hown3
            obtain ⟨g3, cap3, rfl, hg3, hg3l, CS⟩ := bsort_any _ v3 xs w3 hown3' (by omega) (by omega)
            rw [hxl] at CS
            have HCS := hid CS
            have HXS := hid hxs
            have HXL := hid hxl
            have hbs3 : Below w2.heap.size w2 w3 := Below.grown ((Below.refl _ w2).alloc (Nat.le_refl _) _) hgrow3 (by simp) (fun j hj => by cases hj)
            have hg3w : w2.heap.size < g3 := by simp at hg3; omega
            have HB3 := hid hbs3
            clear CS hxs hxl hown3 hown3' hgrow3 hbs3 hg3 e5 e6 e7
            rw [HXL.out]
            go_wp2_with fail
            refine HCS.out.mono ?_
            rintro e w4 ⟨rfl, hgr4, hI4⟩
            have hb4 : Below w2.heap.size w2 w4 := Below.grown HB3.out hgr4 HB3.out.size (fun j hj => by cases hj; omega)
            have hD4 := HD2.out.below hb4
            obtain ⟨e8, f8⟩ := hD4.cgo
            obtain ⟨e9, f9⟩ := hD4.cbl
            rw [← HN2.out] at e8
            obtain ⟨nB, hnB⟩ := ex_eq T2.blk.length
            have HOB : Hid (w4.ownsRow D 28 1 uv2 nB us2) := by
              show World.ownsRow _ _ _ _ _ _ _
              rw [hnB]; exact hD4.blk.1
            have hnBl : nB ≤ 1000 := by
              rw [hnB]
              exact HBL.out
            have hown4u := hD4.own.2
            have hX : Below w4.heap.size w4 w4.drew := (Below.refl _ _).drew
            have hD4d := hD4.below hX
            have HCUT := hid (fun (w6 : World) (u' : Value) => hD4d.cut (X := .cells #[.slice (some ⟨g3, 0, none⟩) (n2 - nT + 1) cap3] 28) (w4 := w6) (u' := u') (k := nT) (ar := some ⟨g3, 0, none⟩) (cr := cap3) (L := isrt xs) rfl (by have := HN2.out; omega) (hI4.below hX) (fun g' off e h0 => by
              cases e
              exact ⟨by have := HD2.out.sz; omega, by omega, fun e => by have := (HD2.out.own.2 _ e).2.1; omega⟩))
            have hD8 : D ≤ w4.heap.size := hD4.sz
            have HI1 := hid (Try.infoRow28)
            have z2 : bl < w4.heap.size := hD4.size.2.1
            have z6 : go < w4.heap.size := hD4.size.2.2.2.2.2.1
            have hil : (isrt xs).length = n2 - nT + 1 := by rw [isrt_len, HXL.out]
            rw [hil, ← HN2.out, ← hnB] at HCUT
            have HIL := hid hil
            have HLN : Hid (Lo (t + 1) = (⟨T2.num, T2.cnt, T2.gone.take nT, T2.blk ++ [isrt xs]⟩, min r r2)) := by
              show _ = _
              rw [HST2.out, HXS.out]
              rfl
            have HB : Hid (Value.int .i64 (min r r2) = .int .i64 (Lo (t + 1)).2) := by
              show _ = _
              rw [HLN.out]
            obtain ⟨i1, hi1, hj0, hj1, hj2⟩ := info_parts Try.infoRow28
            clear hD4 hD4d hX hI4 hown4u hb4 hgr4 hnB hil HD2 HST2 HXS HOLD HOL1 HOL2 HI1
            go_wp2_with fail
            go_region_law (refine step_append_any _ rfl (.tmp 72) (.tmp 74) 29 rfl D 28 i1 _ 1 24 Try.underlying29 hi1 hj0 hj1 hj2 rfl (by decide) uv2 nB us2 (by first | rfl | (simp [Act.eval]; done) | (simp [Act.eval, Act.put]; done)) (own_below HOB.out ((Below.refl _ _).drew.alloc (Nat.le_refl _) _)) (some ⟨w4.heap.size, 0, none⟩) 1 1 [.slice (some ⟨g3, 0, none⟩) (n2 - nT + 1) cap3] (by first | rfl | (simp [Act.eval]; done) | (simp [Act.eval, Act.put]; done)) (fun h => by cases h) rfl (fun pp hpp => by cases hpp; exact cells_one (heap_alloc_new _ _)) (fun u hu => by simp at hu; rw [hu]; rfl) (by unfold maxLen; omega) (by omega) (by simp; omega) ?_; intro u' w6 hown6 hgrow6 hat6; obtain ⟨ua, uc, rfl, _⟩ := sl_own hown6; obtain ⟨⟨k1, k2⟩, ⟨k3, k4⟩, ⟨k5, k6⟩, hD6⟩ := HCUT.out w6 _ hown6 hgrow6 hat6; have HD6 := hid hD6; clear hD6 hown6 hgrow6 hat6)
            all_goals
              have HN : Hid (∃ gv uv us, DMem ((w6.setCell ⟨bl, 0, none⟩ (.slice ua (nB + 1) uc)).setCell ⟨go, 0, none⟩ (.slice (some ⟨g2, 0, none⟩) nT cap2)) W0 nr bl gn nm ct go lw D gw m es (Lo (t + 1)).1 gv uv us) := by
                show ∃ gv uv us, _
                rw [HLN.out]
                exact ⟨_, _, _, HD6.out⟩
              obtain ⟨W7, hW7⟩ := ex_eq ((w6.setCell ⟨bl, 0, none⟩ (.slice ua (nB + 1) uc)).setCell ⟨go, 0, none⟩ (.slice (some ⟨g2, 0, none⟩) nT cap2))
              rw [← hW7] at HN
              have HW7 := hid hW7
              clear hW7 HD6 HLN HCUT k1 k2 k3 k4 k5 k6 e8 f8 e9 f9
              rw [← HW7.out]
              go_wp2
              go_roundw
              case rel => exact ⟨t + 1, by omega, by go_num, HB, HN⟩
              case measure => simp [RowKit.intOf]; omega
      · obtain rfl : t = L := by omega
        have HF : Hid (lowF (fun v => nbL (v : Int) es) (k + 1) s v = (T, r)) := by
          show _ = _
          rw [HLE.out, ← HL.out, hT, hr]
        have HM := hmt
        clear hT hr hmt hgrt HGR HL0 HLS HLE
        go_wp2
        go_ret
        rw [HF.out]
        exact ⟨rfl, HM.out⟩
end Go.Proofs.Ytlebimolgienkaa
