/-
  The small case that the laws of layer 5 begin with answers true.
  The document's Apart (layer 5).
  The document's Turn (layer 5): all ways round are tried.
  Rows of numbers, lists of rows, and a Net that came in, as the walks of layer 5 take them.
  carcanetlaw05.WalkApart answers true, for any walks that keep the contracts.
  A model cut small, as the laws of layer 8 begin: six sets of twenty numbers, in rows of their own.
  slices.Repeat of one number, of one truth: a new row with it at each place.
  The program's homes: of each vertex the set that it is in.
-/
import Derived.Test.YtlebimolgienkaaP04
import Derived.Test.YtlebimolgienkaaP02
import Derived.Deep.LoopGhost
import Derived.Test.YtlebimolgienkaaP07
import Derived.Test.YtlebimolgienkaaP03
import Derived.Deep.Slices
import Derived.ChangeSlices
import Derived.Test.YtlebimolgienkaaP06
import Derived.Test.YtlebimolgienkaaP10
import Derived.Test.YtlebimolgienkaaP01
import Derived.Laws.CopyOwn
namespace Go.Proofs.Ytlebimolgienkaa
open Go.RowKit Go.Lib

def esS : List (Int × Int) := [(0, 1), (0, 3), (1, 2), (2, 3)]
/-- What lies in memory while the small case goes on. -/
structure ShW (w W : World) (B : Nat) (a1 a2 : Option Addr) : Prop where
  gc : GC W (B + 1) 4 (some ⟨B, 0, none⟩) 4 4 esS
  r1 : IAt W a1 [0, 3, 2]
  r2 : IAt W a2 [0, 2, 1, 3]
  bel : Below B w W
  le : B ≤ W.heap.size
theorem ShW.on {w W X : World} {B : Nat} {a1 a2 : Option Addr} (h : ShW w W B a1 a2) (hb : Below W.heap.size W X) : ShW w X B a1 a2 := ⟨h.gc.on hb, h.r1.below hb, h.r2.below hb, h.bel.trans (hb.mono h.le), Nat.le_trans h.le hb.size⟩
theorem below_one (W : World) (o : Obj) : Below W.heap.size W (W.alloc o) := (Below.refl _ _).alloc (Nat.le_refl _) o

end Go.Proofs.Ytlebimolgienkaa
namespace Go.Proofs.Ytlebimolgienkaa
open Go.RowKit Go.Lib

/-- The inner numbers of L below place m stand at no other place. -/
def RowOk (LL : List (List Int)) (L : List Int) (m : Nat) : Prop := ∀ k (h : k + 1 < L.length), 1 ≤ k → k < m → LL.flatten.count (L[k]'(by omega)) = 1
theorem RowOk.next {LL : List (List Int)} {L : List Int} {m : Nat} (h : RowOk LL L m) (hc : ∀ hk : m + 1 < L.length, LL.flatten.count (L[m]'(by omega)) = 1) : RowOk LL L (m + 1) := fun k hk h1 hm => by
  by_cases e : k < m
  · exact h k hk h1 e
  · obtain rfl : k = m := by omega
    exact hc hk
end Go.Proofs.Ytlebimolgienkaa
namespace Go.Proofs.Ytlebimolgienkaa
open Go.RowKit Go.Lib

/-- Two rows of the call's own, side by side. -/
structure TwoSt (D : Nat) (wo wz : World) (v6 v7 : Value) (X Y : List Int) : Prop where
  o6 : wz.ownsRow D 3 1 v6 X.length (X.map (Value.int .i64))
  o7 : wz.ownsRow D 3 1 v7 Y.length (Y.map (Value.int .i64))
  ne : v6.ownBlock ≠ v7.ownBlock
  bel : Below D wo wz
theorem TwoSt.turn {D : Nat} {wo wz : World} {v6 v7 : Value} {X Y : List Int} (h : TwoSt D wo wz v6 v7 X Y) : TwoSt D wo wz v7 v6 Y X := ⟨h.o7, h.o6, fun e => h.ne e.symm, h.bel⟩
theorem TwoSt.put {D : Nat} {wo wz w4 : World} {v6 v7 v4 : Value} {X Y : List Int} {O : Obj} {x : Int} (h : TwoSt D wo wz v6 v7 X Y) (hD : D ≤ wo.heap.size) (ho : w4.ownsRow D 3 1 v4 (X.length + 1) (X.map (Value.int .i64) ++ [.int .i64 x])) (hg : (wz.alloc O).grownBy w4 v6.ownBlock) (hat : v4.ownBlock = v6.ownBlock ∨ v4.ownBlock = some (wz.alloc O).heap.size) : TwoSt D wo w4 v4 v7 (X ++ [x]) Y := by
  have hk : KeptBut (fun k => some k = v6.ownBlock) wz w4 := (kept_alloc wz O _).trans (KeptBut.of_grown hg)
  refine ⟨by rw [List.length_append, List.map_append]; exact ho, own_kept h.o7 hk (fun g e e2 => h.ne (e2.symm.trans e.symm)), fun e => ?_, ?_⟩
  · rcases hat with h1 | h1
    · exact h.ne (h1.symm.trans e)
    · rw [h1] at e
      have := (h.o7.lt _ e.symm).2
      simp at this
      omega
  · exact h.bel.trans (hk.below (Nat.le_trans hD h.bel.size) (fun k _ e => (h.o6.lt k e.symm).1))
end Go.Proofs.Ytlebimolgienkaa
namespace Go.Proofs.Ytlebimolgienkaa
open Go.ChangeShapes Go.WideShapes Go.ChangeAt Go.RowKit Go.Deep Go.WideMaps

/-- What a walk is told of a row that came in. -/
structure CameI (w : World) (a : Option Addr) (len cap : Nat) (l : List Int) : Prop where
  len_ : len = l.length
  le : len ≤ cap
  max : cap ≤ maxLen
  nil : a = none → cap = 0
  at_ : IAt w a l
  wf : ∀ x ∈ l, (Lit.int .i64 x).wf = true
/-- What a walk is told of a list of rows that came in. -/
structure CameR (w : World) (a : Option Addr) (len cap : Nat) (LL : List (List Int)) : Prop where
  len_ : len = LL.length
  le : len ≤ cap
  max : cap ≤ maxLen
  nil : a = none → cap = 0
  at_ : 0 < LL.length → ∃ g off, a = some ⟨g, off, none⟩ ∧ g < w.heap.size ∧ ∀ k (hk : k < LL.length), ∃ ak ck, w.cell? ⟨g, off + k, none⟩ = some (.slice ak LL[k].length ck) ∧ CameI w ak LL[k].length ck LL[k]

section
variable {H : Type} {enc : TypeId × Value → H}

end
end Go.Proofs.Ytlebimolgienkaa
namespace Go.Proofs.Ytlebimolgienkaa
open Go.RowKit Go.Lib

theorem CameR.wf {w : World} {a : Option Addr} {len cap : Nat} {LL : List (List Int)} (h : CameR w a len cap LL) : WfR LL := fun L hL x hx => by
  obtain ⟨k, hk, rfl⟩ := List.getElem_of_mem hL
  obtain ⟨_, _, _, _, hc⟩ := h.at_ (by omega)
  obtain ⟨_, _, _, hi⟩ := hc k hk
  exact hi.wf x hx
theorem llown_none (w : World) (base : Nat) (A : Nat → Prop) : LLOwn w base A (.slice none 0 0) [] [] := ⟨⟨rfl, Or.inl ⟨rfl, rfl⟩⟩, rfl, (fun g h => by cases h), fun k hk => absurd hk (by simp)⟩

end Go.Proofs.Ytlebimolgienkaa
namespace Go.Proofs.Ytlebimolgienkaa
open Go.RowKit Go.Lib Go.Shelf

/-- Rows that may be written, each in a block of its own. -/
def RowsW (w : World) (base : Nat) (v : Value) (us : List Value) (LL : List (List Int)) : Prop := ∀ k (hk : k < LL.length), ∃ ak ck, us[k]? = some (.slice ak LL[k].length ck) ∧ w.ownsRow base 3 1 (.slice ak LL[k].length ck) LL[k].length (LL[k].map (Value.int .i64)) ∧ (∀ q, Value.ownBlock (.slice ak LL[k].length ck) = some q → v.ownBlock ≠ some q ∧ ∀ j, j < k → ∀ u, us[j]? = some u → u.ownBlock ≠ some q)
theorem RowsW.kept {S : Nat → Prop} {w w' : World} {base : Nat} {v : Value} {us : List Value} {LL : List (List Int)} (h : RowsW w base v us LL) (hk : KeptBut S w w') (hs : ∀ q, base ≤ q → q < w.heap.size → ¬ S q) : RowsW w' base v us LL := fun k hk' => by
  obtain ⟨ak, ck, h1, h2, h3⟩ := h k hk'
  exact ⟨ak, ck, h1, own_kept h2 hk (fun q hq => hs q (h2.lt q hq).1 (h2.lt q hq).2), h3⟩
theorem own_lowerS {w : World} {B B' : Nat} {e : TypeId} {size n : Nat} {v : Value} {xs : List Value} (h : w.ownsRow B e size v n xs) (hB : B' ≤ B) : w.ownsRow B' e size v n xs := by
  refine ⟨h.1, ?_⟩
  rcases h.2 with h1 | ⟨g, cap, cur, h1, h2, h3⟩
  · exact Or.inl h1
  · exact Or.inr ⟨g, cap, cur, h1, Nat.le_trans hB h2, h3⟩
theorem RowsW.lower {w : World} {B B' : Nat} {v : Value} {us : List Value} {LL : List (List Int)} (h : RowsW w B v us LL) (hB : B' ≤ B) : RowsW w B' v us LL := fun k hk => by
  obtain ⟨ak, ck, h1, h2, h3⟩ := h k hk
  exact ⟨ak, ck, h1, own_lowerS h2 hB, h3⟩
/-- While the sets are cut. -/
structure SmSt (W X : World) (b0 : Nat) (kk : Int) (v : Value) (us : List Value) (LL : List (List Int)) : Prop where
  c0 : X.cell? ⟨b0 + 2, 0, none⟩ = some (.int .i64 kk)
  c1 : X.cell? ⟨b0 + 2, 1, none⟩ = some v
  f1 : X.frozen? ⟨b0 + 2, 1, none⟩ = false
  ll : LLOwn X (b0 + 3) (fun q => b0 + 3 ≤ q) v us LL
  rw : RowsW X (b0 + 3) v us LL
  kp : Below (b0 + 2) W X
  sz : b0 + 3 ≤ X.heap.size
theorem SmSt.drew {W X : World} {b0 : Nat} {kk : Int} {v : Value} {us : List Value} {LL : List (List Int)} (h : SmSt W X b0 kk v us LL) : SmSt W X.drew b0 kk v us LL :=
  ⟨h.c0, h.c1, h.f1, h.ll.below (Below.refl _ _).drew, h.rw.kept (KeptBut.of_whole (fun _ => False) ((Below.refl _ _).drew)) (fun _ _ _ e => e), h.kp.drew, h.sz⟩
theorem SmSt.put {W X w4 w6 : World} {b0 : Nat} {kk : Int} {v v6 : Value} {us : List Value} {LL : List (List Int)} (h : SmSt W X b0 kk v us LL) {L : List Int} {ar : Option Addr} {cr : Nat} {o : Obj} (h4 : Below X.heap.size X w4)
    (ho : w4.ownsRow X.heap.size 3 1 (.slice ar L.length cr) L.length (L.map (Value.int .i64))) (ho6 : w6.ownsRow (b0 + 3) 28 1 v6 (LL.length + 1) (us ++ [.slice ar L.length cr])) (hg : (w4.alloc o).grownBy w6 v.ownBlock) (hat : v6.ownBlock = v.ownBlock ∨ v6.ownBlock = some (w4.alloc o).heap.size) :
    (w6.cell? ⟨b0 + 2, 1, none⟩ = some v ∧ w6.frozen? ⟨b0 + 2, 1, none⟩ = false) ∧ Below (b0 + 2) W w6 ∧ SmSt W (w6.setCell ⟨b0 + 2, 1, none⟩ v6) b0 kk v6 (us ++ [.slice ar L.length cr]) (LL ++ [L]) := by
  have hsz := h.sz
  have hsz4 := h4.size
  have hl4 := h.ll.below h4
  obtain ⟨ar', cr', hv, hI⟩ := own_form ho
  simp only [Value.slice.injEq, true_and] at hv
  obtain ⟨rfl, rfl⟩ := hv
  have hrb : ∀ q, Value.ownBlock (.slice ar L.length cr) = some q → X.heap.size ≤ q ∧ q < w4.heap.size := fun q hq => ho.lt q hq
  have hvb : ∀ q, v.ownBlock = some q → b0 + 3 ≤ q ∧ q < X.heap.size := fun q hq => h.ll.1.lt q hq
  have hne6 : ∀ q, q < w4.heap.size → v.ownBlock ≠ some q → v6.ownBlock ≠ some q := fun q h1 h2 e => by
    rcases hat with h3 | h3
    · exact h2 (h3.symm.trans e)
    · rw [h3, World.size_alloc] at e; simp only [Option.some.injEq] at e; omega
  have hput := hl4.put (L := L) (ar := ar) (cr := cr) (X := o) hI (fun g off e _ => by
    have := hrb g (by rw [e]; rfl)
    exact ⟨by omega, fun e2 => by have := hvb g e2; omega⟩) (by rw [World.size_alloc]; omega) ho6 hg hat
  have hk46 : KeptBut (fun k => some k = v.ownBlock) w4 w6 := (kept_alloc w4 o _).trans (KeptBut.of_grown hg)
  have hO4 : b0 + 2 < w4.heap.size := by omega
  have hOv : ¬ some (b0 + 2) = v.ownBlock := fun e => by have := hvb _ e.symm; omega
  have e0 := ((hk46.cell (p := ⟨b0 + 2, 0, none⟩) hO4 hOv).trans (h4.cell (p := ⟨b0 + 2, 0, none⟩) (by simp only; omega))).trans h.c0
  have e1 := ((hk46.cell (p := ⟨b0 + 2, 1, none⟩) hO4 hOv).trans (h4.cell (p := ⟨b0 + 2, 1, none⟩) (by simp only; omega))).trans h.c1
  have ef := ((hk46.frozen (p := ⟨b0 + 2, 1, none⟩) hO4 hOv).trans (h4.frozen (p := ⟨b0 + 2, 1, none⟩) (by simp only; omega))).trans h.f1
  have hb6 : Below (b0 + 2) W w6 := ((h.kp.trans (h4.mono (by omega))).alloc (by omega) o).grown hg (by rw [World.size_alloc]; omega) (fun q hq => by have := hvb q hq; omega)
  have hs6 : b0 + 3 ≤ w6.heap.size := by have := hk46.size; omega
  have hkset := kept_set w6 ⟨b0 + 2, 1, none⟩ v6
  refine ⟨⟨e1, ef⟩, hb6, ⟨?_, World.cell?_setCell_same' _ _ _ (by rw [e1]; rfl), by rw [World.frozen?_setCell]; exact ef, hput.kept hkset (fun k hk' _ e => by simp only at e; omega), ?_, hb6.setCell (p := ⟨b0 + 2, 1, none⟩) (Nat.le_refl _) _, by simpa using hs6⟩⟩
  · rw [World.cell?_setCell_other _ _ _ _ (fun e => by have := congrArg Addr.off e; simp at this)]; exact e0
  · refine RowsW.kept (S := fun q => q = b0 + 2) ?_ hkset (fun q hq _ e => by omega)
    intro k hk
    by_cases hlt : k < LL.length
    · obtain ⟨ak, ck, g1, g2, g3⟩ := h.rw k hlt
      have e2 : (LL ++ [L])[k] = LL[k] := List.getElem_append_left hlt
      rw [e2]
      have hul : k < us.length := by rw [h.ll.2.1]; exact hlt
      refine ⟨ak, ck, by rw [List.getElem?_append_left hul]; exact g1, ?_, fun q hq => ⟨?_, fun j hj u hu => ?_⟩⟩
      · refine own_kept (own_below g2 h4) hk46 (fun q hq e => (g3 q hq).1 e.symm)
      · have := (g2.lt q hq).2
        exact hne6 q (by omega) (g3 q hq).1
      · rw [List.getElem?_append_left (by omega)] at hu
        exact (g3 q hq).2 j hj u hu
    · have hkl : k = LL.length := by simp at hk; omega
      subst hkl
      have e2 : (LL ++ [L])[LL.length] = L := by simp
      rw [e2]
      refine ⟨ar, cr, by rw [List.getElem?_append_right (by rw [h.ll.2.1]; exact Nat.le_refl _), h.ll.2.1]; simp, ?_, fun q hq => ⟨?_, fun j hj u hu e => ?_⟩⟩
      · refine own_kept (own_lowerS ho (by omega)) hk46 (fun q hq e => ?_)
        have h1 := hrb q hq
        have h2 := hvb q e.symm
        omega
      · have h1 := hrb q hq
        exact hne6 q h1.2 (fun e => by have := hvb q e; omega)
      · have h1 := hrb q hq
        have hul : j < us.length := by rw [h.ll.2.1]; exact hj
        rw [List.getElem?_append_left hul] at hu
        obtain ⟨aj, cj, g1, g2, _⟩ := h.rw j hj
        rw [g1] at hu
        simp only [Option.some.injEq] at hu
        rw [← hu] at e
        have := (g2.lt q e).2
        omega
/-- What small tells. -/
def SmallTold (k : Int) (Ts : List (List Int)) (w w' : World) (v : Value) : Prop := ∃ a' c' us, v = .agg #[.int .i64 k, .slice a' Ts.length c'] ∧ LLOwn w' w.heap.size (fun q => w.heap.size ≤ q) (.slice a' Ts.length c') us Ts ∧ RowsW w' w.heap.size (.slice a' Ts.length c') us Ts ∧ Below w.heap.size w w'
theorem SmallTold.at {k : Int} {Ts : List (List Int)} {w w' : World} {v : Value} (h : SmallTold k Ts w w' v) : ∃ a' c', v = .agg #[.int .i64 k, .slice a' Ts.length c'] ∧ LLAt w' a' Ts ∧ Below w.heap.size w w' := by
  obtain ⟨a', c', us, hv, hl, _, hb⟩ := h
  obtain ⟨a2, c2, e, _, hat⟩ := hl.at
  simp only [Value.slice.injEq] at e
  rw [← e.1] at hat
  exact ⟨a', c', hv, hat, hb⟩
end Go.Proofs.Ytlebimolgienkaa
namespace Go.Proofs.Ytlebimolgienkaa
open Go.RowKit Go.Lib Go.Shelf

/-- A row that was just made, whole. -/
theorem own_full {w : World} {base g m : Nat} {e : TypeId} {z : Value} (h : w.ownsRow base e 1 (.slice (some ⟨g, 0, none⟩) m m) m (List.replicate m z)) : w.heap[g]? = some (.cells (List.replicate m z).toArray e (0, 0)) := by
  rcases h.2 with ⟨hv, _⟩ | ⟨g', cap, cur, hv, h3, hgb, h5, h6, h7, h8⟩
  · simp at hv
  · simp only [Value.slice.injEq, Option.some.injEq, Addr.mk.injEq, and_true, true_and] at hv
    obtain ⟨rfl, rfl⟩ := hv
    rw [hgb]
    have : cur = (List.replicate m z).toArray := by
      rw [← h8, List.take_of_length_le (by rw [Array.length_toList, h7]; exact Nat.le_refl _)]
    rw [this]
theorem splice_rep {x z : Value} {n c m : Nat} : splice (List.replicate n x ++ List.replicate (m - n) z) n (List.replicate c x) = List.replicate (n + c) x ++ List.replicate (m - (n + c)) z := by
  unfold splice
  rw [List.take_append_of_le_length (by simp), List.drop_append]
  simp
  rw [← List.append_assoc, List.replicate_append_replicate]
  congr 2
  omega
/-- What a copy's cells must be, where there are any. -/
def CpOk (w : World) (cs : List Value) (dp sp : Option Addr) (g off : Nat) : Prop := 0 < cs.length → dp = some ⟨g, off, none⟩ ∧ ∃ ad, sp = some ad ∧ ∀ j v, cs[j]? = some v → w.cell? (ad.add j) = some v
theorem rep_cell {w : World} {g m k : Nat} {x z : Value} {t : TypeId} (h : w.heap[g]? = some (.cells (List.replicate k x ++ List.replicate (m - k) z).toArray t (0, 0))) {j : Nat} (hj : j < k) : w.cell? ⟨g, j, none⟩ = some x := by
  rw [cell_of_heap h]
  simp [List.getElem?_append_left, hj]

set_option maxHeartbeats 1000000 in
set_option maxRecDepth 100000 in
theorem rep_int (s o c : Nat) (x : Int) (m : Nat) (w : World) (hm : m ≤ 1000) (hc : w.cell? ⟨s, o, none⟩ = some (Value.int .i64 x)) :
    Calls Try.prog 88 #[.slice (some ⟨s, o, none⟩) 1 c, .int .i64 m] w fun e w' => ∃ g, e = .returned (.slice (some ⟨g, 0, none⟩) m m) ∧ w.heap.size ≤ g ∧ Row1 w' g m (fun _ => x) ∧ Below w.heap.size w w' := by
  have hs := block_lt_of_cell hc
  have hmul := Any.bits_Mul Try.mul 1 m (by omega) (by omega) w
  change Calls Try.prog 120 _ _ _ at hmul
  rw [show 1 * m / 18446744073709551616 = 0 by omega, show 1 * m % 18446744073709551616 = m by omega] at hmul
  obtain ⟨i0, hi, hz0, hz1, hz2⟩ := info_parts Try.info3
  obtain ⟨w2, hrun, hown, hgrow⟩ := run_make_full (P := Try.prog) w w.heap.size 28 3 i0 (Value.int .i64 0) 1 Try.underlying28 hi hz0 hz1 .i64 .i64 m (by rw [hz2]; omega) (by unfold maxLen; omega) (Nat.le_refl _)
  have hb2 : Below w.heap.size w w2 := Below.grown (Below.refl _ _) hgrow (Nat.le_refl _) (fun k hk => by cases hk)
  rw [made_ints] at hown
  have hlt := (hown.lt _ rfl).2
  have hful := own_full hown
  have HSZ : Hid ((Try.prog.info? 3).map (·.size) = some 1) := by
    show Option.map _ _ = _
    rw [hi]; exact congrArg some hz1
  have c2 := (hb2.cell (p := ⟨s, o, none⟩) hs).trans hc
  have qm : (m : Int) ≤ 9223372036854775807 := by omega
  have qw : IntKind.u64.wrap (m : Int) = (m : Int) := by simp [IntKind.wrap, IntKind.bits, IntKind.signed]; omega
  have qv : IntKind.i64.wrap (m : Int) = (m : Int) := by simp [IntKind.wrap, IntKind.bits, IntKind.signed]; omega
  have HMUL := hid hmul
  obtain ⟨C, hC⟩ := ex_eq (Nat.min 1 m)
  have hC1 : C ≤ 1 := by rw [hC]; exact Nat.min_le_left _ _
  have hC2 : C ≤ m := by rw [hC]; exact Nat.min_le_right _ _
  have HC0 : Hid (C = 0 → m = 0) := fun h => by rw [h] at hC; have : Nat.min 1 m = min 1 m := rfl; omega
  have HNN : Hid ((List.replicate C (Value.int .i64 x)).length = Nat.min 1 m) := by show _ = _; rw [List.length_replicate, hC]
  have HPOS : Hid (CpOk w2 (List.replicate C (Value.int .i64 x)) (some ⟨w.heap.size, 0, none⟩) (some ⟨s, o, none⟩) w.heap.size 0) := fun _ => ⟨rfl, ⟨s, o, none⟩, rfl, fun j v hj => by
    rw [List.getElem?_replicate] at hj
    by_cases e : j < C
    · rw [if_pos e] at hj
      obtain rfl : j = 0 := by omega
      cases hj
      exact c2
    · rw [if_neg e] at hj; cases hj⟩
  have HFIT : Hid (0 + (List.replicate C (Value.int .i64 x)).length ≤ (List.replicate m (Value.int .i64 0)).length) := by show _ ≤ _; simp; exact hC2
  have HON : Hid (∀ v ∈ List.replicate C (Value.int .i64 x), v.oneCell' = true) := fun v hv => by rw [(List.mem_replicate.1 hv).2]; rfl
  obtain ⟨cs, hcs⟩ := ex_eq (List.replicate C (Value.int .i64 x))
  have HCS := hid hcs
  rw [← hcs] at HNN HPOS HFIT HON
  have HFUL := hid hful
  have HB2 := hid hb2
  have hcl : cs.length = C := by rw [hcs]; simp
  clear hown hgrow hz0 hz2 hful hcs hC hc c2
  go_enter Try.func88, Try.ntmps88
  go_wp2_with (first
    | (go_at_call 120; refine HMUL.out.mono ?_; rintro e w' ⟨rfl, hw'⟩; rw [hw']; clear hw')
    | (refine wpList_copy_splice rfl _ _ _ _ rfl 3 Try.underlying28 HSZ.out _ _ _ _ _ _ rfl rfl w.heap.size 0 (List.replicate m (Value.int .i64 0)) 3 HFUL.out cs HNN.out HPOS.out HFIT.out HON.out w.heap.size w HB2.out (Nat.le_refl _) ?_; intro w5 HG5 hB5; rw [hcl]))
  have HG6 : Hid (w5.heap[w.heap.size]? = some (.cells (List.replicate C (Value.int .i64 x) ++ List.replicate (m - C) (Value.int .i64 0)).toArray 3 (0, 0))) := by
    show _ = _
    rw [HG5.out, HCS.out]
    have := splice_rep (x := Value.int .i64 x) (z := Value.int .i64 0) (n := 0) (c := C) (m := m)
    simp only [List.replicate_zero, List.nil_append, Nat.sub_zero, Nat.zero_add] at this
    rw [this]
  clear HG5 HCS HNN HPOS HFIT HON HFUL HB2 HMUL hcl
  go_wp2
  go_loopw [8] (fun i wr => ∃ k : Nat, C ≤ k ∧ k ≤ m ∧ i = .int .i64 k ∧ Hid (wr.heap[w.heap.size]? = some (.cells (List.replicate k (Value.int .i64 x) ++ List.replicate (m - k) (Value.int .i64 0)).toArray 3 (0, 0))) ∧ Below w.heap.size w wr) (fun i _ => m - (RowKit.intOf i).toNat)
  case atStart => exact ⟨C, Nat.le_refl _, hC2, rfl, HG6, hB5⟩
  case round =>
    obtain ⟨k, hk1, hk2, rfl, hG, hbr⟩ := hrel
    by_cases hlt2 : k < m
    · have hkp : 1 ≤ k := by
        by_cases e : C = 0
        · have := HC0.out e; omega
        · omega
      obtain ⟨E, hE⟩ := ex_eq (Nat.min k (m - k))
      have hE1 : E ≤ k := by rw [hE]; exact Nat.min_le_left _ _
      have hE2 : E ≤ m - k := by rw [hE]; exact Nat.min_le_right _ _
      have hE3 : 1 ≤ E := by rw [hE]; exact Nat.le_min.2 ⟨hkp, by omega⟩
      have HNN : Hid ((List.replicate E (Value.int .i64 x)).length = Nat.min k (m - k)) := by show _ = _; rw [List.length_replicate, hE]
      have HPOS : Hid (CpOk wr.drew (List.replicate E (Value.int .i64 x)) (some ⟨w.heap.size, k, none⟩) (some ⟨w.heap.size, 0, none⟩) w.heap.size k) := fun _ => ⟨rfl, ⟨w.heap.size, 0, none⟩, rfl, fun j v hj => by
        rw [List.getElem?_replicate] at hj
        by_cases e : j < E
        · rw [if_pos e] at hj
          cases hj
          rw [add_at, Nat.zero_add]
          exact rep_cell (w := wr) hG.out (by omega)
        · rw [if_neg e] at hj; cases hj⟩
      have HFIT : Hid (k + (List.replicate E (Value.int .i64 x)).length ≤ (List.replicate k (Value.int .i64 x) ++ List.replicate (m - k) (Value.int .i64 0)).length) := by show _ ≤ _; simp; omega
      have HON : Hid (∀ v ∈ List.replicate E (Value.int .i64 x), v.oneCell' = true) := fun v hv => by rw [(List.mem_replicate.1 hv).2]; rfl
      obtain ⟨cs, hcs⟩ := ex_eq (List.replicate E (Value.int .i64 x))
      obtain ⟨cur, hcur⟩ := ex_eq (List.replicate k (Value.int .i64 x) ++ List.replicate (m - k) (Value.int .i64 0))
      have HCS := hid hcs
      have HCUR := hid hcur
      rw [← hcs] at HNN HPOS HFIT HON
      rw [← hcur] at HFIT hG
      have HGD : Hid (wr.drew.heap[w.heap.size]? = some (.cells cur.toArray 3 (0, 0))) := hG
      have HBD : Hid (Below w.heap.size w wr.drew) := hbr.drew
      have hcl : cs.length = E := by rw [hcs]; simp
      have q1 : (k : Int) < (m : Int) := by omega
      have q2 : (k : Int) ≤ (m : Int) := by omega
      have q3 : ¬ m = k := by omega
      clear hcs hcur hE hG
      go_wp2_with fail
      go_region_law (refine step_copy_splice rfl (.tmp 41) (.tmp 44) 28 28 rfl 3 Try.underlying28 HSZ.out (some ⟨w.heap.size, k, none⟩) (some ⟨w.heap.size, 0, none⟩) (m - k) (m - k) k m (by simp [Act.eval, Act.put]) (by simp [Act.eval, Act.put]) w.heap.size k cur 3 HGD.out cs HNN.out HPOS.out HFIT.out HON.out w.heap.size w HBD.out (Nat.le_refl _) ?_; intro w6 HG7 hB6)
      all_goals
        have HG8 : Hid (w6.heap[w.heap.size]? = some (.cells (List.replicate (k + E) (Value.int .i64 x) ++ List.replicate (m - (k + E)) (Value.int .i64 0)).toArray 3 (0, 0))) := by
          show _ = _
          rw [HG7.out, HCS.out, HCUR.out, splice_rep]
        clear HG7 HCS HCUR HNN HPOS HFIT HON HGD HBD
        try simp only [List.getElem_toArray, List.getElem_cons_succ, List.getElem_cons_zero]
        try simp only [Act.put, List.setIfInBounds_toArray, List.set_cons_zero, List.set_cons_succ]
        have hwr : IntKind.i64.wrap ((k : Int) + (E : Int)) = ((k + E : Nat) : Int) := by simp [IntKind.wrap, IntKind.bits, IntKind.signed]; omega
        go_wp2
        go_roundw
        case rel => exact ⟨k + E, by omega, by omega, by go_num, HG8, hB6⟩
        case measure => simp [RowKit.intOf]; omega
    · obtain rfl : k = m := by omega
      have HRow1 : Hid (Row1 wr w.heap.size k (fun _ => x)) := ⟨(Array.getElem?_eq_some_iff.1 hG.out).1, fun j hj => ⟨rep_cell hG.out hj, frozen_of_heap hG.out _⟩⟩
      clear hG
      go_wp2
      go_ret
      exact ⟨w.heap.size, rfl, Nat.le_refl _, HRow1.out, hbr⟩

end Go.Proofs.Ytlebimolgienkaa
namespace Go.Proofs.Ytlebimolgienkaa
open Go.RowKit Go.Lib

/-- x was seen in set i: the sets ahead of k are done, and of set k the first j. -/
def SeenAt (Ss : List (List Int)) (k j : Nat) (x : Int) (i : Nat) : Prop := (i < k ∧ x ∈ Ss.getD i []) ∨ (i = k ∧ x ∈ (Ss.getD k []).take j)
/-- What is laid so far. -/
structure HomeTo (n : Nat) (Ss : List (List Int)) (k j : Nat) (D : Nat → Int) : Prop where
  is : ∀ x : Nat, x < n → ∀ i : Nat, D x = (i : Int) ↔ SeenAt Ss k j x i
  low : ∀ x : Nat, x < n → D x = -1 ∨ ∃ i : Nat, D x = (i : Int)
theorem home_zero (n : Nat) (Ss : List (List Int)) : HomeTo n Ss 0 0 (fun _ => -1) :=
  ⟨fun x _ i => ⟨fun h => by omega, fun h => by rcases h with ⟨h, _⟩ | ⟨_, h⟩; (· omega); (· simp at h)⟩, fun _ _ => Or.inl rfl⟩
theorem HomeTo.row {n k j : Nat} {Ss : List (List Int)} {D : Nat → Int} (h : HomeTo n Ss k j D) (hj : (Ss.getD k []).length ≤ j) : HomeTo n Ss (k + 1) 0 D := by
  refine ⟨fun x hx i => ?_, h.low⟩
  rw [h.is x hx i]
  unfold SeenAt
  rw [List.take_of_length_le hj, List.take_zero]
  constructor
  · rintro (⟨h1, h2⟩ | ⟨rfl, h2⟩)
    · exact Or.inl ⟨by omega, h2⟩
    · exact Or.inl ⟨by omega, h2⟩
  · rintro (⟨h1, h2⟩ | ⟨_, h2⟩)
    · by_cases e : i = k
      · subst e; exact Or.inr ⟨rfl, h2⟩
      · exact Or.inl ⟨by omega, h2⟩
    · cases h2
theorem getD_at {Ss : List (List Int)} {k : Nat} (hk : k < Ss.length) : Ss.getD k [] = Ss[k] := by rw [List.getD_eq_getElem?_getD, List.getElem?_eq_getElem hk]; rfl
theorem HomeTo.put {n k j v : Nat} {Ss : List (List Int)} {D : Nat → Int} (h : HomeTo n Ss k j D) (hk : k < Ss.length) (hj : j < Ss[k].length) (hv : Ss[k][j] = (v : Int)) (hn : D v = -1) : HomeTo n Ss k (j + 1) (fun x => if x = v then (k : Int) else D x) := by
  have hm : ∀ x : Int, x ∈ (Ss.getD k []).take (j + 1) ↔ x ∈ (Ss.getD k []).take j ∨ x = (v : Int) := fun x => by
    rw [getD_at hk, ← List.take_append_getElem hj, List.mem_append, hv]; simp
  refine ⟨fun x hx i => ?_, fun x hx => ?_⟩
  · have hs : SeenAt Ss k (j + 1) x i ↔ SeenAt Ss k j x i ∨ (i = k ∧ x = v) := by
      unfold SeenAt
      rw [hm]
      constructor
      · rintro (h1 | ⟨h1, h2 | h2⟩)
        · exact Or.inl (Or.inl h1)
        · exact Or.inl (Or.inr ⟨h1, h2⟩)
        · exact Or.inr ⟨h1, by omega⟩
      · rintro ((h1 | ⟨h1, h2⟩) | ⟨h1, h2⟩)
        · exact Or.inl h1
        · exact Or.inr ⟨h1, Or.inl h2⟩
        · exact Or.inr ⟨h1, Or.inr (by omega)⟩
    rw [hs, ← h.is x hx i]
    by_cases e : x = v
    · subst e
      simp only [if_true, hn]
      constructor
      · intro h1; exact Or.inr ⟨by omega, trivial⟩
      · rintro (h1 | ⟨h1, _⟩)
        · omega
        · rw [h1]
    · simp only [if_neg e]
      constructor
      · exact Or.inl
      · rintro (h1 | ⟨_, h1⟩)
        · exact h1
        · exact absurd h1 e
  · by_cases e : x = v
    · exact Or.inr ⟨k, by simp only [if_pos e]⟩
    · simp only [if_neg e]; exact h.low x hx
/-- No vertex is in two sets. -/
def ApartS (Ss : List (List Int)) : Prop := ∀ i j, i < j → ∀ x, x ∈ Ss.getD i [] → x ∉ Ss.getD j []
theorem HomeTo.two {n k j v : Nat} {Ss : List (List Int)} {D : Nat → Int} (h : HomeTo n Ss k j D) (hk : k < Ss.length) (hj : j < Ss[k].length) (hv : Ss[k][j] = (v : Int)) (hvn : v < n) (hnd : Ss[k].Nodup) (hn : D v ≠ -1) : ¬ ApartS Ss := fun ha => by
  rcases h.low v hvn with h1 | ⟨i, h1⟩
  · exact hn h1
  · rcases (h.is v hvn i).1 h1 with ⟨h2, h3⟩ | ⟨h2, h3⟩
    · refine ha i k h2 v h3 ?_
      rw [getD_at hk, ← hv]; exact List.getElem_mem hj
    · rw [getD_at hk] at h3
      obtain ⟨q, hq, e⟩ := List.mem_iff_getElem.1 h3
      rw [List.length_take] at hq
      rw [List.getElem_take] at e
      exact List.pairwise_iff_getElem.1 hnd q j (by omega) hj (by omega) (e.trans hv.symm)
theorem HomeTo.wf {n : Nat} {Ss : List (List Int)} {D : Nat → Int} (h : HomeTo n Ss Ss.length 0 D) (hS : Ss.length ≤ 1000) : ∀ x, x < n → (Lit.int .i64 (D x)).wf = true := fun x hx => by
  have hb : -1 ≤ D x ∧ D x < 1000 := by
    rcases h.low x hx with h1 | ⟨i, h1⟩
    · omega
    · rcases (h.is x hx i).1 h1 with ⟨h2, _⟩ | ⟨_, h2⟩
      · omega
      · simp at h2
  exact WalkArith.wf_i64 (by omega)
theorem HomeTo.all {n : Nat} {Ss : List (List Int)} {D : Nat → Int} (h : HomeTo n Ss Ss.length 0 D) (hin : ∀ i, ∀ x ∈ Ss.getD i [], 0 ≤ x ∧ x < (n : Int)) : HomeIs n Ss (fun x => D x.toNat) ∧ ApartS Ss := by
  have key : ∀ x : Nat, x < n → ∀ i : Nat, D x = (i : Int) ↔ i < Ss.length ∧ (x : Int) ∈ Ss.getD i [] := fun x hx i => by
    rw [h.is x hx i]
    unfold SeenAt
    constructor
    · rintro (h1 | ⟨_, h2⟩)
      · exact h1
      · simp at h2
    · exact Or.inl
  refine ⟨fun x h0 h1 i hi => ?_, fun i j hij x hx hy => ?_⟩
  · have := key x.toNat (by omega) i
    rw [Int.toNat_of_nonneg h0] at this
    rw [this]
    exact ⟨fun h => h.2, fun h => ⟨hi, h⟩⟩
  · have ix := hin i x hx
    have e1 := (key x.toNat (by omega) i).2 ⟨mem_getD hx, by rw [Int.toNat_of_nonneg ix.1]; exact hx⟩
    have e2 := (key x.toNat (by omega) j).2 ⟨mem_getD hy, by rw [Int.toNat_of_nonneg ix.1]; exact hy⟩
    omega

set_option maxHeartbeats 4000000 in
set_option maxRecDepth 100000 in
theorem homes_any (n : Nat) (a : Option Addr) (cap : Nat) (Ss : List (List Int)) (w : World) (hn : n ≤ 1000) (hS : Ss.length ≤ 1000) (hL : LLAt w a Ss) (hin : ∀ i, ∀ x ∈ Ss.getD i [], 0 ≤ x ∧ x < (n : Int)) (hnd : ∀ S ∈ Ss, S.Nodup) :
    Calls Try.prog 48 #[.int .i64 n, .slice a Ss.length cap] w fun e w' => ((∃ g D, e = .returned (.tuple #[.slice (some ⟨g, 0, none⟩) n n, .bool true]) ∧ Row1 w' g n D ∧ w.heap.size ≤ g ∧ HomeIs n Ss (fun x => D x.toNat) ∧ ApartS Ss ∧ ∀ x, x < n → (Lit.int .i64 (D x)).wf = true) ∨ (e = .returned (.tuple #[.slice none 0 0, .bool false]) ∧ ¬ ApartS Ss)) ∧ Below w.heap.size w w' := by
  have HL0 := hid hL
  have HIN := hid hin
  have HND := hid hnd
  obtain ⟨M, hM⟩ := ex_eq Ss.length
  have HM := hid hM
  obtain ⟨W1, hW1⟩ := ex_eq (w.alloc (.cells #[.int .i64 (-1)] 3))
  have hb1 : Below w.heap.size w W1 := by rw [hW1]; exact (Below.refl _ _).alloc (Nat.le_refl _) _
  have hs1 : W1.heap.size = w.heap.size + 1 := by rw [hW1]; simp
  have CR := hid (rep_int w.heap.size 0 1 (-1) n W1 hn (by rw [hW1, cell_of_heap (heap_alloc_new w _)]; rfl))
  have HW1 := hid hW1
  have HB1 := hid hb1
  have hlen : ∀ k, k < Ss.length → (Ss.getD k []).length ≤ 1000 := fun k hk => by
    have h1 := hnd _ (getD_mem hk)
    have := len_le_subI h1 (b := (List.range n).map (fun i : Nat => (i : Int))) (fun x hx => by
      have := hin k x hx
      exact List.mem_map.2 ⟨x.toNat, by rw [List.mem_range]; omega, by omega⟩)
    rw [List.length_map, List.length_range] at this
    omega
  have HLEN := hid hlen
  rw [← hM] at hS ⊢
  clear hL hin hnd hM hW1 hb1 hlen
  go_enter Try.func48, Try.ntmps48
  go_wp2_with fail
  rw [← HW1.out]
  refine CR.out.mono ?_
  rintro e w2 ⟨g, rfl, hg, hrow, hb2⟩
  have hgw : w.heap.size ≤ g := by omega
  have hbw2 : Below w.heap.size w w2 := HB1.out.trans (hb2.mono HB1.out.size)
  have HRW := hid hrow
  have HB2 := hid hbw2
  clear CR hrow hb2 hbw2 hs1
  go_wp2
  go_loopw [16] (fun i wz => ∃ k : Nat, k ≤ M ∧ i = .int .i64 k ∧ Hid (∃ D, Row1 wz g n D ∧ HomeTo n Ss k 0 D) ∧ Hid (Below w.heap.size w wz)) (fun i _ => M - (RowKit.intOf i).toNat)
  case atStart => exact ⟨0, Nat.zero_le _, rfl, ⟨_, HRW.out, home_zero n Ss⟩, HB2.out⟩
  case round =>
    clear HRW HB2
    obtain ⟨k, hk, rfl, hD, hb⟩ := hrel
    by_cases hlt : k < M
    · have hkr : k < Ss.length := by rw [← HM.out]; exact hlt
      obtain ⟨ga, off, ak, ck, rfl, c00, hI0⟩ := HL0.out.at hkr
      have c0 := (hb.out.cell (p := ⟨ga, off + k, none⟩) (block_lt_of_cell c00)).trans c00
      have hgk : Ss.getD k [] = Ss[k] := getD_at hkr
      obtain ⟨J, hJ⟩ := ex_eq Ss[k].length
      have hJl : J ≤ 1000 := by rw [hJ, ← hgk]; exact HLEN.out k hkr
      rw [← hJ] at c0
      have HIX : Hid (∀ X, Below w.heap.size w X → IAt X ak Ss[k]) := fun X hX => hI0.below hX
      have HJ : Hid (J = Ss[k].length) := hJ
      have q1 : (k : Int) < (M : Int) := by omega
      have HGK := hid hgk
      clear hJ hI0 c00 hgk
      go_wp2
      clear c0
      go_loopw [23] (fun i wz => ∃ j : Nat, j ≤ J ∧ i = .int .i64 j ∧ Hid (∃ D, Row1 wz g n D ∧ HomeTo n Ss k j D) ∧ Hid (Below w.heap.size w wz)) (fun i _ => J - (RowKit.intOf i).toNat)
      case atStart => exact ⟨0, Nat.zero_le _, rfl, hD, hb⟩
      case round =>
        clear hD hb
        obtain ⟨j, hj, rfl, hD, hb⟩ := hrel
        by_cases hlj : j < J
        · have hjr : j < Ss[k].length := by rw [← HJ.out]; exact hlj
          obtain ⟨gs, os, rfl, hgs, hcs⟩ := HIX.out wr hb.out (by omega)
          have d0 := hcs j hjr
          have hvi := HIN.out k (Ss[k][j]) (by rw [HGK.out]; exact List.getElem_mem hjr)
          obtain ⟨v, hv⟩ : ∃ v : Nat, Ss[k][j] = (v : Int) := ⟨(Ss[k][j]).toNat, by omega⟩
          have hvn : v < n := by omega
          rw [hv] at d0
          obtain ⟨D, hrow, hto⟩ := hD.out
          obtain ⟨y0, yf⟩ := hrow.2 v hvn
          have q2 : (j : Int) < (J : Int) := by omega
          have q3 : (v : Int) < (n : Int) := by omega
          by_cases hneg : D v = -1
          · rw [hneg] at y0
            have HNX : Hid (∃ D, Row1 (wr.setCell ⟨g, v, none⟩ (.int .i64 k)) g n D ∧ HomeTo n Ss k (j + 1) D) := ⟨_, hrow.put hvn (k : Int), hto.put hkr hjr hv hneg⟩
            have HBX : Hid (Below w.heap.size w (wr.setCell ⟨g, v, none⟩ (.int .i64 k))) := hb.out.setCell (p := ⟨g, v, none⟩) hgw _
            clear hcs hvi hv hrow hto hneg hD hb
            go_wp2
            go_roundw
            case rel => exact ⟨j + 1, by omega, by go_num, HNX, HBX⟩
            case measure => simp [RowKit.intOf]; omega
          · obtain ⟨c, hc⟩ := ex_eq (D v)
            rw [← hc] at y0 hneg
            have q4 : (c != -1) = true := by simp [bne, hneg]
            have HNO : Hid (¬ ApartS Ss) := hto.two hkr hjr hv hvn (HND.out _ (List.getElem_mem hkr)) (by rw [← hc]; exact hneg)
            clear hcs hvi hv hrow hto hD hc
            go_wp2
            go_ret2
            exact ⟨Or.inr ⟨rfl, HNO.out⟩, hb.out⟩
        · obtain rfl : j = J := by omega
          have HNX : Hid (∃ D, Row1 wr g n D ∧ HomeTo n Ss (k + 1) 0 D) := by
            obtain ⟨D, h1, h2⟩ := hD.out
            exact ⟨D, h1, h2.row (by rw [HGK.out, ← HJ.out]; exact Nat.le_refl _)⟩
          clear hD
          go_wp2
          go_roundw
          case rel => exact ⟨k + 1, by omega, by go_num, HNX, hb⟩
          case measure => simp [RowKit.intOf]; omega
    · obtain rfl : k = M := by omega
      have HFI : Hid (∃ D, Row1 wr g n D ∧ HomeIs n Ss (fun x => D x.toNat) ∧ ApartS Ss ∧ ∀ x, x < n → (Lit.int .i64 (D x)).wf = true) := by
        obtain ⟨D, h1, h2⟩ := hD.out
        rw [HM.out] at h2
        exact ⟨D, h1, (h2.all HIN.out).1, (h2.all HIN.out).2, h2.wf (by rw [← HM.out]; exact hS)⟩
      clear hD
      go_wp2
      go_ret2
      obtain ⟨D, h1, h2, h3⟩ := HFI.out
      exact ⟨Or.inl ⟨g, D, rfl, h1, hgw, h2, h3⟩, hb.out⟩
end Go.Proofs.Ytlebimolgienkaa
