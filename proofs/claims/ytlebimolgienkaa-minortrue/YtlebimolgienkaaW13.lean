/-
  The small case that the laws of layer 5 begin with answers true.
  The document's Apart (layer 5).
  The document's Turn (layer 5): all ways round are tried.
  carcanetlaw05.WalkApart answers true, for any walks that keep the contracts.
-/
import Derived.Test.YtlebimolgienkaaW05
import Derived.Test.YtlebimolgienkaaW02
import Derived.Test.YtlebimolgienkaaW01
import Derived.Deep.LoopGhost
import Derived.Test.YtlebimolgienkaaW09
import Derived.Test.YtlebimolgienkaaW04
import Derived.Test.YtlebimolgienkaaW08
namespace Go.Proofs.Ytlebimolgienkaa
open Go.RowKit Go.Lib

def esS : List (Int × Int) := [(0, 1), (0, 3), (1, 2), (2, 3)]
/-- What lies in memory while the small case goes on. -/
structure ShW (w W : World) (B : Nat) (a1 a2 : Option Addr) : Prop where
  gc : GC W (B + 1) 4 (some ⟨B, 0, none⟩) 4 4 esS
  r1 : IAt W a1 [0, 3, 2]
  r2 : IAt W a2 [0, 2, 1, 3]
  bel : Below B w W
  le : B ≤ W.heap.size
theorem ShW.on {w W X : World} {B : Nat} {a1 a2 : Option Addr} (h : ShW w W B a1 a2) (hb : Below W.heap.size W X) : ShW w X B a1 a2 := ⟨h.gc.on hb, h.r1.below hb, h.r2.below hb, h.bel.trans (hb.mono h.le), Nat.le_trans h.le hb.size⟩
theorem below_one (W : World) (o : Obj) : Below W.heap.size W (W.alloc o) := (Below.refl _ _).alloc (Nat.le_refl _) o

end Go.Proofs.Ytlebimolgienkaa
namespace Go.Proofs.Ytlebimolgienkaa
open Go.RowKit Go.Lib

/-- The inner numbers of L below place m stand at no other place. -/
def RowOk (LL : List (List Int)) (L : List Int) (m : Nat) : Prop := ∀ k (h : k + 1 < L.length), 1 ≤ k → k < m → LL.flatten.count (L[k]'(by omega)) = 1
theorem RowOk.next {LL : List (List Int)} {L : List Int} {m : Nat} (h : RowOk LL L m) (hc : ∀ hk : m + 1 < L.length, LL.flatten.count (L[m]'(by omega)) = 1) : RowOk LL L (m + 1) := fun k hk h1 hm => by
  by_cases e : k < m
  · exact h k hk h1 e
  · obtain rfl : k = m := by omega
    exact hc hk
end Go.Proofs.Ytlebimolgienkaa
namespace Go.Proofs.Ytlebimolgienkaa
open Go.RowKit Go.Lib

/-- Two rows of the call's own, side by side. -/
structure TwoSt (D : Nat) (wo wz : World) (v6 v7 : Value) (X Y : List Int) : Prop where
  o6 : wz.ownsRow D 3 1 v6 X.length (X.map (Value.int .i64))
  o7 : wz.ownsRow D 3 1 v7 Y.length (Y.map (Value.int .i64))
  ne : v6.ownBlock ≠ v7.ownBlock
  bel : Below D wo wz
theorem TwoSt.turn {D : Nat} {wo wz : World} {v6 v7 : Value} {X Y : List Int} (h : TwoSt D wo wz v6 v7 X Y) : TwoSt D wo wz v7 v6 Y X := ⟨h.o7, h.o6, fun e => h.ne e.symm, h.bel⟩
theorem TwoSt.put {D : Nat} {wo wz w4 : World} {v6 v7 v4 : Value} {X Y : List Int} {O : Obj} {x : Int} (h : TwoSt D wo wz v6 v7 X Y) (hD : D ≤ wo.heap.size) (ho : w4.ownsRow D 3 1 v4 (X.length + 1) (X.map (Value.int .i64) ++ [.int .i64 x])) (hg : (wz.alloc O).grownBy w4 v6.ownBlock) (hat : v4.ownBlock = v6.ownBlock ∨ v4.ownBlock = some (wz.alloc O).heap.size) : TwoSt D wo w4 v4 v7 (X ++ [x]) Y := by
  have hk : KeptBut (fun k => some k = v6.ownBlock) wz w4 := (kept_alloc wz O _).trans (KeptBut.of_grown hg)
  refine ⟨by rw [List.length_append, List.map_append]; exact ho, own_kept h.o7 hk (fun g e e2 => h.ne (e2.symm.trans e.symm)), fun e => ?_, ?_⟩
  · rcases hat with h1 | h1
    · exact h.ne (h1.symm.trans e)
    · rw [h1] at e
      have := (h.o7.lt _ e.symm).2
      simp at this
      omega
  · exact h.bel.trans (hk.below (Nat.le_trans hD h.bel.size) (fun k _ e => (h.o6.lt k e.symm).1))
end Go.Proofs.Ytlebimolgienkaa
namespace Go.Proofs.Ytlebimolgienkaa
open Go.RowKit Go.Lib

/-- The first twenty of each of the first t rows. -/
def cutL (LL : List (List Int)) (t : Nat) : List (List Int) := (LL.take t).map (fun L => L.take 20)
theorem cutL_len {LL : List (List Int)} {t : Nat} (h : t ≤ LL.length) : (cutL LL t).length = t := by unfold cutL; rw [List.length_map, List.length_take]; omega
theorem cutL_next {LL : List (List Int)} {t : Nat} (h : t < LL.length) : cutL LL (t + 1) = cutL LL t ++ [LL[t].take 20] := by
  unfold cutL
  rw [List.take_succ_eq_append_getElem h, List.map_append]
  rfl
theorem CameR.wf {w : World} {a : Option Addr} {len cap : Nat} {LL : List (List Int)} (h : CameR w a len cap LL) : WfR LL := fun L hL x hx => by
  obtain ⟨k, hk, rfl⟩ := List.getElem_of_mem hL
  obtain ⟨_, _, _, _, hc⟩ := h.at_ (by omega)
  obtain ⟨_, _, _, hi⟩ := hc k hk
  exact hi.wf x hx
theorem llown_none (w : World) (base : Nat) (A : Nat → Prop) : LLOwn w base A (.slice none 0 0) [] [] := ⟨⟨rfl, Or.inl ⟨rfl, rfl⟩⟩, rfl, (fun g h => by cases h), fun k hk => absurd hk (by simp)⟩

end Go.Proofs.Ytlebimolgienkaa
