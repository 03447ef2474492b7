/-
  carcanetlaw04.PartBridge answers true, for any part that keeps the contracts, and any Add that keeps its own.
  What is whole stays so with a neighbour more; of two that meet both together are (WalkParts): pure.
  The document's Of of layer 3: a graph of a Net.
-/
import Derived.Test.YtccbheijfnodjaaB28
import Derived.Test.YtccbheijfnodjaaB02
import Derived.Test.YtccbheijfnodjaaB06
import Derived.Test.YtccbheijfnodjaaLWTurn
import Derived.Test.YtccbheijfnodjaaB14
import Derived.Test.YtccbheijfnodjaaB03
import Derived.Test.YtccbheijfnodjaaB10
namespace Go.Proofs.Ytccbheijfnodjaa
open Go.RowKit Go.Lib

/-- Some class ahead of the t-th has both. -/
theorem one_step {m : Nat} {f : Nat → Nat} {t r p q : Nat} (hr : t < (repsF m f).length) (he : (repsF m f)[t] = r) (hp : p < m) (hq : q < m) :
    ((∃ j, ∃ h : j < (repsF m f).length, j < t + 1 ∧ f p = (repsF m f)[j] ∧ f q = (repsF m f)[j]) ↔ ((∃ j, ∃ h : j < (repsF m f).length, j < t ∧ f p = (repsF m f)[j] ∧ f q = (repsF m f)[j]) ∨ ((p : Int) ∈ classF m f r ∧ (q : Int) ∈ classF m f r))) := by
  rw [mem_class_nat, mem_class_nat]
  constructor
  · rintro ⟨j, h, hj, h1, h2⟩
    by_cases e : j < t
    · exact Or.inl ⟨j, h, e, h1, h2⟩
    · obtain rfl : j = t := by omega
      exact Or.inr ⟨⟨hp, by rw [h1, he]⟩, hq, by rw [h2, he]⟩
  · rintro (⟨j, h, hj, h1, h2⟩ | ⟨⟨_, h1⟩, _, h2⟩)
    · exact ⟨j, h, by omega, h1, h2⟩
    · exact ⟨t, hr, by omega, by rw [h1, he], by rw [h2, he]⟩
theorem one_all {m : Nat} {f : Nat → Nat} (hP : Pt m f) {p q : Nat} (hp : p < m) : (∃ j, ∃ h : j < (repsF m f).length, j < (repsF m f).length ∧ f p = (repsF m f)[j] ∧ f q = (repsF m f)[j]) ↔ f p = f q := by
  constructor
  · rintro ⟨j, h, _, h1, h2⟩; rw [h1, h2]
  · intro e
    obtain ⟨j, hj, h1⟩ := rep_place hP hp
    exact ⟨j, hj, hj, h1.symm, by rw [h1, e]⟩
/-- Whether some class ahead of the t-th has both. -/
def OneIs (m : Nat) (f : Nat → Nat) (p q t : Nat) (o : Bool) : Prop := o = true ↔ ∃ j, ∃ h : j < (repsF m f).length, j < t ∧ f p = (repsF m f)[j] ∧ f q = (repsF m f)[j]
end Go.Proofs.Ytccbheijfnodjaa
namespace Go.Proofs.Ytccbheijfnodjaa
open Go.RowKit Go.Lib

theorem whole_cons {n : Int} {es : List (Int × Int)} {a : List Int} {u v : Int} (hR : RightG n es) (h : WholeL n es a) (hu : u ∈ a) (ha : Adj es u v) (hv : v ∉ a) : WholeL n es (v :: a) := by
  refine WholeL.of_head (List.nodup_cons.2 ⟨hv, h.nd⟩) (fun x hx => ?_) (by simp) (fun y hy => ?_)
  · rcases List.mem_cons.1 hx with rfl | hx
    · exact (ha.in hR).2.1
    · exact h.inn x hx
  · show Rch es (v :: a) v y
    rcases List.mem_cons.1 hy with rfl | hy
    · exact Rch.refl _ _ _
    · exact ((Rch.refl es (v :: a) v).step ha.symm (List.mem_cons_of_mem _ hu)).trans ((h.one u hu y hy).mono (fun z hz => List.mem_cons_of_mem _ hz))
/-- Both rows, what stands in the first one left out of the second. -/
def bothL (a b : List Int) : List Int := a ++ b.filter (fun x => !decide (x ∈ a))
theorem both_yes {a b : List Int} {k : Nat} (hk : k < b.length) (h : b[k] ∈ a) : bothL a (b.take (k + 1)) = bothL a (b.take k) := by
  unfold bothL
  rw [List.take_succ_eq_append_getElem hk, List.filter_append]
  simp [h]
theorem both_no {a b : List Int} {k : Nat} (hk : k < b.length) (h : b[k] ∉ a) : bothL a (b.take (k + 1)) = bothL a (b.take k) ++ [b[k]] := by
  unfold bothL
  rw [List.take_succ_eq_append_getElem hk, List.filter_append]
  simp [h]
theorem both_len (a b : List Int) : (bothL a b).length ≤ a.length + b.length := by
  unfold bothL
  rw [List.length_append]
  have := List.length_filter_le (fun x => !decide (x ∈ a)) b
  omega
theorem whole_both {n : Int} {es : List (Int × Int)} {a b : List Int} {z : Int} (h : WholeL n es a) (k : WholeL n es b) (ha : z ∈ a) (hb : z ∈ b) : WholeL n es (bothL a b) := by
  have hsa : ∀ x ∈ a, x ∈ bothL a b := fun x hx => List.mem_append_left _ hx
  have hsb : ∀ x ∈ b, x ∈ bothL a b := fun x hx => by
    by_cases e : x ∈ a
    · exact hsa x e
    · exact List.mem_append_right _ (List.mem_filter.2 ⟨hx, by simpa using e⟩)
  have hin : ∀ x ∈ bothL a b, x ∈ a ∨ x ∈ b := fun x hx => (List.mem_append.1 hx).imp id (fun h => (List.mem_filter.1 h).1)
  have hto : ∀ x ∈ bothL a b, Rch es (bothL a b) x z := fun x hx => by
    rcases hin x hx with e | e
    · exact (h.one x e z ha).mono hsa
    · exact (k.one x e z hb).mono hsb
  refine ⟨fun e => h.ne (List.append_eq_nil_iff.1 e).1, ?_, fun x hx => (hin x hx).elim (h.inn x) (k.inn x), fun x hx y hy => (hto x hx).trans ((hto y hy).symm hy)⟩
  unfold bothL
  refine List.nodup_append.2 ⟨h.nd, List.Sublist.nodup List.filter_sublist k.nd, fun x hx y hy e => ?_⟩
  subst e
  have := (List.mem_filter.1 hy).2
  simp at this
  exact this hx
end Go.Proofs.Ytccbheijfnodjaa
namespace Go.Proofs.Ytccbheijfnodjaa
open Go.RowKit Go.Lib

set_option maxHeartbeats 1000000 in
set_option maxRecDepth 100000 in
theorem net_any (n0 : Int) (a : Option Addr) (N cap : Nat) (l : List (Int × Int)) (most : Nat) (w : World) (hmost : most ≤ 1000) (hl : N = l.length) (hE : EAt w a l) :
    Calls Try.prog 18 #[.agg #[.int .i64 n0, .slice a N cap], .int .i64 most] w fun e w' => ∃ (m : Nat) (ys : List (Int × Int)) (a' : Option Addr) (cap' : Nat), e = .returned (.agg #[.int .i64 m, .slice a' ys.length cap']) ∧ m ≤ most ∧ RightG m ys ∧ ys.length ≤ 300 ∧ Sl a' cap' ys.length ∧ EAt w' a' ys ∧ Below w.heap.size w w' := by
  obtain ⟨W0, hW0, hsz, o1, o2, hB0⟩ := new_two' w (.cells #[.int .i64 n0, .slice a N cap] 28) (.cells #[.int .i64 0, .slice none 0 0] 24)
  have CA := hid (any_any n0 a N cap l most W0 hmost hl (hE.below hB0))
  have HW0 := hid hW0
  have HO2 := hid o2
  have HB0 := hid hB0
  clear hl hE hmost hW0 o1 o2 hB0
  go_enter Try.func18, Try.ntmps18
  go_wp2_with fail
  rw [← HW0.out]
  refine CA.out.mono ?_
  rintro e w3 ⟨m, ys, a3, c3, rfl, hm, hR, hys, hsl, hE3, hb3⟩
  obtain ⟨M, hM⟩ := ex_eq ys.length
  have HM := hid hM
  rw [← hM]
  have o3 : w3.heap[w.heap.size + 1]? = some (.cells #[.int .i64 0, .slice none 0 0] 24) := (hb3.block _ (by omega)).trans HO2.out
  have HNE := hid (eat_off_box o3 hE3)
  obtain ⟨x0, x1⟩ := two_cells o3
  have xf := frozen_of_heap o3
  have HB3 : Hid (Below w.heap.size w w3) := HB0.out.trans (hb3.mono HB0.out.size)
  have HE3 := hid hE3
  have HR := hid hR
  have HSL := hid hsl
  clear hM hE3 hb3 hR hsl o3 CA HW0 HO2 HB0
  go_wp2
  refine bodyPost_ret (v := .agg #[.int .i64 m, .slice a3 M c3]) ?_ rfl ⟨m, ys, a3, c3, by rw [← HM.out], hm, HR.out, hys, HSL.out, (HE3.out.set (p := ⟨w.heap.size + 1, 0, none⟩) HNE.out _).set (p := ⟨w.heap.size + 1, 1, none⟩) HNE.out _, (HB3.out.setCell (p := ⟨w.heap.size + 1, 0, none⟩) (by simp) _).setCell (p := ⟨w.heap.size + 1, 1, none⟩) (by simp) _⟩
  rw [results_cell1 rfl]
  go_simp
end Go.Proofs.Ytccbheijfnodjaa
