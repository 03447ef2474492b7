/-
  What the laws of layer 6 ask of the program's calls: a row of contracts; and the small case that they begin with.
-/
import Derived.Test.YtagigeieoijciaaB07
import Derived.Test.YtagigeieoijciaaB04
import Derived.Test.YtagigeieoijciaaB05
import Derived.Test.YtagigeieoijciaaB10
namespace Go.Proofs.Ytagigeieoijciaa
open Go.RowKit Go.Lib

structure SubOps : Prop where
  ind : ∀ (n : Int) (a : Option Addr) (cap : Nat) (es : List (Int × Int)) (la : Option Addr) (lc : Nat) (l : List Int) (b : Bool) (w : World), es.length ≤ 1000000 → l.length ≤ 1000000 → Slw a cap es.length → Slw la lc l.length → EAt w a es → IAt w la l → (b = true ↔ RightG n es) →
    Calls Try.prog 12 #[.agg #[.int .i64 n, .slice a es.length cap], .slice la l.length lc] w fun e w' => ∃ v, e = .returned v ∧ SubTold (IndS n es l) w w' v
  del : ∀ (n : Int) (a : Option Addr) (cap : Nat) (es : List (Int × Int)) (v : Int) (b : Bool) (w : World), es.length ≤ 1000000 → Slw a cap es.length → EAt w a es → (b = true ↔ RightG n es) →
    Calls Try.prog 15 #[.agg #[.int .i64 n, .slice a es.length cap], .int .i64 v] w fun e w' => ∃ u, e = .returned u ∧ SubTold (DelS n es v) w w' u
  con : ∀ (n : Int) (a : Option Addr) (cap : Nat) (es : List (Int × Int)) (x y : Int) (b : Bool) (w : World), es.length ≤ 1000000 → Slw a cap es.length → EAt w a es → (b = true ↔ RightG n es) →
    Calls Try.prog 17 #[.agg #[.int .i64 n, .slice a es.length cap], .int .i64 x, .int .i64 y] w fun e w' => ∃ u, e = .returned u ∧ SubTold (ConS n es x y) w w' u
theorem esS_del : DelS 4 esS 1 0 3 [(0, 2), (1, 2)] := Or.inr (Or.inr ⟨esS_right, by decide, rfl, rfl, by
  have h := del_ind (n := 4) (v := 1) (es := esS) esS_right (by decide)
  have e : ((esS.filter (fun e => !(e.1 == ((1 : Nat) : Int)) && !(e.2 == ((1 : Nat) : Int)))).map (fun e => (dnI 1 e.1, dnI 1 e.2))) = [(0, 2), (1, 2)] := by decide
  rw [e] at h
  exact h⟩)
theorem esS_con : ConS 4 esS 3 0 0 3 [(0, 1), (0, 2), (1, 2)] := Or.inr (Or.inr (Or.inr ⟨esS_right, by decide, esS_adj.2 (by simp), rfl, rfl, by
  have h := conL_con 4 esS 0 3
  have e : conL 4 esS 0 3 = [(0, 1), (0, 2), (1, 2)] := by decide
  rw [e] at h
  exact h⟩))
theorem esS_ind : IndS 4 esS [2, 0] 0 2 [] := Or.inr (Or.inr (Or.inr ⟨esS_right, by unfold InL; decide, by decide, rfl, rfl, by
  have h := indTo_all esS ([2, 0] : List Int) (j := 0) (by simp)
  have e : indTo esS ([2, 0] : List Int) ([2, 0] : List Int).length 0 = [] := by decide
  rw [e] at h
  exact h⟩))
theorem esS_none : ConS 4 esS 0 2 6 0 [] := Or.inr (Or.inr (Or.inl ⟨esS_right, by decide, (fun h => by have := esS_adj.1 h; simp at this), rfl, rfl, rfl⟩))

set_option maxHeartbeats 4000000 in
set_option maxRecDepth 100000 in
theorem sshown_any (O : SubOps) (w : World) :
    Calls Try.prog 10 #[] w fun e w' => e = .returned (.bool true) ∧ Below w.heap.size w w' := by
  have HO := hid O
  clear O
  obtain ⟨W1, hW1⟩ := ex_eq ((w.alloc (.cells #[.int .i64 0, .int .i64 1, .int .i64 0, .int .i64 3, .int .i64 1, .int .i64 2, .int .i64 2, .int .i64 3] 40)).alloc (.cells #[.int .i64 4, .slice (some ⟨w.heap.size, 0, none⟩) 4 4] 27))
  have hs1 : W1.heap.size = w.heap.size + 1 + 1 := by rw [hW1]; simp
  have hb1 : Below w.heap.size w W1 := by rw [hW1]; exact (below_one w _).trans ((below_one _ _).mono (by simp))
  have hE1 : EAt (w.alloc (.cells #[.int .i64 0, .int .i64 1, .int .i64 0, .int .i64 3, .int .i64 1, .int .i64 2, .int .i64 2, .int .i64 3] 40)) (some ⟨w.heap.size, 0, none⟩) esS := eat_of_cells (by simp) (fun j u hu => by
    rw [Nat.zero_add, cell_of_heap (heap_alloc_new w _), ← Array.getElem?_toList]
    exact hu)
  have HGC : Hid (GC W1 (w.heap.size + 1) 4 (some ⟨w.heap.size, 0, none⟩) 4 4 esS) := by
    have o := heap_alloc_new (w.alloc (.cells #[.int .i64 0, .int .i64 1, .int .i64 0, .int .i64 3, .int .i64 1, .int .i64 2, .int .i64 2, .int .i64 3] 40)) (.cells #[.int .i64 4, .slice (some ⟨w.heap.size, 0, none⟩) 4 4] 27)
    rw [← hW1, show (w.alloc (.cells #[.int .i64 0, .int .i64 1, .int .i64 0, .int .i64 3, .int .i64 1, .int .i64 2, .int .i64 2, .int .i64 3] 40)).heap.size = w.heap.size + 1 by simp] at o
    exact ⟨cell_of_heap o 0, cell_of_heap o 1, by rw [hW1]; exact hE1.below (below_one _ _)⟩
  have C1 := hid (HO.out.del 4 (some ⟨w.heap.size, 0, none⟩) 4 esS 1 true W1 (by decide) (sl_some (by decide)).w HGC.out.at_ ⟨fun _ => esS_right, fun _ => rfl⟩)
  have HW1 := hid hW1
  have HB1 := hid hb1
  obtain ⟨g0, g1⟩ := HGC.out.cells
  clear hW1 hs1 hb1 hE1
  go_enter Try.func10, Try.ntmps10
  go_wp2_with fail
  rw [← HW1.out]
  refine C1.out.mono ?_
  rintro e w2 ⟨v, rfl, er, N2, E2, a2, c2, rfl, hS2, hsl2, hea2, hb2⟩
  obtain ⟨rfl, rfl, rfl⟩ := hS2.one esS_del
  -- the second call
  obtain ⟨W3, hW3⟩ := ex_eq (w2.alloc (.cells #[.int .i64 3, .slice a2 2 c2] 27))
  have hb3 : Below W1.heap.size W1 W3 := by rw [hW3]; exact hb2.alloc hb2.size _
  have HGC3 := hid (HGC.out.on hb3)
  have o3 : W3.heap[w2.heap.size]? = some (.cells #[.int .i64 3, .slice a2 2 c2] 27 (0, 0)) := by rw [hW3]; exact heap_alloc_new _ _
  have HE2 : Hid (EAt W3 a2 [((0 : Int), (2 : Int)), (1, 2)]) := hea2.below (by rw [hW3]; exact below_one _ _)
  have C2 := hid (HO.out.con 4 (some ⟨w.heap.size, 0, none⟩) 4 esS 3 0 true W3 (by decide) (sl_some (by decide)).w HGC3.out.at_ ⟨fun _ => esS_right, fun _ => rfl⟩)
  have HW3 := hid hW3
  have HB3 := hid hb3
  have HO3 := hid o3
  obtain ⟨k0, k1⟩ := HGC3.out.cells
  have HB23 : Hid (Below w.heap.size w W3) := HB1.out.trans (hb3.mono HB1.out.size)
  clear hW3 hb3 o3 hea2 hsl2 hb2 C1 HW1 g0 g1 hS2
  go_upto_region 3 with fail
  rw [← HW3.out]
  clear HW3
  go_wp2_with fail
  refine C2.out.mono ?_
  rintro e w4 ⟨v, rfl, er, N4, E4, a4, c4, rfl, hS4, hsl4, hea4, hb4⟩
  obtain ⟨rfl, rfl, rfl⟩ := hS4.one esS_con
  -- the third call
  obtain ⟨W5, hW5⟩ := ex_eq (w4.alloc (.cells #[.int .i64 3, .slice a4 3 c4] 27))
  have hb5 : Below W3.heap.size W3 W5 := by rw [hW5]; exact hb4.alloc hb4.size _
  have HGC5 := hid (HGC3.out.on hb5)
  have o5 : W5.heap[w4.heap.size]? = some (.cells #[.int .i64 3, .slice a4 3 c4] 27 (0, 0)) := by rw [hW5]; exact heap_alloc_new _ _
  have hw2l : w2.heap.size < W3.heap.size := (Array.getElem?_eq_some_iff.1 HO3.out).1
  have HO35 := hid ((hb5.block _ hw2l).trans HO3.out)
  have HE25 := hid (HE2.out.below hb5)
  have HB25 : Hid (Below w.heap.size w W5) := HB23.out.trans (hb5.mono HB23.out.size)
  have C3 := hid (HO.out.ind 4 (some ⟨w.heap.size, 0, none⟩) 4 esS (some ⟨W5.heap.size, 0, none⟩) 2 [2, 0] true (W5.alloc (.cells #[.int .i64 2, .int .i64 0] 3)) (by decide) (by decide) (sl_some (by decide)).w (sl_some (by decide)).w (HGC5.out.on (below_one _ _)).at_ (iat_new W5 [2, 0] _ _ rfl) ⟨fun _ => esS_right, fun _ => rfl⟩)
  have HW5 := hid hW5
  have HO5 := hid o5
  obtain ⟨m0, m1⟩ := HGC5.out.cells
  clear hW5 hb5 o5 hea4 hsl4 hb4 C2 k0 k1 hS4 hw2l HO3 HE2 HB23 HGC3
  go_upto_region 4 with fail
  rw [← HW5.out]
  clear HW5
  go_wp2_with fail
  refine C3.out.mono ?_
  rintro e w6 ⟨v, rfl, er, N6, E6, a6, c6, rfl, hS6, hsl6, hea6, hb6⟩
  obtain ⟨rfl, rfl, rfl⟩ := hS6.one esS_ind
  -- the fourth call
  obtain ⟨W7, hW7⟩ := ex_eq (w6.alloc (.cells #[.int .i64 2, .slice a6 0 c6] 27))
  have hb6' : Below W5.heap.size W5 w6 := (below_one _ _).trans (hb6.mono (by simp))
  have hb7 : Below W5.heap.size W5 W7 := by rw [hW7]; exact hb6'.alloc hb6'.size _
  have HGC7 := hid (HGC5.out.on hb7)
  have o7 : W7.heap[w6.heap.size]? = some (.cells #[.int .i64 2, .slice a6 0 c6] 27 (0, 0)) := by rw [hW7]; exact heap_alloc_new _ _
  have HO37 := hid ((hb7.block _ (Array.getElem?_eq_some_iff.1 HO35.out).1).trans HO35.out)
  have HO57 := hid ((hb7.block _ (Array.getElem?_eq_some_iff.1 HO5.out).1).trans HO5.out)
  have HE27 := hid (HE25.out.below hb7)
  have HB27 : Hid (Below w.heap.size w W7) := HB25.out.trans (hb7.mono HB25.out.size)
  have C4 := hid (HO.out.con 4 (some ⟨w.heap.size, 0, none⟩) 4 esS 0 2 true W7 (by decide) (sl_some (by decide)).w HGC7.out.at_ ⟨fun _ => esS_right, fun _ => rfl⟩)
  have HW7 := hid hW7
  have HO7 := hid o7
  obtain ⟨n0, n1⟩ := HGC7.out.cells
  clear hW7 hb7 o7 hea6 hsl6 hb6 hb6' C3 m0 m1 hS6 HO35 HO5 HE25 HB25 HGC5
  go_upto_region 5 with fail
  rw [← HW7.out]
  clear HW7
  go_wp2_with fail
  refine C4.out.mono ?_
  rintro e w8 ⟨v, rfl, er, N8, E8, a8, c8, rfl, hS8, hsl8, hea8, hb8⟩
  obtain ⟨rfl, rfl, rfl⟩ := hS8.one esS_none
  obtain ⟨W9, hW9⟩ := ex_eq (w8.alloc (.cells #[.int .i64 0, .slice a8 0 c8] 27))
  have hb9 : Below W7.heap.size W7 W9 := by rw [hW9]; exact hb8.alloc hb8.size _
  have p3 := (hb9.block _ (Array.getElem?_eq_some_iff.1 HO37.out).1).trans HO37.out
  have p5 := (hb9.block _ (Array.getElem?_eq_some_iff.1 HO57.out).1).trans HO57.out
  have p7 := (hb9.block _ (Array.getElem?_eq_some_iff.1 HO7.out).1).trans HO7.out
  have HB29 : Hid (Below w.heap.size w W9) := HB27.out.trans (hb9.mono HB27.out.size)
  obtain ⟨ge, oe, hae, _, hce⟩ := (HE27.out.below hb9) (by decide)
  subst hae
  have x0 : W9.cell? ⟨ge, oe, none⟩ = some (.int .i64 0) := by have h := (hce 0 (by decide)).1; simpa using h
  have x1 : W9.cell? ⟨ge, oe + 1, none⟩ = some (.int .i64 2) := by have h := (hce 0 (by decide)).2; simpa using h
  have r30 := cell_of_heap p3 0
  have r31 := cell_of_heap p3 1
  have r50 := cell_of_heap p5 0
  have r51 := cell_of_heap p5 1
  have r70 := cell_of_heap p7 0
  have r71 := cell_of_heap p7 1
  have HW9 := hid hW9
  clear hW9 hb9 p3 p5 p7 hea8 hsl8 hb8 C4 n0 n1 hS8 HO37 HO57 HO7 HE27 HB27 HGC7 hce
  go_upto_region 6 with fail
  rw [← HW9.out]
  clear HW9
  go_wp2
  go_ret
  exact ⟨rfl, HB29.out⟩
end Go.Proofs.Ytagigeieoijciaa
