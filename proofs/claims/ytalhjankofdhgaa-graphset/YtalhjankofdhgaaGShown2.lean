/-
  carcanetlaw03.shown answers true.
-/
import Derived.Test.YtalhjankofdhgaaGShown
namespace Go.Proofs.Ytalhjankofdhgaa
open Go.RowKit Go.Lib

/-- A variable that holds a graph. -/
def GBox (w : World) (b : Nat) (n : Int) (sv : Value) : Prop := w.heap[b]? = some (.cells #[.int .i64 n, sv] 25)
theorem GBox.lt {w : World} {b : Nat} {n : Int} {sv : Value} (h : GBox w b n sv) : b < w.heap.size := (Array.getElem?_eq_some_iff.1 h).1
theorem GBox.on {w w' : World} {b : Nat} {n : Int} {sv : Value} (h : GBox w b n sv) (hb : Below w.heap.size w w') : GBox w' b n sv := (hb.block b h.lt).trans h
theorem GBox.cells {w : World} {b : Nat} {n : Int} {sv : Value} (h : GBox w b n sv) : w.cell? ⟨b, 0, none⟩ = some (.int .i64 n) ∧ w.cell? ⟨b, 1, none⟩ = some sv := ⟨cell_of_heap h 0, cell_of_heap h 1⟩
theorem GBox.new (w : World) (n : Int) (sv : Value) : GBox (w.alloc (.cells #[.int .i64 n, sv] 25)) w.heap.size n sv := heap_alloc_new _ _
theorem eat_new (w : World) (es : List (Int × Int)) (cs : Array Value) (hcs : cs = (cellsE es).toArray) : EAt (w.alloc (.cells cs 39)) (some ⟨w.heap.size, 0, none⟩) es := by
  subst hcs
  refine eat_of_cells (by simp) (fun j u hu => ?_)
  rw [Nat.zero_add, cell_of_heap (heap_alloc_new _ _)]
  simpa using hu

set_option maxHeartbeats 2000000 in
set_option maxRecDepth 100000 in
theorem shown_any (w : World) : Calls Try.prog 10 #[] w fun e w' => e = .returned (.bool true) ∧ Below w.heap.size w w' := by
  have A1 := fun W : World => (Below.refl _ W).alloc (Nat.le_refl _)
  have HA : Hid (∀ (W : World) (o : Obj), Below W.heap.size W (W.alloc o)) := A1
  clear A1
  go_enter Try.func10, Try.ntmps10
  go_wp2_with fail
  refine (sh_norm _ _ _ (eat_new w [(2, 1), (0, 0), (1, 2), (3, 0)] _ rfl)).mono ?_
  rintro e w1 ⟨a1, c1, rfl, hs1, hE1, hb1⟩
  have B1 : Below w.heap.size w w1 := (HA.out w _).trans (hb1.mono (HA.out w _).size)
  obtain ⟨V1, hV1⟩ := ex_eq (w1.alloc (.cells #[.int .i64 4, .slice a1 2 c1] 25))
  have G1 : GBox V1 w1.heap.size 4 (.slice a1 2 c1) := by rw [hV1]; exact GBox.new _ _ _
  have hbV1 : Below w1.heap.size w1 V1 := by rw [hV1]; exact HA.out _ _
  have B2 : Below w.heap.size w V1 := B1.trans (hbV1.mono B1.size)
  have HG1 : Hid (GBox V1 w1.heap.size 4 (.slice a1 2 c1)) := G1
  have HEV1 : Hid (EAt V1 a1 [(0, 3), (1, 2)]) := hE1.out.below hbV1
  have hEn : EAt (V1.alloc (.cells #[.int .i64 0, .int .i64 2] 39)) (some ⟨w1.heap.size + 1, 0, none⟩) [(0, 2)] := by
    have := eat_new V1 [(0, 2)] #[.int .i64 0, .int .i64 2] rfl
    rwa [show V1.heap.size = w1.heap.size + 1 by rw [hV1]; simp] at this
  have HEN : Hid (EAt (V1.alloc (.cells #[.int .i64 0, .int .i64 2] 39)) (some ⟨w1.heap.size + 1, 0, none⟩) [(0, 2)]) := hEn
  clear hEn
  have HV1 : Hid (V1 = w1.alloc (.cells #[.int .i64 4, .slice a1 2 c1] 25)) := hV1
  clear hV1 G1 hb1 hE1 B1 hbV1
  go_wp2_with fail
  rw [← HV1.out]
  refine (sh_bad _ _ _ HEN.out).mono ?_
  rintro e w2 ⟨a2, c2, rfl, hb2⟩
  have hb2' : Below V1.heap.size V1 w2 := (HA.out V1 _).trans (hb2.mono (HA.out V1 _).size)
  have B3 : Below w.heap.size w w2 := B2.trans (hb2'.mono B2.size)
  have HG2 : Hid (GBox w2 w1.heap.size 4 (.slice a1 2 c1)) := HG1.out.on hb2'
  have HE2 : Hid (EAt w2 a1 [(0, 3), (1, 2)]) := HEV1.out.below hb2'
  clear hb2 hb2' HG1 HEV1 HV1 B2
  obtain ⟨V2, hV2⟩ := ex_eq (w2.alloc (.cells #[.int .i64 0, .slice a2 0 c2] 25))
  have hbV2 : Below w2.heap.size w2 V2 := by rw [hV2]; exact HA.out _ _
  have HV2 : Hid (V2 = w2.alloc (.cells #[.int .i64 0, .slice a2 0 c2] 25)) := hV2
  have HG3 : Hid (GBox V2 w1.heap.size 4 (.slice a1 2 c1)) := HG2.out.on hbV2
  have HE3 : Hid (EAt V2 a1 [(0, 3), (1, 2)]) := HE2.out.below hbV2
  have B4 : Below w.heap.size w V2 := B3.trans (hbV2.mono B3.size)
  obtain ⟨k0, k1⟩ := HG3.out.cells
  rw [hV2] at k0 k1
  clear hV2 HG2 HE2 B3 hbV2
  go_wp2_with fail
  rw [← HV2.out]
  refine (sh_add _ _ _ HE3.out hs1.out).mono ?_
  rintro e w3 ⟨a3, c3, rfl, hs3, hE3, hb3⟩
  have HG4 : Hid (GBox w3 w1.heap.size 4 (.slice a1 2 c1)) := HG3.out.on hb3
  have HE4 : Hid (EAt w3 a1 [(0, 3), (1, 2)]) := HE3.out.below hb3
  have B5 : Below w.heap.size w w3 := B4.trans (hb3.mono B4.size)
  obtain ⟨V3, hV3⟩ := ex_eq (w3.alloc (.cells #[.int .i64 4, .slice a3 3 c3] 25))
  have hbV3 : Below w3.heap.size w3 V3 := by rw [hV3]; exact HA.out _ _
  have HV3 : Hid (V3 = w3.alloc (.cells #[.int .i64 4, .slice a3 3 c3] 25)) := hV3
  have HG5 : Hid (GBox V3 w1.heap.size 4 (.slice a1 2 c1)) := HG4.out.on hbV3
  have HE5 : Hid (EAt V3 a1 [(0, 3), (1, 2)]) := HE4.out.below hbV3
  have HH5 : Hid (GBox V3 w3.heap.size 4 (.slice a3 3 c3)) := by
    show GBox V3 _ _ _
    rw [hV3]; exact GBox.new _ _ _
  have HF5 : Hid (EAt V3 a3 [(0, 1), (0, 3), (1, 2)]) := hE3.out.below hbV3
  have B6 : Below w.heap.size w V3 := B5.trans (hbV3.mono B5.size)
  clear k0 k1 hV3 HG4 HE4 HG3 HE3 hE3 hb3 HV2 B4 B5 hbV3
  go_wp2_with fail
  rw [← HV3.out]
  refine (sh_wo _ _ _ HF5.out hs3.out).mono ?_
  rintro e w4 ⟨a4, c4, rfl, hE4, hb4⟩
  have B7 : Below w.heap.size w w4 := B6.trans (hb4.mono B6.size)
  obtain ⟨V4, hV4⟩ := ex_eq (w4.alloc (.cells #[.int .i64 4, .slice a4 2 c4] 25))
  have hbV4 : Below w4.heap.size w4 V4 := by rw [hV4]; exact HA.out _ _
  have HV4 : Hid (V4 = w4.alloc (.cells #[.int .i64 4, .slice a4 2 c4] 25)) := hV4
  have h34 : Below V3.heap.size V3 V4 := hb4.trans (hbV4.mono hb4.size)
  have HG6 : Hid (GBox V4 w1.heap.size 4 (.slice a1 2 c1)) := HG5.out.on h34
  have HE6 : Hid (EAt V4 a1 [(0, 3), (1, 2)]) := HE5.out.below h34
  have HH6 : Hid (GBox V4 w3.heap.size 4 (.slice a3 3 c3)) := HH5.out.on h34
  have HF6 : Hid (EAt V4 a3 [(0, 1), (0, 3), (1, 2)]) := HF5.out.below h34
  have HW6 : Hid (GBox V4 w4.heap.size 4 (.slice a4 2 c4)) := by
    show GBox V4 _ _ _
    rw [hV4]; exact GBox.new _ _ _
  have HX6 : Hid (EAt V4 a4 [(0, 1), (1, 2)]) := hE4.out.below hbV4
  have B8 : Below w.heap.size w V4 := B7.trans (hbV4.mono B7.size)
  obtain ⟨k0, k1⟩ := HH6.out.cells
  rw [hV4] at k0 k1
  clear hV4 HG5 HE5 HH5 HF5 hE4 hb4 HV3 B6 B7 hbV4 h34
  go_wp2_with fail
  rw [← HV4.out]
  refine (sh_deg _ _ _ HF6.out).mono ?_
  rintro e w5 ⟨g5, o5, c5, rfl, ⟨d0, d3⟩, hb5⟩
  have B9 : Below w.heap.size w w5 := B8.trans (hb5.mono B8.size)
  obtain ⟨p0, p1⟩ := (HG6.out.on hb5).cells
  obtain ⟨q0, q1⟩ := (HH6.out.on hb5).cells
  have HW7 : Hid (GBox w5 w4.heap.size 4 (.slice a4 2 c4)) := HW6.out.on hb5
  obtain ⟨r0, r1⟩ := HW7.out.cells
  have HX7 : Hid (EAt w5 a4 [(0, 1), (1, 2)]) := HX6.out.below hb5
  have HE7 := HE6.out.below hb5
  obtain ⟨g1, off1, rfl, _, hc⟩ := HE7 (by simp)
  have z0 := (hc 0 (by simp)).1
  have z1 := (hc 0 (by simp)).2
  simp only [Nat.zero_mul, Nat.add_zero, List.getElem_cons_zero] at z0 z1
  clear k0 k1 HG6 HE6 HH6 HF6 HW6 HX6 hb5 HV4 B8 HE7 hc
  go_wp2_with fail
  refine (sh_right _ _ _ HX7.out).mono ?_
  rintro e w6 ⟨rfl, hb6⟩
  have B10 : Below w.heap.size w w6 := B9.trans (hb6.mono B9.size)
  have HW8 : Hid (GBox w6 w4.heap.size 4 (.slice a4 2 c4)) := HW7.out.on hb6
  have HX8 : Hid (EAt w6 a4 [(0, 1), (1, 2)]) := HX7.out.below hb6
  clear r0 r1 p0 p1 q0 q1 z0 z1 d0 d3 HW7 HX7 hb6 B9
  obtain ⟨r0, r1⟩ := HW8.out.cells
  go_wp2_with fail
  refine (sh_has1 _ _ _ HX8.out).mono ?_
  rintro e w7 ⟨rfl, hb7⟩
  have B11 : Below w.heap.size w w7 := B10.trans (hb7.mono B10.size)
  have HW9 : Hid (GBox w7 w4.heap.size 4 (.slice a4 2 c4)) := HW8.out.on hb7
  have HX9 : Hid (EAt w7 a4 [(0, 1), (1, 2)]) := HX8.out.below hb7
  clear r0 r1 HW8 HX8 hb7 B10
  obtain ⟨r0, r1⟩ := HW9.out.cells
  go_wp2_with fail
  refine (sh_has2 _ _ _ HX9.out).mono ?_
  rintro e w8 ⟨rfl, hb8⟩
  have B12 : Below w.heap.size w w8 := B11.trans (hb8.mono B11.size)
  have HW10 : Hid (GBox w8 w4.heap.size 4 (.slice a4 2 c4)) := HW9.out.on hb8
  have HX10 : Hid (EAt w8 a4 [(0, 1), (1, 2)]) := HX9.out.below hb8
  clear r0 r1 HW9 HX9 hb8 B11
  obtain ⟨r0, r1⟩ := HW10.out.cells
  go_wp2_with fail
  refine (sh_near _ _ _ HX10.out).mono ?_
  rintro e w9 ⟨a9, c9, rfl, hb9⟩
  go_wp2
  go_ret
  exact ⟨rfl, B12.trans (hb9.mono B12.size)⟩
end Go.Proofs.Ytalhjankofdhgaa
