/-
  The law SubInduced over any calls that keep their contracts.
-/
import Derived.Test.YtagigeieoijciaaB14
import Derived.Test.YtagigeieoijciaaB16
import Derived.Test.YtagigeieoijciaaB06
import Derived.Test.YtagigeieoijciaaB08
namespace Go.Proofs.Ytagigeieoijciaa
open Go.RowKit Go.Lib

theorem gc_new6 {w : World} {n : Int} {a : Option Addr} {K cap : Nat} {es : List (Int × Int)} (h : EAt w a es) : GC (w.alloc (.cells #[.int .i64 n, .slice a K cap] 27)) w.heap.size n a K cap es :=
  ⟨cell_of_heap (heap_alloc_new w _) 0, cell_of_heap (heap_alloc_new w _) 1, h.below (below_one _ _)⟩
theorem iat_take6 {w : World} {a : Option Addr} {xs : List Int} (h : IAt w a xs) (k : Nat) : IAt w a (xs.take k) := fun h0 => by
  rw [List.length_take] at h0
  obtain ⟨g, off, ha, hg, hc⟩ := h (by omega)
  exact ⟨g, off, ha, hg, fun j hj => by
    rw [List.length_take] at hj
    rw [List.getElem_take]
    exact hc j (by omega)⟩

set_option maxHeartbeats 4000000 in
set_option maxRecDepth 100000 in
theorem subInduced_law (O : SubOps) (n : Int) (a : Option Addr) (len cap : Nat) (l : List (Int × Int)) (pa : Option Addr) (plen pc : Nat) (p : List Int) (w : World) (hl : len = l.length) (hE : EAt w a l)
    (hpl : plen = p.length) (hpc : plen ≤ pc) (hpa : pa = none → pc = 0) (hp : IAt w pa p) :
    Calls Try.prog 3 #[.agg #[.int .i64 n, .slice a len cap], .slice pa plen pc] w fun e w' => e = .returned (.bool true) ∧ Below w.heap.size w w' := by
  have HO := hid O
  obtain ⟨M, hM⟩ := ex_eq (min plen 30)
  obtain ⟨A, hA⟩ := ex_eq (p.take M)
  have hAl : A.length = M := by rw [hA, List.length_take]; omega
  have HM : Hid (M = A.length) := hAl.symm
  have k5 : M ≤ 30 := by omega
  have kmin : min (plen : Int) 30 = (M : Int) := by omega
  have kc : (M : Int) ≤ (pc : Int) := by omega
  have k0 : (0 : Int) ≤ (M : Int) := by omega
  have k9 : (M : Int) ≤ (plen : Int) := by omega
  have HSP : Hid (Slw pa pc M) := ⟨by omega, hpa⟩
  have HIP : Hid (∀ X, Below w.heap.size w X → IAt X pa A) := fun X h => by rw [hA]; exact iat_take6 (hp.below h) M
  obtain ⟨W0, hW0⟩ := ex_eq (w.alloc (.cells #[.int .i64 n, .slice a len cap] 24))
  have hB0 : Below w.heap.size w W0 := by rw [hW0]; exact below_one _ _
  have hs0 : W0.heap.size = w.heap.size + 1 := by rw [hW0]; simp
  have HO0 : Hid (W0.heap[w.heap.size]? = some (.cells #[.int .i64 n, .slice a len cap] 24)) := by
    show _ = _
    rw [hW0]; exact heap_alloc_new _ _
  have HEX : Hid (∀ X, Below w.heap.size w X → EAt X a l) := fun X h => hE.below h
  have HL := hid hl
  have HW0 := hid hW0
  have HB0 := hid hB0
  clear O hl hE hpl hp hA hAl hM hW0 hB0
  go_enter Try.func3, Try.ntmps3
  go_wp2_with fail
  rw [← HW0.out]
  refine (sshown_any HO.out _).mono ?_
  rintro e w1 ⟨rfl, hb1⟩
  have hbw1 : Below w.heap.size w w1 := HB0.out.trans (hb1.mono (by omega))
  have o1 := (hb1.block w.heap.size (by omega)).trans HO0.out
  have x0 := cell_of_heap o1 0
  have x1 := cell_of_heap o1 1
  have CA := hid (net_any n a len cap l 20 w1 (by omega) HL.out (HEX.out w1 hbw1))
  have HB1 := hid hbw1
  clear hb1 hbw1 o1 HO0 hs0 HB0 HW0 HEX HL
  go_wp2_with fail
  refine CA.out.mono ?_
  rintro e w2 ⟨m, ys, a2, c2, rfl, hm20, hR, hys, hsl, hE2, hb2⟩
  obtain ⟨K, hK⟩ := ex_eq ys.length
  rw [← hK]
  have HK := hid hK
  obtain ⟨V2, hV2⟩ := ex_eq (w2.alloc (.cells #[.int .i64 m, .slice a2 K c2] 27))
  have HG2 : Hid (GC V2 w2.heap.size m a2 K c2 ys) := by
    show GC V2 _ _ _ _ _ _
    rw [hV2]; exact gc_new6 hE2
  have HB2 : Hid (Below w.heap.size w V2) := by
    have h1 : Below w2.heap.size w2 V2 := by rw [hV2]; exact below_one _ _
    have h2 : Below w.heap.size w w2 := HB1.out.trans (hb2.mono HB1.out.size)
    exact h2.trans (h1.mono h2.size)
  have HV2 := hid hV2
  have HR := hid hR
  have HSL := hid hsl
  have hK3 : K ≤ 300 := by omega
  obtain ⟨g0, g1⟩ := HG2.out.cells
  have CI : Hid (∀ X, GC X w2.heap.size m a2 K c2 ys → Below w.heap.size w X → Calls Try.prog 12 #[.agg #[.int .i64 m, .slice a2 K c2], .slice pa M pc] X fun e w' => ∃ v, e = .returned v ∧ SubTold (IndS m ys A) X w' v) := fun X hX hb => by
    have := HO.out.ind m a2 c2 ys pa pc A true X (by omega) (by rw [← HM.out]; omega) HSL.out.w (by rw [← HM.out]; exact HSP.out) hX.at_ (HIP.out X hb) ⟨fun _ => HR.out, fun _ => rfl⟩
    rw [← hK, ← HM.out] at this
    exact this
  have CD : Hid (∀ X, GC X w2.heap.size m a2 K c2 ys → Below w.heap.size w X → Calls Try.prog 13 #[.agg #[.int .i64 m, .slice a2 K c2], .slice pa M pc] X fun e w' => ∃ v, e = .returned v ∧ SubTold (IndS m ys A) X w' v) := fun X hX hb => by
    have := rind_any m a2 c2 ys pa pc A true X (by omega) (by rw [← HM.out]; omega) hX.at_ (HIP.out X hb) ⟨fun _ => HR.out, fun _ => rfl⟩
    rw [← hK, ← HM.out] at this
    exact this
  clear hK hV2 hE2 hb2 hR hys hsl CA x0 x1 HB1
  go_upto_region 3 with fail
  rw [← HV2.out]
  clear HV2
  go_wp2_with fail
  refine (CI.out V2 HG2.out HB2.out).mono ?_
  rintro e w3 ⟨v, rfl, er3, N3, E3, a3, c3, rfl, hS3, hsl3, hea3, hb3⟩
  obtain ⟨V4, hV4⟩ := ex_eq (w3.alloc (.cells #[.int .i64 N3, .slice a3 E3.length c3] 27))
  have hb4 : Below V2.heap.size V2 V4 := by rw [hV4]; exact hb3.alloc hb3.size _
  have HG4 := hid (HG2.out.on hb4)
  have HG3 : Hid (GC V4 w3.heap.size N3 a3 E3.length c3 E3) := by
    show GC V4 _ _ _ _ _ _
    rw [hV4]; exact gc_new6 hea3
  have HB4 : Hid (Below w.heap.size w V4) := HB2.out.trans (hb4.mono HB2.out.size)
  have HV4 := hid hV4
  have HS3 := hid hS3
  obtain ⟨j0, j1⟩ := HG4.out.cells
  clear hV4 hb4 hsl3 hea3 hb3 hS3 CI g0 g1
  go_upto_region 5 with fail
  rw [← HV4.out]
  clear HV4
  go_wp2_with fail
  refine (CD.out V4 HG4.out HB4.out).mono ?_
  rintro e w5 ⟨v, rfl, er5, N5, E5, a5, c5, rfl, hS5, hsl5, hea5, hb5⟩
  obtain ⟨rfl, rfl, rfl⟩ := hS5.one HS3.out
  obtain ⟨V6, hV6⟩ := ex_eq (w5.alloc (.cells #[.int .i64 N5, .slice a5 E5.length c5] 27))
  have hb6 : Below V4.heap.size V4 V6 := by rw [hV6]; exact hb5.alloc hb5.size _
  have HG36 := hid (HG3.out.on hb6)
  have HG56 : Hid (GC V6 w5.heap.size N5 a5 E5.length c5 E5) := by
    show GC V6 _ _ _ _ _ _
    rw [hV6]; exact gc_new6 hea5
  have HB6 : Hid (Below w.heap.size w V6) := HB4.out.trans (hb6.mono HB4.out.size)
  have hEl : E5.length ≤ 1000000 := by
    rcases hS5 with ⟨_, _, _, h⟩ | ⟨_, _, _, _, h⟩ | ⟨_, _, _, _, _, h⟩ | ⟨_, _, h3, _, _, h⟩
    · rw [h]; simp
    · rw [h]; simp
    · rw [h]; simp
    · exact Nat.le_trans (h.len h3) (by have := HR.out.2.2.1; omega)
  have CS := hid (sameGraph_any N5 N5 a3 a5 c3 c5 E5 E5 true V6 hEl HG36.out.at_ HG56.out.at_ ⟨fun _ => ⟨rfl, rfl⟩, fun _ => rfl⟩)
  have HV6 := hid hV6
  obtain ⟨s0, s1⟩ := HG36.out.cells
  obtain ⟨t0, t1⟩ := HG56.out.cells
  have b1 : (er5 == er5) = true := by simp
  clear hV6 hb6 hsl5 hea5 hb5 hS5 CD j0 j1 hEl
  go_upto_region 6 with fail
  rw [← HV6.out]
  clear HV6
  go_wp2_with fail
  refine CS.out.mono ?_
  rintro e w7 ⟨rfl, hb7⟩
  have HB7 : Hid (Below w.heap.size w w7) := HB6.out.trans (hb7.mono HB6.out.size)
  clear hb7 CS s0 s1 t0 t1
  go_wp2
  go_ret
  exact ⟨rfl, HB7.out⟩
end Go.Proofs.Ytagigeieoijciaa
