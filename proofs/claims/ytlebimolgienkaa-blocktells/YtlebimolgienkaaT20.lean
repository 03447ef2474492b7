/-
  How the laws of layer 7 begin: the small case, a graph from anything, its blocks in a variable.
  The law BlockTells over any blocks that keep their contracts, and the document's own Of.
  How the document finds blocks (layer 7): what its loops keep. No program is named here.
  The part that leaves a vertex out, as the document's Of joins it (layer 7).
  The rows of the edges, one number more, as the document's Of lays them (layer 7).
  The document's tree while blocks are laid into it (layer 7): its variable, its rows, a header written over.
-/
import Derived.Test.YtlebimolgienkaaT19
import Derived.Test.YtlebimolgienkaaT15
import Derived.Test.YtlebimolgienkaaT04
import Derived.Test.YtlebimolgienkaaT09
import Derived.Lib.Walk
import Derived.Deep.DeepCutAuto
import Derived.Test.YtlebimolgienkaaT05
import Derived.Test.YtlebimolgienkaaT06
import Derived.Test.YtlebimolgienkaaT08
import Derived.Test.YtlebimolgienkaaT10
import Derived.Test.YtlebimolgienkaaT03
import Derived.Test.YtlebimolgienkaaT12
namespace Go.Proofs.Ytlebimolgienkaa
open Go.RowKit Go.Lib

theorem gc_new7 {w : World} {n : Int} {a : Option Addr} {K cap : Nat} {es : List (Int × Int)} (h : EAt w a es) : GC (w.alloc (.cells #[.int .i64 n, .slice a K cap] 26)) w.heap.size n a K cap es :=
  ⟨cell_of_heap (heap_alloc_new w _) 0, cell_of_heap (heap_alloc_new w _) 1, h.below (below_one _ _)⟩
/-- A tree in a variable. -/
structure TC (w : World) (b : Nat) (ca : Option Addr) (Q cc : Nat) (ba : Option Addr) (P bc : Nat) (Cs : List Int) (Bs : List (List Int)) : Prop where
  c0 : w.cell? ⟨b, 0, none⟩ = some (.slice ca Q cc)
  c1 : w.cell? ⟨b, 1, none⟩ = some (.slice ba P bc)
  ic : IAt w ca Cs
  lb : LLAt w ba Bs
theorem TC.on {w w' : World} {b : Nat} {ca : Option Addr} {Q cc : Nat} {ba : Option Addr} {P bc : Nat} {Cs : List Int} {Bs : List (List Int)} (h : TC w b ca Q cc ba P bc Cs Bs) (hb : Below w.heap.size w w') : TC w' b ca Q cc ba P bc Cs Bs :=
  ⟨(hb.cell (block_lt_of_cell h.c0)).trans h.c0, (hb.cell (block_lt_of_cell h.c1)).trans h.c1, h.ic.below hb, h.lb.below hb⟩
theorem tc_new {w : World} {ca : Option Addr} {Q cc : Nat} {ba : Option Addr} {P bc : Nat} {Cs : List Int} {Bs : List (List Int)} (h1 : IAt w ca Cs) (h2 : LLAt w ba Bs) : TC (w.alloc (.cells #[.slice ca Q cc, .slice ba P bc] 31)) w.heap.size ca Q cc ba P bc Cs Bs :=
  ⟨cell_of_heap (heap_alloc_new w _) 0, cell_of_heap (heap_alloc_new w _) 1, h1.below (below_one _ _), h2.below (below_one _ _)⟩
end Go.Proofs.Ytlebimolgienkaa
namespace Go.Proofs.Ytlebimolgienkaa
open Go.RowKit Go.Lib

/-- What the document's own Of tells. -/
structure RefTree : Prop where
  of : ∀ (n : Int) (a : Option Addr) (cap : Nat) (es : List (Int × Int)) (b : Bool) (w : World), es.length ≤ 1000000 → EAt w a es → (b = true ↔ RightG n es) →
    Calls Try.prog 15 #[.agg #[.int .i64 n, .slice a es.length cap]] w fun e w' => ∃ v, e = .returned v ∧ TreeTold n es w w' v
set_option maxHeartbeats 4000000 in
set_option maxRecDepth 100000 in
theorem blockTells_law (O : BlockOps) (RO : RefTree) (n : Int) (a : Option Addr) (len cap : Nat) (l : List (Int × Int)) (w : World) (hl : len = l.length) (hE : EAt w a l) :
    Calls Try.prog 3 #[.agg #[.int .i64 n, .slice a len cap]] w fun e w' => e = .returned (.bool true) ∧ Below w.heap.size w w' := by
  have HO := hid O
  have HRO := hid RO
  obtain ⟨W0, hW0⟩ := ex_eq (w.alloc (.cells #[.int .i64 n, .slice a len cap] 24))
  have hB0 : Below w.heap.size w W0 := by rw [hW0]; exact below_one _ _
  have hs0 : W0.heap.size = w.heap.size + 1 := by rw [hW0]; simp
  have HO0 : Hid (W0.heap[w.heap.size]? = some (.cells #[.int .i64 n, .slice a len cap] 24)) := by
    show _ = _
    rw [hW0]; exact heap_alloc_new _ _
  have HEX : Hid (∀ X, Below w.heap.size w X → EAt X a l) := fun X h => hE.below h
  have HL := hid hl
  have HW0 := hid hW0
  have HB0 := hid hB0
  clear O RO hl hE hW0 hB0
  go_enter Try.func3, Try.ntmps3
  go_wp2_with fail
  rw [← HW0.out]
  refine (bshown_any HO.out _).mono ?_
  rintro e w1 ⟨rfl, hb1⟩
  have hbw1 : Below w.heap.size w w1 := HB0.out.trans (hb1.mono (by omega))
  have o1 := (hb1.block w.heap.size (by omega)).trans HO0.out
  have x0 := cell_of_heap o1 0
  have x1 := cell_of_heap o1 1
  have CA := hid (net_any n a len cap l 20 w1 (by omega) HL.out (HEX.out w1 hbw1))
  have HB1 := hid hbw1
  clear hb1 hbw1 o1 HO0 hs0 HB0 HW0 HEX HL
  go_wp2_with fail
  refine CA.out.mono ?_
  rintro e w2 ⟨m, ys, a2, c2, rfl, hm30, hR, hys, hsl, hE2, hb2⟩
  obtain ⟨K, hK⟩ := ex_eq ys.length
  rw [← hK]
  have HK := hid hK
  obtain ⟨B, hBB⟩ := ex_eq w2.heap.size
  obtain ⟨V2, hV2⟩ := ex_eq (w2.alloc (.cells #[.int .i64 m, .slice a2 K c2] 26))
  have HG2 : Hid (GC V2 B m a2 K c2 ys) := by
    show GC V2 _ _ _ _ _ _
    rw [hV2, hBB]; exact gc_new7 hE2
  have HB2 : Hid (Below w.heap.size w V2) := by
    have h1 : Below w2.heap.size w2 V2 := by rw [hV2]; exact below_one _ _
    have h2 : Below w.heap.size w w2 := HB1.out.trans (hb2.mono HB1.out.size)
    exact h2.trans (h1.mono h2.size)
  have HV2 := hid hV2
  have HBB := hid hBB
  have HR := hid hR
  have HSL := hid hsl
  have hK3 : K ≤ 300 := by omega
  clear hK hV2 hE2 hb2 hR hys hsl CA x0 x1 HB1 hBB
  go_upto_region 3 with fail
  rw [← HV2.out, ← HBB.out]
  clear HV2 HBB
  obtain ⟨g0, g1⟩ := HG2.out.cells
  have C3 := hid (HO.out.of m a2 c2 ys true V2 (by rw [← HK.out]; omega) HG2.out.at_ ⟨fun _ => HR.out, fun _ => rfl⟩)
  rw [← HK.out] at C3
  go_wp2_with fail
  refine C3.out.mono ?_
  rintro e w3 ⟨v3, rfl, Cs3, Bs3, ca3, cc3, ba3, bc3, rfl, hrel, hca, hba, hb3⟩
  obtain ⟨Q3, hQ⟩ := ex_eq Cs3.length
  obtain ⟨P3, hP⟩ := ex_eq Bs3.length
  rw [← hQ, ← hP]
  have HQ3 := hid hQ
  have HP3 := hid hP
  obtain ⟨T3, hT⟩ := ex_eq w3.heap.size
  obtain ⟨V3, hV⟩ := ex_eq (w3.alloc (.cells #[.slice ca3 Q3 cc3, .slice ba3 P3 bc3] 31))
  have HT3 : Hid (TC V3 T3 ca3 Q3 cc3 ba3 P3 bc3 Cs3 Bs3) := by
    show TC _ _ _ _ _ _ _ _ _ _
    rw [hV, hT]; exact tc_new hca hba
  have hbx : Below V2.heap.size V2 V3 := by
    have h1 : Below w3.heap.size w3 V3 := by rw [hV]; exact below_one _ _
    exact hb3.trans (h1.mono hb3.size)
  have HLN3 : Hid (Bs3.length ≤ 1000 ∧ (∀ B ∈ Bs3, B.length ≤ 1000) ∧ Cs3.length ≤ 1000) := hrel.len
  have hPl3 : P3 ≤ 1000 := by rw [hP]; exact HLN3.out.1
  have HRel3 := hid hrel
  have HB3 : Hid (Below w.heap.size w V3) := HB2.out.trans (hbx.mono HB2.out.size)
  have HX3 := hid hbx
  have HV3 := hid hV
  have HTT3 := hid hT
  clear hQ hP hT hV hca hba hb3 hrel hbx C3 g0 g1
  go_upto_region 4 with fail
  rw [← HV3.out, ← HTT3.out]
  clear HV3 HTT3
  have HG3 := hid (HG2.out.on HX3.out)
  obtain ⟨g0, g1⟩ := HG3.out.cells
  have C4 := hid (HRO.out.of m a2 c2 ys true V3 (by rw [← HK.out]; omega) HG3.out.at_ ⟨fun _ => HR.out, fun _ => rfl⟩)
  rw [← HK.out] at C4
  go_wp2_with fail
  refine C4.out.mono ?_
  rintro e w4 ⟨v4, rfl, Cs4, Bs4, ca4, cc4, ba4, bc4, rfl, hrel, hca, hba, hb3⟩
  obtain ⟨Q4, hQ⟩ := ex_eq Cs4.length
  obtain ⟨P4, hP⟩ := ex_eq Bs4.length
  rw [← hQ, ← hP]
  have HQ4 := hid hQ
  have HP4 := hid hP
  obtain ⟨T4, hT⟩ := ex_eq w4.heap.size
  obtain ⟨V4, hV⟩ := ex_eq (w4.alloc (.cells #[.slice ca4 Q4 cc4, .slice ba4 P4 bc4] 33))
  have HT4 : Hid (TC V4 T4 ca4 Q4 cc4 ba4 P4 bc4 Cs4 Bs4) := by
    show TC _ _ _ _ _ _ _ _ _ _
    rw [hV, hT]; exact ⟨cell_of_heap (heap_alloc_new _ _) 0, cell_of_heap (heap_alloc_new _ _) 1, hca.below (below_one _ _), hba.below (below_one _ _)⟩
  have hbx : Below V3.heap.size V3 V4 := by
    have h1 : Below w4.heap.size w4 V4 := by rw [hV]; exact below_one _ _
    exact hb3.trans (h1.mono hb3.size)
  have HLN4 : Hid (Bs4.length ≤ 1000 ∧ (∀ B ∈ Bs4, B.length ≤ 1000) ∧ Cs4.length ≤ 1000) := hrel.len
  have hPl4 : P4 ≤ 1000 := by rw [hP]; exact HLN4.out.1
  have HRel4 := hid hrel
  have HB4 : Hid (Below w.heap.size w V4) := HB3.out.trans (hbx.mono HB3.out.size)
  have HX4 := hid hbx
  have HV4 := hid hV
  have HTT4 := hid hT
  clear hQ hP hT hV hca hba hb3 hrel hbx C4 g0 g1
  go_upto_region 5 with fail
  rw [← HV4.out, ← HTT4.out]
  clear HV4 HTT4
  have HTc := hid (HT3.out.on HX4.out)
  have hone := HRel3.out.one HRel4.out
  have s0 := HTc.out.c0
  have r0 := HT4.out.c0
  have C5 : Hid (Calls Try.prog 16 #[.slice ca3 Q3 cc3, .slice ca4 Q4 cc4] V4 fun e w' => e = .returned (.bool true) ∧ Below V4.heap.size V4 w') := by
    rw [HQ3.out, HQ4.out]; exact same_any ca3 ca4 cc3 cc4 Cs3 Cs4 true V4 (by have := HLN3.out.2.2; omega) HTc.out.ic HT4.out.ic ⟨fun _ => hone.1, fun _ => rfl⟩
  have C6 : Hid (∀ X, Below V4.heap.size V4 X → Calls Try.prog 17 #[.slice ba3 P3 bc3, .slice ba4 P4 bc4] X fun e w' => e = .returned (.bool true) ∧ Below X.heap.size X w') := fun X hX => by
    rw [HP3.out, HP4.out]; exact sameRows_any ba3 ba4 bc3 bc4 Bs3 Bs4 true X (by have := HLN3.out.1; omega) (fun L hL => by have := HLN3.out.2.1 L hL; omega) (HTc.out.on hX).lb (HT4.out.on hX).lb ⟨fun _ => hone.2, fun _ => rfl⟩
  clear hone
  go_wp2_with fail
  refine C5.out.mono ?_
  rintro e y1 ⟨rfl, hy⟩
  have C7 := hid (C6.out y1 hy)
  have s1 := (HTc.out.on hy).c1
  have r1 := (HT4.out.on hy).c1
  have HBY : Hid (Below w.heap.size w y1) := HB4.out.trans (hy.mono HB4.out.size)
  clear C5 C6 s0 r0 hy
  go_wp2_with fail
  refine C7.out.mono ?_
  rintro e y2 ⟨rfl, hy2⟩
  have HBF : Hid (Below w.heap.size w y2) := HBY.out.trans (hy2.mono HBY.out.size)
  clear C7 s1 r1 hy2
  go_wp2
  go_ret
  exact ⟨rfl, HBF.out⟩
end Go.Proofs.Ytlebimolgienkaa
namespace Go.Proofs.Ytlebimolgienkaa

/-- A row stands where it is laid in. -/
theorem insR_at {l : List Int} : ∀ {Bs : List (List Int)} {k : Nat}, k ≤ Bs.length → (∀ j (h : j < Bs.length), j < k → lexL l Bs[j] = false) → (∀ h : k < Bs.length, lexL l Bs[k] = true) → insR l Bs = Bs.take k ++ l :: Bs.drop k
  | [], 0, _, _, _ => rfl
  | [], k + 1, h, _, _ => by simp at h
  | x :: xs, 0, _, _, h => by
    have h0 := h (by simp)
    simp only [List.getElem_cons_zero] at h0
    unfold insR
    rw [if_pos h0]
    rfl
  | x :: xs, k + 1, hk, h1, h2 => by
    have h0 := h1 0 (by simp) (by omega)
    simp only [List.getElem_cons_zero] at h0
    unfold insR
    rw [if_neg (by rw [h0]; simp), insR_at (k := k) (by simpa using hk) (fun j hj hjk => by
      have := h1 (j + 1) (by simpa using hj) (by omega)
      simpa using this) (fun hj => by
      have := h2 (by simpa using hj)
      simpa using this)]
    rfl
/-- Ahead of one that l does not stand ahead of there is none that it does. -/
theorem ord_ahead {l : List Int} {Bs : List (List Int)} (ho : Bs.Pairwise (fun A B => lexL A B = true)) {k : Nat} (hk : k < Bs.length) (h : lexL l Bs[k] = false) : ∀ j (hj : j < Bs.length), j < k + 1 → lexL l Bs[j] = false := fun j hj hjk => by
  by_cases e : j = k
  · subst e; exact h
  · cases h2 : lexL l Bs[j] with
    | false => rfl
    | true =>
      have := lexL_trans h2 (List.pairwise_iff_getElem.1 ho j k hj hk (by omega))
      rw [h] at this; cases this
/-- How the rows stand while l is laid in: it stands at k. -/
def midR (l : List Int) (Bs : List (List Int)) (k : Nat) : List (List Int) := Bs.take k ++ l :: Bs.drop k
theorem midR_end (l : List Int) (Bs : List (List Int)) : midR l Bs Bs.length = Bs ++ [l] := by unfold midR; simp
theorem midR_len {l : List Int} {Bs : List (List Int)} {k : Nat} (hk : k ≤ Bs.length) : (midR l Bs k).length = Bs.length + 1 := by
  unfold midR
  rw [List.length_append, List.length_cons, List.length_take, List.length_drop]; omega
theorem midR_at {l : List Int} {Bs : List (List Int)} {k : Nat} (hk : k ≤ Bs.length) {j : Nat} (hj : j < k) : (midR l Bs k)[j]? = Bs[j]? := by
  unfold midR
  rw [List.getElem?_append_left (by rw [List.length_take]; omega), List.getElem?_take_of_lt hj]
/-- One place down. -/
theorem midR_step {l : List Int} {Bs : List (List Int)} {k : Nat} (hk : k + 1 ≤ Bs.length) : midR l Bs k = ((midR l Bs (k + 1)).set (k + 1) (Bs[k]'(by omega))).set k l := by
  apply List.ext_getElem?
  intro j
  unfold midR
  have hl1 : (Bs.take k).length = k := by rw [List.length_take]; omega
  have hl2 : (Bs.take (k + 1)).length = k + 1 := by rw [List.length_take]; omega
  have hT : (Bs.take (k + 1) ++ l :: Bs.drop (k + 1)).length = Bs.length + 1 := by rw [List.length_append, List.length_cons, hl2, List.length_drop]; omega
  by_cases e : j = k
  · subst e
    rw [List.getElem?_set_self (by rw [List.length_set, hT]; omega), List.getElem?_append_right (by omega), hl1]
    simp
  · rw [List.getElem?_set_ne (fun h => e h.symm)]
    by_cases e2 : j = k + 1
    · subst e2
      rw [List.getElem?_set_self (by rw [hT]; omega), List.getElem?_append_right (by omega), hl1]
      simp
    · rw [List.getElem?_set_ne (fun h => e2 h.symm)]
      by_cases e3 : j < k
      · rw [List.getElem?_append_left (by omega), List.getElem?_append_left (by omega), List.getElem?_take_of_lt e3, List.getElem?_take_of_lt (by omega)]
      · rw [List.getElem?_append_right (by omega), List.getElem?_append_right (by omega), hl1, hl2]
        obtain ⟨d, rfl⟩ : ∃ d, j = k + 2 + d := ⟨j - (k + 2), by omega⟩
        rw [show k + 2 + d - k = (d + 1) + 1 by omega, show k + 2 + d - (k + 1) = d + 1 by omega, List.getElem?_cons_succ, List.getElem?_cons_succ, List.getElem?_drop, List.getElem?_drop]
        congr 1
        omega
/-- Laid in at its place. -/
theorem midR_ins {l : List Int} {Bs : List (List Int)} {k : Nat} (ho : Bs.Pairwise (fun A B => lexL A B = true)) (hk : k ≤ Bs.length) (h1 : k = 0 ∨ ∃ h : k - 1 < Bs.length, lexL l Bs[k - 1] = false) (h2 : ∀ j (h : j < Bs.length), k ≤ j → lexL l Bs[j] = true) : midR l Bs k = insR l Bs := by
  unfold midR
  rw [insR_at hk (fun j hj hjk => ?_) (fun h => h2 k h (Nat.le_refl _))]
  rcases h1 with e | ⟨hlt, h1⟩
  · omega
  · exact ord_ahead ho hlt h1 j hj (by omega)
/-- How many rows have v: one more, if it stands in the one laid in. -/
theorem atL_ins {l : List Int} {v : Int} : ∀ (Bs : List (List Int)), (atL (insR l Bs) v).length = (atL Bs v).length + (if v ∈ l then 1 else 0)
  | [] => by
    unfold atL insR
    by_cases h : v ∈ l <;> simp [h]
  | x :: xs => by
    have ih := atL_ins (l := l) (v := v) xs
    unfold atL at ih ⊢
    unfold insR
    split
    · rw [List.filter_cons, List.filter_cons]
      by_cases h : v ∈ l
      · by_cases h2 : v ∈ x <;> simp [h, h2]
      · by_cases h2 : v ∈ x <;> simp [h, h2]
    · rw [List.filter_cons, List.filter_cons]
      by_cases h2 : v ∈ x
      · simp only [h2, decide_true, if_true, List.length_cons]
        omega
      · simp only [h2, decide_false]
        simpa using ih
/-- The rows of edges, as numbers. -/
def clsI (F : Nat → Nat → Nat) (t : Nat) (e : Int × Int) : List Int := (List.range t).map (fun v => (F v (offEnd v e) : Int))
theorem clsI_next (F : Nat → Nat → Nat) (t : Nat) (e : Int × Int) : clsI F (t + 1) e = clsI F t e ++ [(F t (offEnd t e) : Int)] := by
  unfold clsI
  rw [List.range_succ, List.map_append]; rfl
theorem clsI_len (F : Nat → Nat → Nat) (t : Nat) (e : Int × Int) : (clsI F t e).length = t := by unfold clsI; simp
theorem clsI_tog {m : Nat} {es : List (Int × Int)} {F : Nat → Nat → Nat} (hR : RightG m es) (ht : ∀ v, v < m → Tells m (F v) (prsN (offL v es))) {e f : Int × Int} (he : e ∈ es) (hf : f ∈ es) : clsI F m e = clsI F m f ↔ Tog es e f := by
  rw [← row_tog hR ht he hf]
  unfold clsI rowOf
  constructor
  · intro h
    refine List.map_congr_left (fun v hv => ?_)
    have := List.map_inj_left.1 h v hv
    omega
  · intro h
    refine List.map_congr_left (fun v hv => ?_)
    have := List.map_inj_left.1 h v hv
    omega
/-- Which edges are done behind the first i. -/
def DoneTo (es : List (Int × Int)) (i : Nat) (dn : Nat → Bool) : Prop := ∀ k (h : k < es.length), dn k = true ↔ ∃ j, ∃ hj : j < es.length, j < i ∧ Tog es es[j] es[k]
theorem done_nil (es : List (Int × Int)) : DoneTo es 0 (fun _ => false) := fun k h => ⟨(fun h => by cases h), fun ⟨j, _, h, _⟩ => absurd h (by omega)⟩
theorem done_pass {n : Int} {es : List (Int × Int)} {i : Nat} {dn : Nat → Bool} (hR : RightG n es) (h : DoneTo es i dn) (hi : i < es.length) (hd : dn i = true) : DoneTo es (i + 1) dn := fun k hk => by
  rw [h k hk]
  constructor
  · rintro ⟨j, hj, h1, h2⟩; exact ⟨j, hj, by omega, h2⟩
  · rintro ⟨j, hj, h1, h2⟩
    by_cases e : j < i
    · exact ⟨j, hj, e, h2⟩
    · obtain rfl : j = i := by omega
      obtain ⟨q, hq, q1, q2⟩ := (h j hi).1 hd
      have hne := hR.2.2.2.1 _ (List.getElem_mem hi)
      exact ⟨q, hq, q1, Tog.trans (by omega) q2 h2⟩
theorem done_add {es : List (Int × Int)} {i : Nat} {dn dn' : Nat → Bool} (h : DoneTo es i dn) (hi : i < es.length) (hd : ∀ k (h : k < es.length), dn' k = true ↔ dn k = true ∨ (i ≤ k ∧ Tog es es[i] es[k])) : DoneTo es (i + 1) dn' := fun k hk => by
  rw [hd k hk, h k hk]
  constructor
  · rintro (⟨j, hj, h1, h2⟩ | ⟨h1, h2⟩)
    · exact ⟨j, hj, by omega, h2⟩
    · exact ⟨i, hi, by omega, h2⟩
  · rintro ⟨j, hj, h1, h2⟩
    by_cases e : j < i
    · exact Or.inl ⟨j, hj, e, h2⟩
    · obtain rfl : j = i := by omega
      by_cases e2 : j ≤ k
      · exact Or.inr ⟨e2, h2⟩
      · exact Or.inl ⟨k, hk, by omega, Tog.refl (Or.inl (List.getElem_mem hk))⟩
/-- The ends of the edges from the i-th on, up to the k-th, that belong with the i-th. -/
structure EndsTo (es : List (Int × Int)) (i k : Nat) (l : List Int) : Prop where
  nd : l.Nodup
  is : ∀ x, x ∈ l ↔ ∃ j, ∃ h : j < es.length, i ≤ j ∧ j < k ∧ (∃ hi : i < es.length, Tog es es[i] es[j]) ∧ End es[j] x
theorem ends_nil (es : List (Int × Int)) (i : Nat) : EndsTo es i i [] := ⟨List.nodup_nil, fun x => ⟨fun h => (by cases h), fun ⟨j, _, h1, h2, _⟩ => absurd h1 (by omega)⟩⟩
theorem ends_pass {es : List (Int × Int)} {i k : Nat} {l : List Int} (h : EndsTo es i k l) (hi : i < es.length) (hk : k < es.length) (hn : ¬ Tog es es[i] es[k]) : EndsTo es i (k + 1) l := ⟨h.nd, fun x => by
  rw [h.is]
  constructor
  · rintro ⟨j, hj, h1, h2, h3⟩; exact ⟨j, hj, h1, by omega, h3⟩
  · rintro ⟨j, hj, h1, h2, ⟨hi2, h3⟩, h4⟩
    by_cases e : j < k
    · exact ⟨j, hj, h1, e, ⟨hi2, h3⟩, h4⟩
    · obtain rfl : j = k := by omega
      exact absurd h3 hn⟩
/-- A number laid in behind the others, if it is not there. -/
def putN (l : List Int) (x : Int) : List Int := if x ∈ l then l else l ++ [x]
theorem putN_mem {l : List Int} {x y : Int} : y ∈ putN l x ↔ y ∈ l ∨ y = x := by
  unfold putN
  split
  · rename_i h
    exact ⟨Or.inl, fun k => k.elim id (fun e => e ▸ h)⟩
  · rw [List.mem_append, List.mem_singleton]
theorem putN_nd {l : List Int} {x : Int} (h : l.Nodup) : (putN l x).Nodup := by
  unfold putN
  split
  · exact h
  · rename_i hn
    rw [List.nodup_append]
    exact ⟨h, by simp, fun a ha b hb e => hn (by simp at hb; rw [← hb, ← e]; exact ha)⟩
theorem ends_put {es : List (Int × Int)} {i k : Nat} {l : List Int} (h : EndsTo es i k l) (hi : i < es.length) (hik : i ≤ k) (hk : k < es.length) (ht : Tog es es[i] es[k]) : EndsTo es i (k + 1) (putN (putN l es[k].1) es[k].2) := ⟨putN_nd (putN_nd h.nd), fun x => by
  rw [putN_mem, putN_mem, h.is]
  constructor
  · rintro ((⟨j, hj, h1, h2, h3⟩ | e) | e)
    · exact ⟨j, hj, h1, by omega, h3⟩
    · exact ⟨k, hk, hik, by omega, ⟨hi, ht⟩, Or.inl e⟩
    · exact ⟨k, hk, hik, by omega, ⟨hi, ht⟩, Or.inr e⟩
  · rintro ⟨j, hj, h1, h2, h3, h4⟩
    by_cases e : j < k
    · exact Or.inl (Or.inl ⟨j, hj, h1, e, h3, h4⟩)
    · obtain rfl : j = k := by omega
      rcases h4 with h4 | h4
      · exact Or.inl (Or.inr h4)
      · exact Or.inr h4⟩
/-- Behind the last one these are the vertices of the block. -/
theorem ends_all {es : List (Int × Int)} {i k : Nat} {l : List Int} {dn : Nat → Bool} (h : EndsTo es i k l) (hk : es.length ≤ k) (hi : i < es.length) (hd : DoneTo es i dn) (hn : dn i = false) (x : Int) : x ∈ l ↔ Bl es es[i] x := by
  rw [h.is]
  have hT : ∀ f, f ∈ es.filter (fun f => @decide (Tog es es[i] f) (Classical.propDecidable _)) ↔ f ∈ es ∧ Tog es es[i] f := fun f => by simp [List.mem_filter]
  rw [← ends_blk hT]
  constructor
  · rintro ⟨j, hj, _, _, ⟨_, h3⟩, h4⟩
    exact ⟨es[j], (hT _).2 ⟨List.getElem_mem hj, h3⟩, h4⟩
  · rintro ⟨f, hf, h4⟩
    obtain ⟨h1, h2⟩ := (hT f).1 hf
    obtain ⟨j, hj, rfl⟩ := List.getElem_of_mem h1
    refine ⟨j, hj, ?_, by omega, ⟨hi, h2⟩, h4⟩
    apply Classical.byContradiction
    intro hlt
    have := (hd i hi).2 ⟨j, hj, by omega, h2.symm⟩
    rw [hn] at this; cases this
theorem srt_perm_mem {l : List Int} {x : Int} : x ∈ srt [] l ↔ x ∈ l := by rw [srt_mem]; simp
end Go.Proofs.Ytlebimolgienkaa
namespace Go.Proofs.Ytlebimolgienkaa
open Go.RowKit Go.Lib

theorem offL_take {v : Int} {es : List (Int × Int)} {k : Nat} (hk : k < es.length) : offL v (es.take (k + 1)) = offL v (es.take k) ++ (if es[k].1 ≠ v ∧ es[k].2 ≠ v then [es[k]] else []) := by
  unfold offL
  rw [List.take_succ_eq_append_getElem hk, List.filter_append]
  congr 1
  by_cases h1 : es[k].1 = v
  · simp [h1]
  · by_cases h2 : es[k].2 = v
    · simp [h2]
    · simp [h1, h2]
theorem offL_in {m : Nat} {v : Int} {es : List (Int × Int)} (hR : RightG m es) (k : Nat) : PairsIn m (prsN (offL v (es.take k))) := fun e he => by
  unfold prsN at he
  obtain ⟨x, hx, rfl⟩ := List.mem_map.1 he
  have := hR.2.2.2.1 x (List.mem_of_mem_take (mem_offL.1 hx).1)
  simp only
  omega
/-- The part without v, behind the first k edges. -/
def PartTo (w : World) (b g : Nat) (a : Option Addr) (c m v k : Nat) (es : List (Int × Int)) : Prop := ∃ f, Pt m f ∧ Tells m f (prsN (offL (v : Int) (es.take k))) ∧ QAt w b g a m c f
theorem part_new {w w' : World} {m v : Nat} {es : List (Int × Int)} (hm : m ≤ 1000) (h : NewIs (m : Int) w w') : ∃ g a c, w.heap.size < g ∧ PartTo w' w.heap.size g a c m v 0 es ∧ w.heap.size < w'.heap.size ∧ Below w.heap.size w w' := by
  obtain ⟨m', g, a, c, e, hg, hq, hs, hb⟩ := h
  obtain rfl : m' = m := by omega
  exact ⟨g, a, c, hg, ⟨_, pt_new m', tells_new m', hq⟩, hs, hb⟩
theorem PartTo.below {w w' : World} {b g : Nat} {a : Option Addr} {c m v k : Nat} {es : List (Int × Int)} (h : PartTo w b g a c m v k es) (hb : Below w.heap.size w w') : PartTo w' b g a c m v k es := by
  obtain ⟨f, h1, h2, h3⟩ := h
  exact ⟨f, h1, h2, h3.below hb⟩
theorem PartTo.skip {w : World} {b g : Nat} {a : Option Addr} {c m v k : Nat} {es : List (Int × Int)} (h : PartTo w b g a c m v k es) (hk : k < es.length) (hn : ¬ (es[k].1 ≠ (v : Int) ∧ es[k].2 ≠ (v : Int))) : PartTo w b g a c m v (k + 1) es := by
  obtain ⟨f, h1, h2, h3⟩ := h
  refine ⟨f, h1, ?_, h3⟩
  rw [offL_take hk, if_neg hn, List.append_nil]
  exact h2
/-- Both ends are joined. -/
theorem PartTo.join {w : World} {b g : Nat} {a : Option Addr} {c m v k : Nat} {es : List (Int × Int)} (h : PartTo w b g a c m v k es) (hR : RightG m es) (hk : k < es.length) (hn : es[k].1 ≠ (v : Int) ∧ es[k].2 ≠ (v : Int)) {p q : Nat} (hp : (p : Int) = es[k].1) (hq : (q : Int) = es[k].2) :
    ∃ r, Calls Try.prog 43 #[.pointer (some ⟨b, 0, none⟩), .int .i64 p, .int .i64 q] w fun e w' => e = .returned (.bool r) ∧ PartTo w' b g a c m v (k + 1) es ∧ KeptBut (fun k => k = g) w w' := by
  obtain ⟨f, h1, h2, h3⟩ := h
  have hin := hR.2.2.2.1 _ (List.getElem_mem hk)
  have hm : m ≤ 1000 := by have := hR.2.1; omega
  have hpm : p < m := by omega
  have hqm : q < m := by omega
  obtain ⟨r, hr⟩ := boolR_of ((0 ≤ (p : Int) ∧ (p : Int) < m) ∧ (0 ≤ (q : Int) ∧ (q : Int) < m) ∧ f (p : Int).toNat ≠ f (q : Int).toNat)
  refine ⟨r, (rjoin_any b g a m c f p q r w hm h3 hr).mono ?_⟩
  rintro e w' ⟨rfl, h4, h5, _⟩
  refine ⟨rfl, ⟨_, h1.join hpm hqm, ?_, ?_⟩, h5.mono (fun k _ e => e.2)⟩
  · rw [offL_take hk, if_pos hn]
    unfold prsN
    rw [List.map_append]
    have := tells_join h2 (offL_in hR k) hpm hqm
    simp only [List.map_cons, List.map_nil, ← hp, ← hq, Int.toNat_natCast]
    exact this
  · have e : joinR m f (p : Int) (q : Int) = joinF f p q := by
      unfold joinR
      rw [if_pos ⟨⟨by omega, by omega⟩, by omega, by omega⟩]
      rfl
    rw [← e]; exact h4
/-- Behind all of them it tells the parts without v. -/
theorem PartTo.all {w : World} {b g : Nat} {a : Option Addr} {c m v k : Nat} {es : List (Int × Int)} {F : Nat → Nat} (h : PartTo w b g a c m v k es) (hk : es.length ≤ k) (hP : Pt m F) (hT : Tells m F (prsN (offL (v : Int) es))) : QAt w b g a m c F := by
  obtain ⟨f, h1, h2, h3⟩ := h
  rw [List.take_of_length_le hk] at h2
  exact h3.congr (tells_one h1 hP h2 hT (fun e he => Cl.of he) (fun e he => Cl.of he))
/-- The parts without each vertex. -/
theorem parts_ex {m : Nat} {es : List (Int × Int)} (hR : RightG m es) : ∃ F : Nat → Nat → Nat, ∀ v, Pt m (F v) ∧ Tells m (F v) (prsN (offL (v : Int) es)) :=
  Classical.axiomOfChoice (fun v => tells_ex _ (by have := offL_in (v := (v : Int)) hR es.length; rwa [List.take_length] at this))
/-- The rows of numbers of all edges, while the first k have one more. -/
def clsK (F : Nat → Nat → Nat) (es : List (Int × Int)) (t k j : Nat) : List Int := clsI F (if j < k then t + 1 else t) (es.getD j (0, 0))
end Go.Proofs.Ytlebimolgienkaa
namespace Go.Proofs.Ytlebimolgienkaa
open Go.RowKit Go.Lib

/-- While the first k edges have a number more, beside the part that it is read from. -/
structure Cls (w : World) (Nb N Bp gp : Nat) (ap : Option Addr) (cp m : Nat) (F : Nat → Nat → Nat) (es : List (Int × Int)) (t k : Nat) (V : Nat → Value) : Prop where
  no : NO w (Nb + 1) Nb N V (clsK F es t k)
  ne : ∀ j, j < N → (V j).ownBlock ≠ some Bp ∧ (V j).ownBlock ≠ some gp
  part : QAt w Bp gp ap m cp (F t)
theorem clsK_own (F : Nat → Nat → Nat) (es : List (Int × Int)) (t k : Nat) : clsK F es t k k = clsI F t (es.getD k (0, 0)) := by unfold clsK; rw [if_neg (by omega)]
theorem clsK_all {F : Nat → Nat → Nat} {es : List (Int × Int)} {t k j : Nat} (h : j < k) : clsK F es t k j = clsK F es (t + 1) 0 j := by unfold clsK; rw [if_pos h, if_neg (by omega)]
theorem Cls.half {w1 w : World} {Nb N Bp gp : Nat} {ap : Option Addr} {cp m : Nat} {F : Nat → Nat → Nat} {es : List (Int × Int)} {t k : Nat} {V : Nat → Value} (h : Cls w Nb N Bp gp ap cp m F es t k V) (hk : k < N) (hm : 0 < m) (hb : Below Nb w1 w) (hN : Nb ≤ w.heap.size) (hB : Nb < Bp) (hg : Nb < gp) :
    ∀ wa w4 v', Below w.heap.size w wa → w4.ownsRow (Nb + 1) 3 1 v' (t + 1) ((clsI F t (es.getD k (0, 0))).map (Value.int .i64) ++ [.int .i64 (F t (offEnd t (es.getD k (0, 0))))]) → wa.grownBy w4 (V k).ownBlock → (v'.ownBlock = (V k).ownBlock ∨ v'.ownBlock = some wa.heap.size) →
      (w4.cell? ⟨Nb, k, none⟩ = some (V k) ∧ w4.frozen? ⟨Nb, k, none⟩ = false) ∧ Below Nb w1 (w4.setCell ⟨Nb, k, none⟩ v') ∧ w.heap.size ≤ (w4.setCell ⟨Nb, k, none⟩ v').heap.size ∧
      ∃ V', Cls (w4.setCell ⟨Nb, k, none⟩ v') Nb N Bp gp ap cp m F es t (k + 1) V' := fun wa w4 v' hba hown hgr hat => by
  have hkb : KeptBut (fun j => some j = (V k).ownBlock) w w4 := (KeptBut.of_whole _ hba).trans (KeptBut.of_grown hgr)
  have hNk : ¬ some Nb = (V k).ownBlock := fun e => (h.no.own k hk).2 e.symm
  have hBlt : Bp < w.heap.size := block_lt_of_cell h.part.box
  have hglt : gp < w.heap.size := (h.part.row hm).2.1
  refine ⟨?_, ?_, ?_, ⟨fun u => if u = k then v' else V u, ?_, fun j hj => ?_, ?_⟩⟩
  · rw [hkb.cell (p := ⟨Nb, k, none⟩) h.no.lt hNk, hkb.frozen (p := ⟨Nb, k, none⟩) h.no.lt hNk]
    exact h.no.hd k hk
  · refine (hb.trans (hkb.below hN (fun j _ e => ?_))).setCell (p := ⟨Nb, k, none⟩) (Nat.le_refl _) _
    have := ((h.no.own k hk).1.lt j e.symm).1
    omega
  · simpa using hkb.size
  · refine (h.no.push (x := (F t (offEnd t (es.getD k (0, 0))) : Int)) hk hba ?_ hgr hat).congr (fun j _ => ?_)
    · rw [clsK_own, clsI_len]; exact hown
    · by_cases e : j = k
      · subst e
        rw [if_pos rfl, clsK_own, ← clsI_next]
        unfold clsK
        rw [if_pos (by omega)]
      · rw [if_neg e]
        unfold clsK
        by_cases e2 : j < k
        · rw [if_pos e2, if_pos (by omega)]
        · rw [if_neg e2, if_neg (by omega)]
  · by_cases e : j = k
    · simp only [if_pos e]
      rcases hat with h1 | h1
      · rw [h1]; exact h.ne k hk
      · rw [h1]
        have := hba.size
        simp only [ne_eq, Option.some.injEq]
        omega
    · simp only [if_neg e]; exact h.ne j hj
  · refine (h.part.kept hkb (fun e => (h.ne k hk).1 e.symm) (fun _ e => (h.ne k hk).2 e.symm)).kept (kept_set _ _ _) ?_ (fun _ => ?_)
    · simp only; omega
    · simp only; omega
end Go.Proofs.Ytlebimolgienkaa
namespace Go.Proofs.Ytlebimolgienkaa
open Go.RowKit Go.Lib

/-- One header is written over. -/
theorem LLOwn.setHead {A : Nat → Prop} {w : World} {base g cap : Nat} {us : List Value} {LL : List (List Int)} (h : LLOwn w base A (.slice (some ⟨g, 0, none⟩) LL.length cap) us LL) {k : Nat} (hk : k < LL.length) {L : List Int} {ar : Option Addr} {cr : Nat} (hI : IAt w ar L)
    (hr : ∀ g' off, ar = some ⟨g', off, none⟩ → 0 < L.length → A g' ∧ g' ≠ g) :
    LLOwn (w.setCell ⟨g, k, none⟩ (.slice ar L.length cr)) base A (.slice (some ⟨g, 0, none⟩) LL.length cap) (us.set k (.slice ar L.length cr)) (LL.set k L) := by
  have hks := kept_set w ⟨g, k, none⟩ (.slice ar L.length cr)
  refine ⟨?_, by rw [List.length_set, List.length_set, h.2.1], h.2.2.1, fun j hj => ?_⟩
  · rw [List.length_set]; exact (h.1.stored k _).1
  · rw [List.length_set] at hj
    by_cases e : k = j
    · subst e
      refine ⟨ar, cr, ?_, ?_, fun g' off ha h0 => ?_⟩
      · rw [List.getElem?_set_self (by rw [h.2.1]; exact hk), List.getElem_set_self]
      · rw [List.getElem_set_self]
        exact hI.kept hks (fun g' off ha h0 => (hr g' off ha h0).2)
      · rw [List.getElem_set_self] at h0
        exact ⟨(hr g' off ha h0).1, fun e => (hr g' off ha h0).2 (by cases e; rfl)⟩
    · obtain ⟨ak, ck, h1, h2, h3⟩ := h.2.2.2 j hj
      refine ⟨ak, ck, ?_, ?_, fun g' off ha h0 => ?_⟩
      · rw [List.getElem?_set_ne e, List.getElem_set_ne e]; exact h1
      · rw [List.getElem_set_ne e]
        exact h2.kept hks (fun g' off ha h0 e2 => (h3 g' off ha h0).2 (by rw [show g' = g from e2]; rfl))
      · rw [List.getElem_set_ne e] at h0
        exact h3 g' off ha h0
/-- The tree's variable, with the rows that its blocks are. -/
structure OutAt (w : World) (O base : Nat) (A : Nat → Prop) (v : Value) (us : List Value) (Bs : List (List Int)) : Prop where
  c0 : w.cell? ⟨O, 0, none⟩ = some (.slice none 0 0)
  c1 : w.cell? ⟨O, 1, none⟩ = some v
  f0 : w.frozen? ⟨O, 0, none⟩ = false
  f1 : w.frozen? ⟨O, 1, none⟩ = false
  ll : LLOwn w base A v us Bs
theorem OutAt.kept {S A : Nat → Prop} {w w' : World} {O base : Nat} {v : Value} {us : List Value} {Bs : List (List Int)} (h : OutAt w O base A v us Bs) (hk : KeptBut S w w') (hO : ¬ S O) (hs : ∀ k, A k → k < w.heap.size → ¬ S k) : OutAt w' O base A v us Bs := by
  have hlt : O < w.heap.size := block_lt_of_cell h.c0
  exact ⟨(hk.cell (p := ⟨O, 0, none⟩) hlt hO).trans h.c0, (hk.cell (p := ⟨O, 1, none⟩) hlt hO).trans h.c1, (hk.frozen (p := ⟨O, 0, none⟩) hlt hO).trans h.f0, (hk.frozen (p := ⟨O, 1, none⟩) hlt hO).trans h.f1, h.ll.kept hk hs⟩
/-- While l is laid in: from one place to the next one down. -/
theorem OutAt.down {A : Nat → Prop} {w : World} {O base k : Nat} {v : Value} {us : List Value} {l : List Int} {Bs : List (List Int)} {la : Option Addr} {lc : Nat} (h : OutAt w O base A v us (midR l Bs (k + 1))) (hk : k + 1 ≤ Bs.length) (hO : O < base) (hI : IAt w la l) (hl : ∀ g off, la = some ⟨g, off, none⟩ → 0 < l.length → A g ∧ v.ownBlock ≠ some g) :
    ∃ g cap ak ck, v = .slice (some ⟨g, 0, none⟩) (Bs.length + 1) cap ∧ (w.cell? ⟨g, k, none⟩ = some (.slice ak (Bs[k]'(by omega)).length ck) ∧ IAt w ak (Bs[k]'(by omega))) ∧ w.frozen? ⟨g, k + 1, none⟩ = false ∧ w.frozen? ⟨g, k, none⟩ = false ∧ (∃ x, w.cell? ⟨g, k + 1, none⟩ = some x) ∧ O < g ∧ base ≤ g ∧
      ∃ us', OutAt ((w.setCell ⟨g, k + 1, none⟩ (.slice ak (Bs[k]'(by omega)).length ck)).setCell ⟨g, k, none⟩ (.slice la l.length lc)) O base A v us' (midR l Bs k) := by
  have hml : (midR l Bs (k + 1)).length = Bs.length + 1 := midR_len hk
  have hmk : (midR l Bs (k + 1))[k]? = some (Bs[k]'(by omega)) := by rw [midR_at hk (by omega)]; exact List.getElem?_eq_getElem (by omega)
  have hown := h.ll.1
  rcases hown.2 with ⟨hv, h0⟩ | ⟨g, cap, cur, hv, hg, hgb, hr⟩
  · exact absurd h0 (by omega)
  · subst hv
    obtain ⟨ak, ck, h1, h2, h3⟩ := h.ll.2.2.2 k (by omega)
    have e1 : (midR l Bs (k + 1))[k]'(by omega) = Bs[k]'(by omega) := by
      have := List.getElem?_eq_getElem (l := midR l Bs (k + 1)) (i := k) (by omega)
      rw [this] at hmk
      exact Option.some.inj hmk
    rw [e1] at h1 h2 h3
    have hus : us.length = Bs.length + 1 := by rw [h.ll.2.1, hml]
    have hc1 := hown.cells (g := g) rfl k _ h1
    rw [add_at, Nat.zero_add] at hc1
    have hc2 := hown.cells (g := g) rfl (k + 1) (us[k + 1]'(by omega)) (List.getElem?_eq_getElem (by omega))
    rw [add_at, Nat.zero_add] at hc2
    have hOg : O < g := by omega
    have hll := h.ll
    have h1c := h.c1
    rw [hml] at hll hown h1c ⊢
    have s1 := LLOwn.setHead (cap := cap) (g := g) (w := w) (by rw [hml]; exact hll) (k := k + 1) (by omega) h2 (cr := ck) (fun g' off ha h0 => ⟨(h3 g' off ha h0).1, fun e => (h3 g' off ha h0).2 (by rw [e]; rfl)⟩)
    have hIl : IAt (w.setCell ⟨g, k + 1, none⟩ (.slice ak (Bs[k]'(by omega)).length ck)) la l := hI.kept (kept_set _ _ _) (fun g' off ha h0 e => (hl g' off ha h0).2 (by rw [show g' = g from e]; rfl))
    have s2 := LLOwn.setHead (cap := cap) (g := g) (LL := (midR l Bs (k + 1)).set (k + 1) (Bs[k]'(by omega))) (by rw [List.length_set, hml]; rw [hml] at s1; exact s1) (k := k) (by rw [List.length_set]; omega) hIl (cr := lc) (fun g' off ha h0 => ⟨(hl g' off ha h0).1, fun e => (hl g' off ha h0).2 (by rw [e]; rfl)⟩)
    rw [← midR_step hk, List.length_set, hml] at s2
    refine ⟨g, cap, ak, ck, rfl, ⟨hc1, h2⟩, frozen_of_heap hgb _, frozen_of_heap hgb _, ⟨_, hc2⟩, hOg, hg, _, ⟨?_, ?_, ?_, ?_, s2⟩⟩
    · rw [World.cell?_setCell_other _ _ _ _ (fun e => by have := congrArg Addr.block e; simp at this; omega), World.cell?_setCell_other _ _ _ _ (fun e => by have := congrArg Addr.block e; simp at this; omega)]; exact h.c0
    · rw [World.cell?_setCell_other _ _ _ _ (fun e => by have := congrArg Addr.block e; simp at this; omega), World.cell?_setCell_other _ _ _ _ (fun e => by have := congrArg Addr.block e; simp at this; omega)]; exact h1c
    · rw [World.frozen?_setCell, World.frozen?_setCell]; exact h.f0
    · rw [World.frozen?_setCell, World.frozen?_setCell]; exact h.f1
end Go.Proofs.Ytlebimolgienkaa
