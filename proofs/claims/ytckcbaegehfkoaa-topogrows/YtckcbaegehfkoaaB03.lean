/-
  graph.Add: one edge more.
  graph.eachOnce: edges in order, each once: slices.SortFunc by its contract, slices.Compact walked.
  slices.Compact at edges, and graph.eachOnce: the edges of a row, rising, each once.
-/
import Derived.Test.YtckcbaegehfkoaaB02
import Derived.Test.YtckcbaegehfkoaaB01
import Derived.Lib.SliceRun
import Derived.Lib.Walk
import Derived.Deep.LoopGhost
import Derived.BigQuiet
namespace Go.Proofs.Ytckcbaegehfkoaa
open Go.RowKit Go.Lib

theorem put_facts {es : List (Int × Int)} {e : Int × Int} {k : Nat} {has : Bool} (h : PlaceAt es e k has) (hr : Rises es) (hn : has = false) : Rises (es.take k ++ ([e] ++ es.drop k)) ∧ (es.take k ++ ([e] ++ es.drop k)).length = es.length + 1 ∧ ∀ x, x ∈ es.take k ++ ([e] ++ es.drop k) ↔ x ∈ es ∨ x = e := by
  have hl := h.le
  refine ⟨by rw [← List.append_assoc]; exact put_rises h hr hn, ?_, fun x => ?_⟩
  · simp only [List.length_append, List.length_take, List.length_drop, List.length_cons, List.length_nil]; omega
  · have hm : x ∈ es ↔ x ∈ es.take k ++ es.drop k := by rw [List.take_append_drop]
    rw [hm]
    simp only [List.mem_append, List.mem_singleton]
    constructor
    · rintro (h | h | h)
      · exact Or.inl (Or.inl h)
      · exact Or.inr h
      · exact Or.inl (Or.inr h)
    · rintro ((h | h) | h)
      · exact Or.inl h
      · exact Or.inr (Or.inr h)
      · exact Or.inr (Or.inl h)

/-- What a call that keeps what was there leaves of Add's own variables. -/
structure Kept (w V : World) (n : Int) (sv : Value) : Prop where
  n0 : V.cell? ⟨w.heap.size, 0, none⟩ = some (.int .i64 n)
  e0 : V.cell? ⟨w.heap.size, 1, none⟩ = some sv
  box : V.heap[w.heap.size + 1]? = some (.cells #[.int .i64 0, .slice none 0 0] 30)
  below : Below w.heap.size w V
  size : w.heap.size + 1 + 1 ≤ V.heap.size
theorem Kept.on {w V V' : World} {n : Int} {sv : Value} (h : Kept w V n sv) (hb : Below V.heap.size V V') : Kept w V' n sv := by
  have hs := h.size
  exact ⟨(hb.cell (p := ⟨w.heap.size, 0, none⟩) (by simp; omega)).trans h.n0, (hb.cell (p := ⟨w.heap.size, 1, none⟩) (by simp; omega)).trans h.e0, (hb.block _ (by omega)).trans h.box, h.below.trans (hb.mono h.below.size), Nat.le_trans hs hb.size⟩
/-- The answer is laid into the variable of the result. -/
theorem Kept.res {w V : World} {n : Int} {sv : Value} (h : Kept w V n sv) {a : Option Addr} {ys : List (Int × Int)} (hE : EAt V a ys) (hne : ∀ g off, a = some ⟨g, off, none⟩ → w.heap.size + 1 < g) (u1 u2 : Value) : EAt ((V.setCell ⟨w.heap.size + 1, 0, none⟩ u1).setCell ⟨w.heap.size + 1, 1, none⟩ u2) a ys ∧ Below w.heap.size w ((V.setCell ⟨w.heap.size + 1, 0, none⟩ u1).setCell ⟨w.heap.size + 1, 1, none⟩ u2) := by
  have hn : ∀ g off, 0 < ys.length → a = some ⟨g, off, none⟩ → g ≠ w.heap.size + 1 := fun g off _ ha => by have := hne g off ha; omega
  exact ⟨(hE.set (p := ⟨w.heap.size + 1, 0, none⟩) hn _).set (p := ⟨w.heap.size + 1, 1, none⟩) hn _, (h.below.setCell (p := ⟨w.heap.size + 1, 0, none⟩) (by simp) _).setCell (p := ⟨w.heap.size + 1, 1, none⟩) (by simp) _⟩

/-- The three parts in memory, put together. -/
theorem con3 (V : World) (a a3 : Option Addr) (cap c3 k N : Nat) (es : List (Int × Int)) (lo hi : Int) (hNe : N = es.length) (hN : N ≤ 4000) (hE : EAt V a es) (ha : a = none → cap = 0) (h3 : EAt V a3 (es.drop k)) (ha3 : a3 = none → c3 = 0) (hk : k ≤ N) :
    Calls Try.prog 67 #[.slice (some ⟨V.heap.size + 1, 0, none⟩) 3 3] ((V.alloc (.cells #[.int .i64 lo, .int .i64 hi] 59)).alloc (.cells #[.slice a k cap, .slice (some ⟨V.heap.size, 0, none⟩) 1 1, .slice a3 (N - k) c3] 22)).drew fun e w' => ∃ a' cap', e = .returned (.slice a' (N + 1) cap') ∧ Hid (Sl a' cap' (N + 1) ∧ EAt w' a' (es.take k ++ ([(lo, hi)] ++ es.drop k)) ∧ ∀ g off, a' = some ⟨g, off, none⟩ → V.heap.size ≤ g) ∧ Below V.heap.size V w' := by
  obtain ⟨X, hX⟩ : ∃ X, X = ((V.alloc (.cells #[.int .i64 lo, .int .i64 hi] 59)).alloc (.cells #[.slice a k cap, .slice (some ⟨V.heap.size, 0, none⟩) 1 1, .slice a3 (N - k) c3] 22)).drew := ⟨_, rfl⟩
  have s1 : (V.alloc (.cells #[.int .i64 lo, .int .i64 hi] 59)).heap.size = V.heap.size + 1 := by simp
  have hsX : X.heap.size = V.heap.size + 1 + 1 := by rw [hX]; simp
  have hbX : Below V.heap.size V X := by rw [hX]; exact (((Below.refl _ V).alloc (Nat.le_refl _) _).alloc (by omega) _).drew
  have o1 : X.heap[V.heap.size]? = some (.cells #[.int .i64 lo, .int .i64 hi] 59) := by
    rw [hX]
    show (World.alloc _ _).heap[V.heap.size]? = _
    rw [Below.heap_alloc _ _ _ (by omega)]; exact heap_alloc_new _ _
  have o2 : X.heap[V.heap.size + 1]? = some (.cells #[.slice a k cap, .slice (some ⟨V.heap.size, 0, none⟩) 1 1, .slice a3 (N - k) c3] 22) := by
    rw [hX, ← s1]; exact heap_alloc_new _ _
  rw [← hX]
  have hc := concat_any (V.heap.size + 1) 3 [(a, cap, es.take k), (some ⟨V.heap.size, 0, none⟩, 1, [(lo, hi)]), (a3, c3, es.drop k)] X (by omega) (by simp) (fun j hj => by
    have hj' : j = 0 ∨ j = 1 ∨ j = 2 := by simp at hj; omega
    rcases hj' with rfl | rfl | rfl
    · rw [cell_of_heap o2 0]
      simp only [List.getElem_cons_zero]
      rw [List.length_take, Nat.min_eq_left (by omega)]; rfl
    · rw [cell_of_heap o2 1]; rfl
    · rw [cell_of_heap o2 2]
      simp only [List.getElem_cons_zero, List.getElem_cons_succ]
      rw [List.length_drop, ← hNe]; rfl) (fun p hp => by
    simp at hp
    rcases hp with rfl | rfl | rfl
    · exact ⟨eat_take (hE.below hbX) k, ha⟩
    · refine ⟨fun _ => ⟨V.heap.size, 0, rfl, by omega, fun j hj => ?_⟩, fun h => by cases h⟩
      obtain rfl : j = 0 := by simp at hj; omega
      exact ⟨cell_of_heap o1 0, cell_of_heap o1 1⟩
    · exact ⟨h3.below hbX, ha3⟩) (by
    simp only [cat, List.append_nil, List.length_append, List.length_take, List.length_drop, List.length_cons, List.length_nil]; rw [← hNe]; omega)
  simp only [cat, List.append_nil] at hc
  have hl : (es.take k ++ ([(lo, hi)] ++ es.drop k)).length = N + 1 := by
    simp only [List.length_append, List.length_take, List.length_drop, List.length_cons, List.length_nil]; rw [← hNe]; omega
  rw [hl] at hc
  exact hc.mono fun _ _ ⟨a', cap', he, h1, h2, h4, h5⟩ => ⟨a', cap', he, ⟨h1, h2, fun g off hg => by have := h4 g off hg; omega⟩, hbX.trans (h5.mono (by omega))⟩

set_option maxHeartbeats 4000000 in
set_option maxRecDepth 100000 in
theorem add_any (n : Int) (a : Option Addr) (cap : Nat) (es : List (Int × Int)) (x y : Int) (b : Bool) (w : World) (hN : es.length ≤ 1000000) (hE : EAt w a es) (hS : Sl a cap es.length) (hb : b = true ↔ RightG n es) :
    Calls Try.prog 30 #[.agg #[.int .i64 n, .slice a es.length cap], .int .i64 x, .int .i64 y] w fun e w' => ∃ er ys a' cap', e = .returned (.tuple #[.agg #[.int .i64 (nOf' n er), .slice a' ys.length cap'], .int .i64 er]) ∧ AddE n es x y er ys ∧ Sl a' cap' ys.length ∧ EAt w' a' ys ∧ Below w.heap.size w w' := by
  obtain ⟨N, hNe⟩ : ∃ N, N = es.length := ⟨_, rfl⟩
  have HR : Hid (∀ W, EAt W a es → Calls Try.prog 62 #[.agg #[.int .i64 n, .slice a N cap]] W fun e w' => e = .returned (.bool b) ∧ Below W.heap.size W w') := fun W h => by rw [hNe]; exact right_any n a cap es b W hN h hb
  rw [← hNe] at hN ⊢
  have HN : Hid (N = es.length) := hNe
  have HE : Hid (EAt w a es) := hE
  have HSL : Hid (Sl a cap es.length) := hS
  have HB : Hid (b = true ↔ RightG n es) := hb
  clear hNe hE hb hS
  obtain ⟨W0, hW0, hsz, o1, o2, hB0⟩ := new_two' w (.cells #[.int .i64 n, .slice a N cap] 30) (.cells #[.int .i64 0, .slice none 0 0] 30)
  have HW0 : Hid (W0 = (w.alloc (.cells #[.int .i64 n, .slice a N cap] 30)).alloc (.cells #[.int .i64 0, .slice none 0 0] 30)) := hW0
  have HK0 : Hid (Kept w W0 n (.slice a N cap)) := ⟨cell_of_heap o1 0, cell_of_heap o1 1, o2, hB0, Nat.le_of_eq hsz.symm⟩
  clear hW0 o1 o2 hsz
  go_enter Try.func30, Try.ntmps30
  go_wp2_with fail
  rw [← HW0.out]
  refine (HR.out _ (HE.out.below hB0)).mono ?_
  rintro e w1 ⟨rfl, hb1⟩
  have hK1 := HK0.out.on hb1
  have HK1 : Hid (Kept w w1 n (.slice a N cap)) := hK1
  have g0 := hK1.n0
  have g1 := hK1.e0
  have r0 : w1.cell? ⟨w.heap.size + 1, 0, none⟩ = some (.int .i64 0) := cell_of_heap hK1.box 0
  have r1 : w1.cell? ⟨w.heap.size + 1, 1, none⟩ = some (.slice none 0 0) := cell_of_heap hK1.box 1
  have rf := frozen_of_heap hK1.box
  have hs1 := hK1.size
  clear hK1 hb1 HK0 HW0 HR hB0
  cases b with
  | false =>
    go_wp2
    refine bodyPost_ret (v := .tuple #[.agg #[.int .i64 0, .slice none 0 0], .int .i64 1]) ?_ rfl ⟨1, [], none, 0, rfl, Or.inl ⟨fun h => absurd (HB.out.2 h) (by simp), rfl, rfl⟩, sl_nil, eat_nil _ _, (HK1.out.res (eat_nil _ none) (fun _ _ h => by cases h) _ _).2⟩
    rw [results_cell_tmp rfl]
    go_simp
  | true =>
    have HRG : Hid (RightG n es) := HB.out.1 rfl
    clear HB
    obtain ⟨b1, hb1⟩ := ex_eq (decide (0 ≤ x ∧ x < n))
    obtain ⟨b2, hb2⟩ := ex_eq (decide (0 ≤ y ∧ y < n))
    have HV1 : Hid (∀ W, Calls Try.prog 63 #[.int .i64 n, .int .i64 x] W fun e w' => e = .returned (.bool b1) ∧ w' = W) := fun W => by rw [hb1]; exact isVertex_any n x W
    have HV2 : Hid (∀ W, Calls Try.prog 63 #[.int .i64 n, .int .i64 y] W fun e w' => e = .returned (.bool b2) ∧ w' = W) := fun W => by rw [hb2]; exact isVertex_any n y W
    have HBB : Hid (b1 = decide (0 ≤ x ∧ x < n) ∧ b2 = decide (0 ≤ y ∧ y < n)) := ⟨hb1, hb2⟩
    have bad : b1 = false ∨ b2 = false → Hid (¬ ((0 ≤ x ∧ x < n) ∧ (0 ≤ y ∧ y < n))) := fun h ha => by
      obtain ⟨hb1, hb2⟩ := HBB.out
      rcases h with h | h
      · rw [h] at hb1
        exact of_decide_eq_false hb1.symm ha.1
      · rw [h] at hb2
        exact of_decide_eq_false hb2.symm ha.2
    clear hb1 hb2
    cases b1 with
    | false =>
      have HBAD := bad (Or.inl rfl)
      clear bad
      go_wp2_with (go_at_call 63; refine (HV1.out _).mono ?_; rintro e w' ⟨rfl, rfl⟩)
      refine bodyPost_ret (v := .tuple #[.agg #[.int .i64 0, .slice none 0 0], .int .i64 4]) ?_ rfl ⟨4, [], none, 0, rfl, Or.inr (Or.inl ⟨HRG.out, HBAD.out, rfl, rfl⟩), sl_nil, eat_nil _ _, (HK1.out.res (eat_nil _ none) (fun _ _ h => by cases h) _ _).2⟩
      rw [results_cell_tmp rfl]
      go_simp
    | true =>
    cases b2 with
    | false =>
      have HBAD := bad (Or.inr rfl)
      clear bad
      go_wp2_with fail
      refine (HV1.out _).mono ?_
      rintro e w' ⟨rfl, rfl⟩
      go_wp2_with fail
      refine (HV2.out _).mono ?_
      rintro e w' ⟨rfl, rfl⟩
      go_wp2
      refine bodyPost_ret (v := .tuple #[.agg #[.int .i64 0, .slice none 0 0], .int .i64 4]) ?_ rfl ⟨4, [], none, 0, rfl, Or.inr (Or.inl ⟨HRG.out, HBAD.out, rfl, rfl⟩), sl_nil, eat_nil _ _, (HK1.out.res (eat_nil _ none) (fun _ _ h => by cases h) _ _).2⟩
      rw [results_cell_tmp rfl]
      go_simp
    | true =>
    clear bad
    have HIN : Hid ((0 ≤ x ∧ x < n) ∧ (0 ≤ y ∧ y < n)) := ⟨of_decide_eq_true HBB.out.1.symm, of_decide_eq_true HBB.out.2.symm⟩
    clear HBB
    by_cases hxy : x = y
    · subst hxy
      go_wp2_with fail
      refine (HV1.out _).mono ?_
      rintro e w' ⟨rfl, rfl⟩
      go_wp2_with fail
      refine (HV2.out _).mono ?_
      rintro e w' ⟨rfl, rfl⟩
      go_wp2
      refine bodyPost_ret (v := .tuple #[.agg #[.int .i64 0, .slice none 0 0], .int .i64 1]) ?_ rfl ⟨1, [], none, 0, rfl, Or.inr (Or.inr ⟨HRG.out, HIN.out, Or.inl ⟨rfl, rfl, rfl⟩⟩), sl_nil, eat_nil _ _, (HK1.out.res (eat_nil _ none) (fun _ _ h => by cases h) _ _).2⟩
      rw [results_cell_tmp rfl]
      go_simp
    have HNE : Hid (x ≠ y) := hxy
    have hq : (x == y) = false := beq_eq_false_iff_ne.2 hxy
    clear hxy
    obtain ⟨k, has, hp⟩ := placeAt_ex HRG.out.2.2.2.2 (min x y, max x y)
    have HP : Hid (PlaceAt es (min x y, max x y) k has) := hp
    obtain ⟨lo, hlo⟩ := ex_eq (min x y)
    obtain ⟨hi, hhi⟩ := ex_eq (max x y)
    have HPL : Hid (∀ W, EAt W a es → Calls Try.prog 65 #[.slice a N cap, .agg #[.int .i64 lo, .int .i64 hi]] W fun e w' => e = .returned (.tuple #[.int .i64 k, .bool has]) ∧ Below W.heap.size W w') := fun W h => by
      rw [HN.out]; exact place_det a cap es lo hi k has (by rw [hlo, hhi]; exact hp) W (by rw [← HN.out]; exact hN) h HRG.out.2.2.2.2
    have HJ : Hid (∀ W, Calls Try.prog 64 #[.int .i64 x, .int .i64 y] W fun e w' => e = .returned (.agg #[.int .i64 lo, .int .i64 hi]) ∧ Below W.heap.size W w') := fun W => by rw [hlo, hhi]; exact joining_below x y W
    have HLH : Hid (lo = min x y ∧ hi = max x y) := ⟨hlo, hhi⟩
    have hkN : k ≤ N := by rw [HN.out]; exact hp.le
    clear hp hlo hhi
    go_wp2_with fail
    refine (HV1.out _).mono ?_
    rintro e w' ⟨rfl, rfl⟩
    go_wp2_with fail
    refine (HV2.out _).mono ?_
    rintro e w' ⟨rfl, rfl⟩
    go_wp2_with fail
    refine (HJ.out _).mono ?_
    rintro e w2 ⟨rfl, hb2⟩
    have hK2 := (HK1.out.on hb2).on ((Below.refl _ w2).alloc (Nat.le_refl _) (.cells #[.int .i64 lo, .int .i64 hi] 59))
    have f0 := hK2.n0
    have f1 := hK2.e0
    have HK2 : Hid (Kept w (w2.alloc (.cells #[.int .i64 lo, .int .i64 hi] 59)) n (.slice a N cap)) := hK2
    have hs2 : w.heap.size + 1 < w2.heap.size := by have := hb2.size; omega
    have hd1 : ¬ w2.heap.size = w.heap.size + 1 := by omega
    have hd2 : ¬ w.heap.size + 1 = w2.heap.size := by omega
    clear hK2 g0 g1 r0 r1 rf HK1 hb2 hs1 HV1 HV2 HJ hs2
    go_wp2_with fail
    refine (HPL.out _ (HE.out.below HK2.out.below)).mono ?_
    rintro e V ⟨rfl, hbV⟩
    have hKV := HK2.out.on hbV
    have HKV : Hid (Kept w V n (.slice a N cap)) := hKV
    have v0 := hKV.n0
    have v1 := hKV.e0
    have x0 : V.cell? ⟨w.heap.size + 1, 0, none⟩ = some (.int .i64 0) := cell_of_heap hKV.box 0
    have x1 : V.cell? ⟨w.heap.size + 1, 1, none⟩ = some (.slice none 0 0) := cell_of_heap hKV.box 1
    have xf := frozen_of_heap hKV.box
    have hsV := hKV.size
    have hEB : V.heap[w2.heap.size]? = some (.cells #[.int .i64 lo, .int .i64 hi] 59) := (hbV.block _ (by simp)).trans (heap_alloc_new _ _)
    have e0 : V.cell? ⟨w2.heap.size, 0, none⟩ = some (.int .i64 lo) := cell_of_heap hEB 0
    have e1 : V.cell? ⟨w2.heap.size, 1, none⟩ = some (.int .i64 hi) := cell_of_heap hEB 1
    have HEV : Hid (EAt V a es) := HE.out.below hKV.below
    have HEB : Hid (V.heap[w2.heap.size]? = some (.cells #[.int .i64 lo, .int .i64 hi] 59)) := hEB
    have HEBK : Hid (∀ W, Below V.heap.size V W → W.cell? ⟨w2.heap.size, 0, none⟩ = some (.int .i64 lo) ∧ W.cell? ⟨w2.heap.size, 1, none⟩ = some (.int .i64 hi)) := fun W h => ⟨(h.cell (p := ⟨w2.heap.size, 0, none⟩) (block_lt_of_cell e0)).trans e0, (h.cell (p := ⟨w2.heap.size, 1, none⟩) (block_lt_of_cell e1)).trans e1⟩
    clear hKV f0 f1 HK2 hbV HPL hEB hq
    cases has with
    | true =>
      have HMEM : Hid ((min x y, max x y) ∈ es) := (HP.out.mem HRG.out.2.2.2.2).1 rfl
      have HCL : Hid (Calls Try.prog 66 #[.slice a N cap] V.drew fun e w' => ∃ a' cap', e = .returned (.slice a' N cap') ∧ Hid (Sl a' cap' N ∧ EAt w' a' es ∧ ∀ g off, a' = some ⟨g, off, none⟩ → V.heap.size ≤ g) ∧ Below V.heap.size V w') := by
        have hbd : Below V.heap.size V V.drew := (Below.refl _ V).drew
        have := clone_any a cap es V.drew (by rw [← HN.out]; exact hN) (HEV.out.below hbd) HSL.out
        rw [← HN.out] at this
        exact this.mono fun _ _ ⟨a', cap', he, h1, h2, h3, h4⟩ => ⟨a', cap', he, ⟨h1, h2, h3⟩, hbd.trans h4⟩
      clear e0 e1
      go_wp2_with fail
      go_cut [7] from 47 to 52 (fun v7 wx => v7 = .int .i64 0 ∧ ∃ a' cap', wx.cell? ⟨w.heap.size + 1, 0, none⟩ = some (.int .i64 n) ∧ wx.cell? ⟨w.heap.size + 1, 1, none⟩ = some (.slice a' N cap') ∧ Hid (Sl a' cap' N ∧ EAt wx a' es) ∧ Below w.heap.size w wx)
      case first =>
        go_region_held3 (fun w' => w'.cell? ⟨w.heap.size, 0, none⟩ = some (.int .i64 n) ∧ w'.cell? ⟨w.heap.size, 1, none⟩ = some (.slice a N cap)) (first | go_keep | exact ⟨(HKV.out.on hb3).n0, (HKV.out.on hb3).e0⟩)
          (first | (go_at_call 66; refine HCL.out.mono ?_; rintro e w3 ⟨a', cap', rfl, hz, hb3⟩; have hzz := (HKV.out.on hb3).box; have z0 := cell_of_heap hzz 0; have z1 := cell_of_heap hzz 1; have zf := frozen_of_heap hzz))
        all_goals (try go_wp2_with fail)
        all_goals go_meet
        all_goals exact ⟨rfl, a', cap', (two_set z0 z1 _ _).1, (two_set z0 z1 _ _).2, ⟨hz.out.1, ((HKV.out.on hb3).res hz.out.2.1 (fun g off hg => by have := hz.out.2.2 g off hg; omega) _ _).1⟩, ((HKV.out.on hb3).res hz.out.2.1 (fun g off hg => by have := hz.out.2.2 g off hg; omega) _ _).2⟩
      case rest =>
        obtain ⟨rfl, a', cap', y0, y1, hz, hbx⟩ := hcut
        clear HCL
        go_wp2
        refine bodyPost_ret (v := .tuple #[.agg #[.int .i64 n, .slice a' N cap'], .int .i64 0]) ?_ rfl ⟨0, es, a', cap', by rw [← HN.out]; rfl, Or.inr (Or.inr ⟨HRG.out, HIN.out, Or.inr (Or.inl ⟨HNE.out, HMEM.out, rfl, rfl⟩)⟩), by rw [← HN.out]; exact hz.out.1, hz.out.2, hbx⟩
        rw [results_cell_tmp rfl]
        go_simp
    | false =>
      have HNI : Hid ((min x y, max x y) ∉ es) := fun h => absurd ((HP.out.mem HRG.out.2.2.2.2).2 h) (by simp)
      have hN4 : N ≤ 4000 := by have := HRG.out.2.2.1; rw [← HN.out] at this; exact this
      by_cases h4 : N = 4000
      · subst h4
        go_wp2
        refine bodyPost_ret (v := .tuple #[.agg #[.int .i64 0, .slice none 0 0], .int .i64 5]) ?_ rfl ⟨5, [], none, 0, rfl, Or.inr (Or.inr ⟨HRG.out, HIN.out, Or.inr (Or.inr (Or.inl ⟨HNE.out, HNI.out, HN.out.symm, rfl, rfl⟩))⟩), sl_nil, eat_nil _ _, (HKV.out.res (eat_nil _ none) (fun _ _ h => by cases h) _ _).2⟩
        rw [results_cell_tmp rfl]
        go_simp
      have h4b : ((N : Int) == 4000) = false := beq_eq_false_iff_ne.2 (by omega)
      have HFA : Hid (Rises (es.take k ++ ([(min x y, max x y)] ++ es.drop k)) ∧ (es.take k ++ ([(min x y, max x y)] ++ es.drop k)).length = es.length + 1 ∧ ∀ z, z ∈ es.take k ++ ([(min x y, max x y)] ++ es.drop k) ↔ z ∈ es ∨ z = (min x y, max x y)) := put_facts HP.out HRG.out.2.2.2.2 rfl
      obtain ⟨ys, hys⟩ := ex_eq (es.take k ++ ([(min x y, max x y)] ++ es.drop k))
      have HYS : Hid (ys = es.take k ++ ([(lo, hi)] ++ es.drop k)) := by
        show ys = _
        rw [HLH.out.1, HLH.out.2]; exact hys
      rw [← hys] at HFA
      have HYL : Hid (ys.length = N + 1) := by
        show ys.length = N + 1
        rw [HFA.out.2.1, HN.out]
      clear hys HP
      have hcap : N ≤ cap := by rw [HN.out]; exact HSL.out.1
      have j1 : (0 : Int) ≤ (k : Int) := by omega
      rcases HSL.out.2.2 with rfl | ⟨g, off, rfl⟩
      · have hes := eat_none HEV.out
        obtain rfl := HSL.out.2.1 rfl
        obtain rfl : N = 0 := by omega
        obtain rfl : k = 0 := by omega
        have HCON : Hid (Calls Try.prog 67 #[.slice (some ⟨V.heap.size + 1, 0, none⟩) 3 3] ((V.alloc (.cells #[.int .i64 lo, .int .i64 hi] 59)).alloc (.cells #[.slice none 0 0, .slice (some ⟨V.heap.size, 0, none⟩) 1 1, .slice none 0 0] 22)).drew fun e w' => ∃ a' cap', e = .returned (.slice a' 1 cap') ∧ Hid (Sl a' cap' 1 ∧ EAt w' a' ys ∧ ∀ g off, a' = some ⟨g, off, none⟩ → V.heap.size ≤ g) ∧ Below V.heap.size V w') := by
          have := con3 V none none 0 0 0 0 es lo hi HN.out (by omega) HEV.out (fun _ => rfl) (by rw [hes]; exact eat_nil _ _) (fun _ => rfl) (Nat.le_refl _)
          rw [← HYS.out] at this
          exact this
        clear hes
        go_wp2_with fail
        go_cut [7] from 59 to 73 (fun v7 wx => v7 = .int .i64 0 ∧ ∃ a' cap', wx.cell? ⟨w.heap.size + 1, 0, none⟩ = some (.int .i64 n) ∧ wx.cell? ⟨w.heap.size + 1, 1, none⟩ = some (.slice a' 1 cap') ∧ Hid (Sl a' cap' 1 ∧ EAt wx a' ys) ∧ Below w.heap.size w wx)
        case first =>
          go_region_held3 (fun w' => w'.cell? ⟨w.heap.size, 0, none⟩ = some (.int .i64 n) ∧ w'.cell? ⟨w.heap.size, 1, none⟩ = some (.slice none 0 0) ∧ w'.cell? ⟨w2.heap.size, 0, none⟩ = some (.int .i64 lo) ∧ w'.cell? ⟨w2.heap.size, 1, none⟩ = some (.int .i64 hi)) (first | go_keep | exact ⟨(HKV.out.on hb3).n0, (HKV.out.on hb3).e0, (HEBK.out _ hb3).1, (HEBK.out _ hb3).2⟩)
            (first | (go_at_call 67; refine HCON.out.mono ?_; rintro e w3 ⟨a', cap', rfl, hz, hb3⟩; have hzz := (HKV.out.on hb3).box; have z0 := cell_of_heap hzz 0; have z1 := cell_of_heap hzz 1; have zf := frozen_of_heap hzz))
          all_goals (try go_wp2_with fail)
          all_goals go_meet
          all_goals exact ⟨rfl, a', cap', (two_set z0 z1 _ _).1, (two_set z0 z1 _ _).2, ⟨hz.out.1, ((HKV.out.on hb3).res hz.out.2.1 (fun g off hg => by have := hz.out.2.2 g off hg; omega) _ _).1⟩, ((HKV.out.on hb3).res hz.out.2.1 (fun g off hg => by have := hz.out.2.2 g off hg; omega) _ _).2⟩
        case rest =>
          obtain ⟨rfl, a', cap', y0, y1, hz, hbx⟩ := hcut
          clear HCON
          go_wp2
          refine bodyPost_ret (v := .tuple #[.agg #[.int .i64 n, .slice a' 1 cap'], .int .i64 0]) ?_ rfl ⟨0, ys, a', cap', by rw [HYL.out]; rfl, Or.inr (Or.inr ⟨HRG.out, HIN.out, Or.inr (Or.inr (Or.inr ⟨HNE.out, HNI.out, by rw [← HN.out]; omega, rfl, HFA.out.1, HFA.out.2.1, HFA.out.2.2⟩))⟩), by rw [HYL.out]; exact hz.out.1, hz.out.2, hbx⟩
          rw [results_cell_tmp rfl]
          go_simp
      · by_cases hck : cap = k
        · subst hck
          obtain rfl : N = cap := by omega
          have HCON : Hid (Calls Try.prog 67 #[.slice (some ⟨V.heap.size + 1, 0, none⟩) 3 3] ((V.alloc (.cells #[.int .i64 lo, .int .i64 hi] 59)).alloc (.cells #[.slice (some ⟨g, off, none⟩) N N, .slice (some ⟨V.heap.size, 0, none⟩) 1 1, .slice (some ⟨g, off, none⟩) 0 0] 22)).drew fun e w' => ∃ a' cap', e = .returned (.slice a' (N + 1) cap') ∧ Hid (Sl a' cap' (N + 1) ∧ EAt w' a' ys ∧ ∀ g off, a' = some ⟨g, off, none⟩ → V.heap.size ≤ g) ∧ Below V.heap.size V w') := by
            have hnil : es.drop N = [] := List.drop_eq_nil_of_le (by rw [← HN.out]; omega)
            have := con3 V (some ⟨g, off, none⟩) (some ⟨g, off, none⟩) N 0 N N es lo hi HN.out hN4 HEV.out (fun h => by cases h) (by rw [hnil]; exact eat_nil _ _) (fun h => by cases h) (Nat.le_refl _)
            rw [← HYS.out, Nat.sub_self] at this
            exact this
          have j2 : (N : Int) ≤ (N : Int) := by omega
          go_wp2_with fail
          go_cut [7] from 59 to 73 (fun v7 wx => v7 = .int .i64 0 ∧ ∃ a' cap', wx.cell? ⟨w.heap.size + 1, 0, none⟩ = some (.int .i64 n) ∧ wx.cell? ⟨w.heap.size + 1, 1, none⟩ = some (.slice a' (N + 1) cap') ∧ Hid (Sl a' cap' (N + 1) ∧ EAt wx a' ys) ∧ Below w.heap.size w wx)
          case first =>
            go_region_held3 (fun w' => w'.cell? ⟨w.heap.size, 0, none⟩ = some (.int .i64 n) ∧ w'.cell? ⟨w.heap.size, 1, none⟩ = some (.slice (some ⟨g, off, none⟩) N N) ∧ w'.cell? ⟨w2.heap.size, 0, none⟩ = some (.int .i64 lo) ∧ w'.cell? ⟨w2.heap.size, 1, none⟩ = some (.int .i64 hi)) (first | go_keep | exact ⟨(HKV.out.on hb3).n0, (HKV.out.on hb3).e0, (HEBK.out _ hb3).1, (HEBK.out _ hb3).2⟩)
              (first | (go_at_call 67; refine HCON.out.mono ?_; rintro e w3 ⟨a', cap', rfl, hz, hb3⟩; have hzz := (HKV.out.on hb3).box; have z0 := cell_of_heap hzz 0; have z1 := cell_of_heap hzz 1; have zf := frozen_of_heap hzz))
            all_goals (try go_wp2_with fail)
            all_goals go_meet
            all_goals exact ⟨rfl, a', cap', (two_set z0 z1 _ _).1, (two_set z0 z1 _ _).2, ⟨hz.out.1, ((HKV.out.on hb3).res hz.out.2.1 (fun g off hg => by have := hz.out.2.2 g off hg; omega) _ _).1⟩, ((HKV.out.on hb3).res hz.out.2.1 (fun g off hg => by have := hz.out.2.2 g off hg; omega) _ _).2⟩
          case rest =>
            obtain ⟨rfl, a', cap', y0, y1, hz, hbx⟩ := hcut
            clear HCON
            go_wp2
            refine bodyPost_ret (v := .tuple #[.agg #[.int .i64 n, .slice a' (N + 1) cap'], .int .i64 0]) ?_ rfl ⟨0, ys, a', cap', by rw [HYL.out]; rfl, Or.inr (Or.inr ⟨HRG.out, HIN.out, Or.inr (Or.inr (Or.inr ⟨HNE.out, HNI.out, by rw [← HN.out]; omega, rfl, HFA.out.1, HFA.out.2.1, HFA.out.2.2⟩))⟩), by rw [HYL.out]; exact hz.out.1, hz.out.2, hbx⟩
            rw [results_cell_tmp rfl]
            go_simp
        · have HCON : Hid (Calls Try.prog 67 #[.slice (some ⟨V.heap.size + 1, 0, none⟩) 3 3] ((V.alloc (.cells #[.int .i64 lo, .int .i64 hi] 59)).alloc (.cells #[.slice (some ⟨g, off, none⟩) k cap, .slice (some ⟨V.heap.size, 0, none⟩) 1 1, .slice (some ⟨g, off + k * 2, none⟩) (N - k) (cap - k)] 22)).drew fun e w' => ∃ a' cap', e = .returned (.slice a' (N + 1) cap') ∧ Hid (Sl a' cap' (N + 1) ∧ EAt w' a' ys ∧ ∀ g off, a' = some ⟨g, off, none⟩ → V.heap.size ≤ g) ∧ Below V.heap.size V w') := by
            have := con3 V (some ⟨g, off, none⟩) (some ⟨g, off + k * 2, none⟩) cap (cap - k) k N es lo hi HN.out hN4 HEV.out (fun h => by cases h) (eat_drop HEV.out k) (fun h => by cases h) hkN
            rw [← HYS.out] at this
            exact this
          have j2 : (k : Int) ≤ (cap : Int) := by omega
          have j3 : (k : Int) ≤ (N : Int) := by omega
          have j4 : (N : Int) ≤ (cap : Int) := by omega
          go_wp2_with fail
          go_cut [7] from 59 to 73 (fun v7 wx => v7 = .int .i64 0 ∧ ∃ a' cap', wx.cell? ⟨w.heap.size + 1, 0, none⟩ = some (.int .i64 n) ∧ wx.cell? ⟨w.heap.size + 1, 1, none⟩ = some (.slice a' (N + 1) cap') ∧ Hid (Sl a' cap' (N + 1) ∧ EAt wx a' ys) ∧ Below w.heap.size w wx)
          case first =>
            go_region_held3 (fun w' => w'.cell? ⟨w.heap.size, 0, none⟩ = some (.int .i64 n) ∧ w'.cell? ⟨w.heap.size, 1, none⟩ = some (.slice (some ⟨g, off, none⟩) N cap) ∧ w'.cell? ⟨w2.heap.size, 0, none⟩ = some (.int .i64 lo) ∧ w'.cell? ⟨w2.heap.size, 1, none⟩ = some (.int .i64 hi)) (first | go_keep | exact ⟨(HKV.out.on hb3).n0, (HKV.out.on hb3).e0, (HEBK.out _ hb3).1, (HEBK.out _ hb3).2⟩)
              (first | (go_at_call 67; refine HCON.out.mono ?_; rintro e w3 ⟨a', cap', rfl, hz, hb3⟩; have hzz := (HKV.out.on hb3).box; have z0 := cell_of_heap hzz 0; have z1 := cell_of_heap hzz 1; have zf := frozen_of_heap hzz))
            all_goals (try go_wp2_with fail)
            all_goals go_meet
            all_goals exact ⟨rfl, a', cap', (two_set z0 z1 _ _).1, (two_set z0 z1 _ _).2, ⟨hz.out.1, ((HKV.out.on hb3).res hz.out.2.1 (fun g off hg => by have := hz.out.2.2 g off hg; omega) _ _).1⟩, ((HKV.out.on hb3).res hz.out.2.1 (fun g off hg => by have := hz.out.2.2 g off hg; omega) _ _).2⟩
          case rest =>
            obtain ⟨rfl, a', cap', y0, y1, hz, hbx⟩ := hcut
            clear HCON
            go_wp2
            refine bodyPost_ret (v := .tuple #[.agg #[.int .i64 n, .slice a' (N + 1) cap'], .int .i64 0]) ?_ rfl ⟨0, ys, a', cap', by rw [HYL.out]; rfl, Or.inr (Or.inr ⟨HRG.out, HIN.out, Or.inr (Or.inr (Or.inr ⟨HNE.out, HNI.out, by rw [← HN.out]; omega, rfl, HFA.out.1, HFA.out.2.1, HFA.out.2.2⟩))⟩), by rw [HYL.out]; exact hz.out.1, hz.out.2, hbx⟩
            rw [results_cell_tmp rfl]
            go_simp
end Go.Proofs.Ytckcbaegehfkoaa
namespace Go.Proofs.Ytckcbaegehfkoaa
open Go.RowKit Go.Lib Go.Sort

/-- The first n of a row that is told place by place. -/
def lst (c : Nat → Int × Int) (n : Nat) : List (Int × Int) := (List.range n).map c
theorem lst_len (c : Nat → Int × Int) (n : Nat) : (lst c n).length = n := by simp [lst]
theorem lst_succ (c : Nat → Int × Int) (n : Nat) : lst c (n + 1) = lst c n ++ [c n] := by simp [lst, List.range_succ]
theorem lst_at {c : Nat → Int × Int} {n k : Nat} (h : k < (lst c n).length) : (lst c n)[k] = c k := by simp [lst]
theorem mem_lst {c : Nat → Int × Int} {n : Nat} {x : Int × Int} : x ∈ lst c n ↔ ∃ j, j < n ∧ c j = x := by simp [lst]
theorem lst_congr {c d : Nat → Int × Int} {n : Nat} (h : ∀ j, j < n → c j = d j) : lst c n = lst d n := List.map_congr_left (fun j hj => h j (by simpa using hj))
theorem lst_list (es : List (Int × Int)) : lst (fun j => es[j]?.getD (0, 0)) es.length = es := by
  apply List.ext_getElem
  · simp [lst]
  · intro i h1 h2; simp [lst, h2]
theorem rises_snoc {es : List (Int × Int)} {x : Int × Int} (h : Rises es) (hx : ∀ y ∈ es, ltE y x = true) : Rises (es ++ [x]) := by
  unfold Rises
  rw [List.pairwise_append]
  exact ⟨h, by simp, fun a ha b hb => by simp at hb; subst hb; exact hx a ha⟩

/-- A row of edges that may be written, place by place. -/
def Row2 (w : World) (g n : Nat) (c : Nat → Int × Int) : Prop := g < w.heap.size ∧ ∀ j, j < n → (w.cell? ⟨g, j * 2, none⟩ = some (.int .i64 (c j).1) ∧ w.frozen? ⟨g, j * 2, none⟩ = false) ∧ (w.cell? ⟨g, j * 2 + 1, none⟩ = some (.int .i64 (c j).2) ∧ w.frozen? ⟨g, j * 2 + 1, none⟩ = false)
theorem Row2.drewN {w : World} {g n : Nat} {c : Nat → Int × Int} (h : Row2 w g n c) (q : Nat) : Row2 (w.drewN q) g n c := h
theorem cell_set_other {w : World} {p q : Addr} {v : Value} (h : q ≠ p) : (w.setCell p v).cell? q = w.cell? q := World.cell?_setCell_other _ _ _ _ (Ne.symm h)
theorem Row2.put {w : World} {g n : Nat} {c : Nat → Int × Int} (h : Row2 w g n c) {i : Nat} (hi : i < n) (x : Int × Int) :
    Row2 ((w.setCell ⟨g, i * 2, none⟩ (.int .i64 x.1)).setCell ⟨g, i * 2 + 1, none⟩ (.int .i64 x.2)) g n (fun j => if j = i then x else c j) := by
  refine ⟨by simpa using h.1, fun j hj => ?_⟩
  obtain ⟨⟨a, fa⟩, b, fb⟩ := h.2 j hj
  obtain ⟨⟨ai, fai⟩, bi, fbi⟩ := h.2 i hi
  simp only [World.frozen?_setCell]
  refine ⟨⟨?_, fa⟩, ?_, fb⟩
  · rw [cell_set_other (by simp <;> omega)]
    by_cases e : j = i
    · subst e
      rw [if_pos rfl]
      exact World.cell?_setCell_same' _ _ _ (by rw [a]; rfl)
    · rw [if_neg e, cell_set_other (by simp <;> omega)]
      exact a
  · by_cases e : j = i
    · subst e
      rw [if_pos rfl]
      exact World.cell?_setCell_same' _ _ _ (by rw [cell_set_other (by simp <;> omega), b]; rfl)
    · rw [if_neg e, cell_set_other (by simp <;> omega), cell_set_other (by simp <;> omega)]
      exact b
theorem Row2.eat {w : World} {g n K : Nat} {c : Nat → Int × Int} (h : Row2 w g n c) (hK : K ≤ n) : EAt w (some ⟨g, 0, none⟩) (lst c K) := fun _ =>
  ⟨g, 0, rfl, h.1, fun k hk => by
    rw [lst_len] at hk
    have := h.2 k (by omega)
    rw [lst_at, Nat.zero_add]
    exact ⟨this.1.1, this.2.1⟩⟩

def encE (x : Int × Int) : List Value := [.int .i64 x.1, .int .i64 x.2]
theorem encE_one (x : Int × Int) : ∀ v ∈ encE x, v.oneCell' = true := fun v hv => by simp [encE] at hv; rcases hv with rfl | rfl <;> rfl
theorem Row2.holds {w : World} {g n : Nat} {c : Nat → Int × Int} (h : Row2 w g n c) : HoldsK encE 2 w g 0 (lst c n).toArray := by
  intro j hj
  have hj' : j < n * 2 := by rw [size_flatK] at hj; simpa [lst_len] using hj
  rw [get_flatK _ _ _ _ (by simpa [lst_len] using hj')]
  have hn : j / 2 < (lst c n).length := by rw [lst_len]; omega
  have e : (lst c n).toArray[j / 2]! = c (j / 2) := by
    rw [getElem!_pos _ _ (by simpa using hn)]
    simp [lst]
  rw [e, Nat.zero_add]
  have hh := h.2 (j / 2) (by omega)
  rcases Nat.mod_two_eq_zero_or_one j with h0 | h0
  · have h2 : j / 2 * 2 = j := by omega
    rw [h0]
    rw [h2] at hh
    exact hh.1
  · have h2 : j / 2 * 2 + 1 = j := by omega
    rw [h0]
    rw [h2] at hh
    exact hh.2
theorem row2_holds {w : World} {g : Nat} {d : Array (Int × Int)} (hg : g < w.heap.size) (h : HoldsK encE 2 w g 0 d) : Row2 w g d.size (fun j => d[j]!) := by
  refine ⟨hg, fun j hj => ?_⟩
  have a := h.cell hj (show 0 < 2 by omega)
  have b := h.cell hj (show 1 < 2 by omega)
  rw [Nat.zero_add] at a b
  exact ⟨a, b⟩

theorem row2_own {w : World} {base : Nat} {e : TypeId} {v : Value} {es : List (Int × Int)} (h : w.ownsRow base e 2 v es.length (cellsE es)) (hn : 0 < es.length) :
    ∃ g cap, v = .slice (some ⟨g, 0, none⟩) es.length cap ∧ base ≤ g ∧ es.length ≤ cap ∧ Row2 w g es.length (fun j => es[j]?.getD (0, 0)) := by
  rcases h.2 with ⟨_, h0⟩ | ⟨g, cap, cur, hv, hb, hg, hnc, _, hcur, htake⟩
  · omega
  · have hgs : g < w.heap.size := (Array.getElem?_eq_some_iff.1 hg).1
    refine ⟨g, cap, hv, hb, hnc, hgs, fun j hj => ?_⟩
    have hc := h.cells (g := g) (by rw [hv]; rfl)
    have h1 := cellsE_at es j hj
    have c1 := hc _ _ h1.1
    have c2 := hc _ _ h1.2
    rw [add_at, Nat.zero_add] at c1 c2
    have e : es[j]?.getD (0, 0) = es[j] := by rw [List.getElem?_eq_getElem hj]; rfl
    show (_ = some (Value.int .i64 (es[j]?.getD (0, 0)).1) ∧ _) ∧ (_ = some (Value.int .i64 (es[j]?.getD (0, 0)).2) ∧ _)
    rw [e]
    exact ⟨⟨c1, frozen_of_heap hg _⟩, c2, frozen_of_heap hg _⟩

theorem swoE : SWO (ltOf cmpE) := by
  have e : ∀ x y, ltOf cmpE x y = ltE x y := fun x y => cmpE_lt x y
  exact ⟨fun x => by rw [e]; exact ltE_irrefl x, fun x y z h h' => by rw [e] at *; exact ltE_trans h h', fun x y z h h' => by rw [e] at *; exact ltE_ntrans h h'⟩

theorem grown_sortE {w : World} {g n : Nat} {os : Array Obj} (d : Array (Int × Int)) : w.grownBy (sortWorldK encE 2 w g 0 n d os) (some g) := by
  refine ⟨rfl, rfl, rfl, size_sortWorldK_c encE 2 w g 0 n d os, fun k hk hne => ?_⟩
  unfold sortWorldK
  rw [heap_grow_old _ _ (by simpa [putRowK, putRow, mapBlock, Sort.ahead] using hk)]
  have : g ≠ k := fun e => hne (by rw [e])
  simp [putRowK, putRow, mapBlock, Sort.ahead, Array.getElem?_modify, this]

end Go.Proofs.Ytckcbaegehfkoaa
namespace Go.Proofs.Ytckcbaegehfkoaa
open Go.RowKit Go.Lib Go.Sort

theorem same_or (x y : Int × Int) : (x.1 = y.1 ∧ x.2 = y.2) ∨ (x.1 = y.1 ∧ (x.2 == y.2) = false) ∨ (x.1 == y.1) = false := by
  by_cases h : x.1 = y.1
  · by_cases h2 : x.2 = y.2
    · exact Or.inl ⟨h, h2⟩
    · exact Or.inr (Or.inl ⟨h, beq_eq_false_iff_ne.2 h2⟩)
  · exact Or.inr (Or.inr (beq_eq_false_iff_ne.2 h))
theorem lt_next {c : Nat → Int × Int} {n : Nat} (hs : ∀ i j, i < j → j < n → ltE (c j) (c i) = false) {m : Nat} (hm : m + 1 < n) (hne : c (m + 1) ≠ c m) : ∀ j, j ≤ m → ltE (c j) (c (m + 1)) = true := by
  intro j hj
  cases h : ltE (c j) (c (m + 1)) with
  | true => rfl
  | false =>
    have e := ltE_tri _ _ h (hs j (m + 1) (by omega) hm)
    by_cases hjm : j = m
    · subst hjm; exact absurd e.symm hne
    · have h2 := hs j m (by omega) (by omega)
      have h3 := hs m (m + 1) (by omega) hm
      rw [e] at h2
      exact absurd (ltE_tri _ _ h3 h2) hne
theorem rise_next {c : Nat → Int × Int} {n m : Nat} (hs : ∀ i j, i < j → j < n → ltE (c j) (c i) = false) (hm : m + 1 < n) (hne : c (m + 1) ≠ c m) (h : Rises (lst c (m + 1))) : Rises (lst c (m + 1 + 1)) := by
  rw [lst_succ]
  refine rises_snoc h (fun y hy => ?_)
  obtain ⟨j, hj, rfl⟩ := mem_lst.1 hy
  exact lt_next hs hm hne j (by omega)
theorem rise_small (c : Nat → Int × Int) {n : Nat} (h : n < 2) : Rises (lst c n) := by
  unfold Rises lst
  rcases (by omega : n = 0 ∨ n = 1) with rfl | rfl <;> simp [List.range_succ]

/-- What the second loop has made: K places hold the edges of the first T, each once; those behind are as they were. -/
structure Made (c c' : Nat → Int × Int) (K T : Nat) : Prop where
  rises : Rises (lst c' K)
  mem : ∀ x, x ∈ lst c' K ↔ x ∈ lst c T
  high : ∀ j, K ≤ j → c' j = c j
theorem made_start {c : Nat → Int × Int} {m : Nat} (h : Rises (lst c (m + 1))) (e : c (m + 1) = c m) : Made c c (m + 1) (m + 1 + 1) := by
  refine ⟨h, fun x => ?_, fun _ _ => rfl⟩
  rw [lst_succ c (m + 1), List.mem_append]
  refine ⟨Or.inl, fun hx => ?_⟩
  rcases hx with hx | hx
  · exact hx
  · simp at hx
    rw [hx, e]
    exact mem_lst.2 ⟨m, by omega, rfl⟩
theorem made_skip {c c' : Nat → Int × Int} {K T : Nat} (h : Made c c' K (T + 1)) (e : c (T + 1) = c T) : Made c c' K (T + 1 + 1) := by
  refine ⟨h.rises, fun x => ?_, h.high⟩
  rw [h.mem, lst_succ c (T + 1), List.mem_append]
  refine ⟨Or.inl, fun hx => ?_⟩
  rcases hx with hx | hx
  · exact hx
  · simp at hx
    rw [hx, e]
    exact mem_lst.2 ⟨T, by omega, rfl⟩
theorem made_put {c c' : Nat → Int × Int} {K T n : Nat} (h : Made c c' K (T + 1)) (hs : ∀ i j, i < j → j < n → ltE (c j) (c i) = false) (hT : T + 1 < n) (hne : c (T + 1) ≠ c T) : Made c (fun j => if j = K then c (T + 1) else c' j) (K + 1) (T + 1 + 1) := by
  have e0 : lst (fun j => if j = K then c (T + 1) else c' j) K = lst c' K := lst_congr (fun j hj => if_neg (by omega))
  refine ⟨?_, fun x => ?_, fun j hj => ?_⟩
  · rw [lst_succ, e0]
    refine rises_snoc h.rises (fun y hy => ?_)
    rw [h.mem] at hy
    obtain ⟨j, hj, rfl⟩ := mem_lst.1 hy
    show ltE (c j) (if K = K then c (T + 1) else c' K) = true
    rw [if_pos rfl]
    exact lt_next hs hT hne j (by omega)
  · rw [lst_succ, lst_succ c (T + 1), e0, List.mem_append, List.mem_append, h.mem]
    simp
  · show (if j = K then c (T + 1) else c' j) = c j
    rw [if_neg (by omega)]
    exact h.high j (by omega)

/-- 'clear' of a row of edges: some cells of that block alone are written. -/
theorem run_clear_edges (w : World) (b o n c : Nat) (hn : 0 < n) (hc : ∀ j, j < n * 2 → (w.cell? ⟨b, o + j, none⟩).isSome = true) (hf : ∀ j, j < n * 2 → w.frozen? ⟨b, o + j, none⟩ = false) :
    ∃ vs : List Value, vs.length = n * 2 ∧ ∀ ty : TypeId, (Builtin.clear_ #[22] ty #[.slice (some ⟨b, o, none⟩) n c]).run Try.prog w = .ok (.tuple #[]) (w.setCells b o vs) := by
  obtain ⟨vs, hvs⟩ : ∃ vs : List Value, vs = (Builtin.zeroCells (Value.agg #[.int .i64 0, .int .i64 0]).cells n).toList := ⟨_, rfl⟩
  have hl : vs.length = n * 2 := by rw [hvs]; simp [Builtin.zeroCells, Value.cells]
  have h1 : ∀ v ∈ vs, v.oneCell' = true := by
    rw [hvs]
    intro v hv
    simp [Builtin.zeroCells, Value.cells] at hv
    obtain ⟨i, hi, rfl⟩ := hv
    rcases Nat.mod_two_eq_zero_or_one i with h0 | h0 <;> simp [h0] <;> rfl
  refine ⟨vs, hl, fun ty => ?_⟩
  have hst := run_storeCells_cells (P := Try.prog) b o vs 0 w (by rw [hl]; simpa using hc) (by rw [hl]; simpa using hf) h1
  simp only [Nat.add_zero] at hst
  obtain ⟨m, rfl⟩ : ∃ m, n = m + 1 := ⟨n - 1, by omega⟩
  simp [Builtin.clear_, run_underlying Try.underlying22, Try.zeroValue59, ← hvs, hst]
end Go.Proofs.Ytckcbaegehfkoaa
