/-
  graph.Has: are two vertices neighbours?
-/
import Derived.Test.YtalhjankofdhgaaGNb
namespace Go.Proofs.Ytalhjankofdhgaa
open Go.RowKit Go.Lib Go.Shelf
attribute [local go_sem] Oper.semAt_some

theorem mem_stop {L pre : List Int} {x y : Int} (hL : L.Pairwise (· < ·)) (hp : pre ++ [x] <+: L) (hlt : ∀ z ∈ pre, z < y) (hx : y ≤ x) : (x == y) = decide (y ∈ L) := by
  obtain ⟨r, rfl⟩ := hp
  rw [List.append_assoc] at hL
  have h2 := (List.pairwise_append.1 hL).2.1
  rw [List.singleton_append, List.pairwise_cons] at h2
  rw [Bool.eq_iff_iff, beq_iff_eq, decide_eq_true_eq]
  constructor
  · rintro rfl; simp
  · intro hy
    rw [List.append_assoc] at hy
    rcases List.mem_append.1 hy with hy | hy
    · have := hlt y hy; omega
    · rcases List.mem_append.1 hy with hy | hy
      · simp at hy; exact hy.symm
      · have := h2.1 y hy; omega

theorem alloc_at {w : World} {o : Obj} {k : Nat} (h : k < w.heap.size) : (w.alloc o).heap[k]? = w.heap[k]? := Below.heap_alloc _ _ _ h
theorem five_new (w : World) (o1 o2 o3 o4 o5 : Obj) : ∃ W0, W0 = ((((w.alloc o1).alloc o2).alloc o3).alloc o4).alloc o5 ∧ W0.heap.size = w.heap.size + 1 + 1 + 1 + 1 + 1 ∧ W0.heap[w.heap.size + 1]? = some o2 ∧ W0.heap[w.heap.size + 1 + 1]? = some o3 ∧ W0.heap[w.heap.size + 1 + 1 + 1]? = some o4 ∧ W0.heap[w.heap.size + 1 + 1 + 1 + 1]? = some o5 ∧ Below w.heap.size w W0 := by
  have s1 : (w.alloc o1).heap.size = w.heap.size + 1 := by simp
  have s2 : ((w.alloc o1).alloc o2).heap.size = w.heap.size + 1 + 1 := by simp
  have s3 : (((w.alloc o1).alloc o2).alloc o3).heap.size = w.heap.size + 1 + 1 + 1 := by simp
  have s4 : ((((w.alloc o1).alloc o2).alloc o3).alloc o4).heap.size = w.heap.size + 1 + 1 + 1 + 1 := by simp
  refine ⟨_, rfl, by simp, ?_, ?_, ?_, ?_, ?_⟩
  · rw [alloc_at (by omega), alloc_at (by omega), alloc_at (by omega), ← s1]; exact heap_alloc_new _ _
  · rw [alloc_at (by omega), alloc_at (by omega), ← s2]; exact heap_alloc_new _ _
  · rw [alloc_at (by omega), ← s3]; exact heap_alloc_new _ _
  · rw [← s4]; exact heap_alloc_new _ _
  · exact (((((Below.refl _ _).alloc (Nat.le_refl _) _).alloc (by omega) _).alloc (by omega) _).alloc (by omega) _).alloc (by omega) _

set_option maxRecDepth 100000 in
set_option maxHeartbeats 2000000 in
theorem has_any (n : Int) (a : Option Addr) (cap : Nat) (es : List (Int × Int)) (x y : Int) (b : Bool) (L : List Int) (w : World) (hN : es.length ≤ 1000000) (hE : EAt w a es) (hb : b = true ↔ RightG n es) (hL : L = if b = true then nbL x es else []) :
    Calls Try.prog 16 #[.agg #[.int .i64 n, .slice a es.length cap], .int .i64 x, .int .i64 y] w fun e w' => e = .returned (.bool (decide (y ∈ L))) ∧ Below w.heap.size w w' := by
  have HLR : Hid (L.Pairwise (· < ·)) := by
    show L.Pairwise (· < ·)
    rw [hL]
    cases b with
    | false => exact List.Pairwise.nil
    | true => exact nbL_rises (hb.1 rfl)
  refine (callsIn_wide (n := 6)).1 ?_
  refine callsIn_of_wp_marks Try.func16 rfl trivial ?_ rfl
  simp only [Try.ntmps16, List.size_toArray, List.length_cons, List.length_nil, Nat.reduceAdd, Nat.reduceSub, Array.replicate_succ, Array.replicate_zero, List.push_toArray, List.append_toArray, List.nil_append, List.cons_append]
  gi_wp2_with fail
  refine ⟨trivial, ?_⟩
  refine (callsIn_wide.2 (neighbours_any _ n a es.length cap x _ rfl)).mono ?_
  rintro e w' ⟨rfl, rfl⟩
  gi_wp2_with fail
  obtain ⟨W0, hW0, hsz, o2, o3, o4, o5, hB0⟩ := five_new w (.cells #[.int .i64 n, .slice a es.length cap] 25) (.cells #[.int .i64 y] 3) (.cells #[.bool false] 4) (.cells #[.int .i64 n, .slice a es.length cap] 25) (.cells #[.int .i64 x] 3)
  rw [← hW0]
  clear hW0
  have y0 : W0.cell? ⟨w.heap.size + 1, 0, none⟩ = some (.int .i64 y) := cell_of_heap o2 0
  have r0 : W0.cell? ⟨w.heap.size + 1 + 1, 0, none⟩ = some (.bool false) := cell_of_heap o3 0
  have rf := frozen_of_heap o3 0
  have hE0 : EAt W0 a es := hE.below hB0
  refine wpIn_rangeFunc_ownF rfl (by omega) (gf := 43) (lb := #[.pointer (some ⟨w.heap.size + 1 + 1 + 1, 0, none⟩), .pointer (some ⟨w.heap.size + 1 + 1 + 1 + 1, 0, none⟩)]) rfl trivial (enters_of Try.func43 (by kernel_rfl) rfl)
    (nb_stops 5 (by omega) (w.heap.size + 1 + 1 + 1) (w.heap.size + 1 + 1 + 1 + 1) W0.heap.size n x a cap es b L hL hN hb W0 (Nat.le_refl _) (by omega) (by omega) (cell_of_heap o4 0) (cell_of_heap o4 1) (cell_of_heap o5 0) hE0 hE0.lt) kpE_t (kpE_b (Nat.le_refl _)) (Below.refl _ _) (fun _ => rfl)
    (fun pre W => ((∀ z ∈ pre, z < y) ∧ W.cell? ⟨w.heap.size + 1, 0, none⟩ = some (.int .i64 y) ∧ W.cell? ⟨w.heap.size + 1 + 1, 0, none⟩ = some (.bool false) ∧ W.frozen? ⟨w.heap.size + 1 + 1, 0, none⟩ = false) ∧ Below w.heap.size w W)
    (fun c pre W => (c = .ret ∧ (∃ pre' z, pre = pre' ++ [z] ∧ (∀ u ∈ pre', u < y) ∧ y ≤ z ∧ W.cell? ⟨w.heap.size + 1 + 1, 0, none⟩ = some (.bool (z == y)))) ∧ Below w.heap.size w W)
    (OwnFrom.and (Own.from (fun s A B row hs hg hr => ⟨hs.1, cell_kept hs.2.1 hg hr, cell_kept hs.2.2.1 hg hr, (frozen_kept hs.2.2.1 hg hr).trans hs.2.2.2⟩) _) (ownFrom_below (Nat.le_refl _) (by omega)))
    (fun c => OwnFrom.and (Own.from (fun s A B row hs hg hr => ⟨hs.1, by obtain ⟨p, z, h1, h2, h3, h4⟩ := hs.2; exact ⟨p, z, h1, h2, h3, cell_kept h4 hg hr⟩⟩) _) (ownFrom_below (Nat.le_refl _) (by omega)))
    ⟨⟨by simp, y0, r0, rf⟩, hB0⟩
    (fun z => { tmps := #[.agg #[.int .i64 n, .slice a es.length cap], .int .i64 x, .int .i64 y, .pointer (some ⟨w.heap.size, 0, none⟩), undef, .pointer (some ⟨w.heap.size + 1, 0, none⟩), .pointer (some ⟨w.heap.size + 1 + 1, 0, none⟩), .int .i64 z, .agg #[.int .i64 n, .slice a es.length cap], .int .i64 x, .func (.func 43) #[] #[.pointer (some ⟨w.heap.size + 1 + 1 + 1, 0, none⟩), .pointer (some ⟨w.heap.size + 1 + 1 + 1 + 1, 0, none⟩)], .int .i64 z, undef, undef, undef, undef, undef, undef], defers := [] }) ?assign ?body ?done ?stop
  case assign =>
    intro l x W K hK
    gi_wp2
    exact hK
  case body =>
    rintro l pre z W ⟨⟨hp, hcy, hcr, hfr⟩, hB⟩ _
    by_cases hz : y ≤ z
    · gi_wp2
      exact ⟨KeepsOthers.setCell _ _ _, ⟨rfl, pre, z, rfl, hp, hz, World.cell?_setCell_same' _ _ _ (by rw [hcr]; rfl)⟩, hB.setCell (p := ⟨w.heap.size + 1 + 1, 0, none⟩) (by simp; omega) _⟩
    · gi_wp2
      exact ⟨KeepsOthers.refl _, kpE_refl _ _, ⟨fun u hu => (List.mem_append.1 hu).elim (hp u) (fun e => by simp at e; omega), hcy, hcr, hfr⟩, hB⟩
  case done =>
    rintro D ys W hD rfl ⟨⟨hne, _, hcr, hfr⟩, hB⟩ hK
    gi_wp2
    have hK' := (KeepsOthers.setCell W ⟨w.heap.size + 1 + 1, 0, none⟩ (.bool false)).same D _ hK rfl
    refine ⟨by simp, .inl ⟨_, _, rfl, run_takeDeferred hK', ?_⟩⟩
    have hc5 := cell_kept (World.cell?_setCell_same' W ⟨w.heap.size + 1 + 1, 0, none⟩ (.bool false) (by rw [hcr]; rfl)) (grownBy_putObj' _ D (.deferred none)) (fun r e => by cases e; exact ⟨_, hK', rfl⟩)
    refine ⟨.bool false, ?_, by rw [decide_eq_false (fun h => absurd (hne y h) (by omega))], (hB.setCell (p := ⟨w.heap.size + 1 + 1, 0, none⟩) (by simp; omega) _).trans (belowK_b (w := w) (Nat.le_refl _) _ D _ _ (by omega) hK' rfl rfl)⟩
    simp [results, Try.f16, go_sem, hc5]
  case stop =>
    rintro D c pre W hD hpre ⟨⟨rfl, p', z, rfl, hlt, hz, hcr⟩, hB⟩ hK
    rw [mem_stop HLR.out hpre hlt hz] at hcr
    gi_wp2
    refine ⟨by simp, .inl ⟨_, _, rfl, run_takeDeferred hK, ?_⟩⟩
    have hc5 := cell_kept hcr (grownBy_putObj' _ D (.deferred none)) (fun r e => by cases e; exact ⟨_, hK, rfl⟩)
    refine ⟨.bool (decide (y ∈ L)), ?_, rfl, hB.trans (belowK_b (w := w) (Nat.le_refl _) W D _ _ (by omega) hK rfl rfl)⟩
    simp [results, Try.f16, go_sem, hc5]
end Go.Proofs.Ytalhjankofdhgaa
