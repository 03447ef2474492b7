/-
  graph.Near: the neighbours of a vertex; slices.Collect and slices.AppendSeq walked.
-/
import Derived.Test.YtalhjankofdhgaaGHas
import Derived.Maps.AppendAt
namespace Go.Proofs.Ytalhjankofdhgaa
open Go.RowKit Go.Lib Go.Shelf
attribute [local go_sem] Oper.semAt_some

/-- A row of numbers in memory. -/
def IAt (w : World) (a : Option Addr) (xs : List Int) : Prop :=
  0 < xs.length → ∃ g off, a = some ⟨g, off, none⟩ ∧ g < w.heap.size ∧ ∀ k (hk : k < xs.length), w.cell? ⟨g, off + k, none⟩ = some (.int .i64 xs[k])
theorem iat_nil (w : World) (a : Option Addr) : IAt w a [] := fun h => absurd h (by simp)
theorem IAt.below {w w' : World} {a : Option Addr} {xs : List Int} (h : IAt w a xs) (hb : Below w.heap.size w w') : IAt w' a xs := by
  intro h0
  obtain ⟨g, off, ha, hg, hc⟩ := h h0
  exact ⟨g, off, ha, Nat.lt_of_lt_of_le hg hb.size, fun k hk => (hb.cell (p := ⟨g, off + k, none⟩) hg).trans (hc k hk)⟩
theorem iat_own {w : World} {base : Nat} {e : TypeId} {v : Value} {xs : List Int} (h : w.ownsRow base e 1 v xs.length (xs.map (Value.int .i64))) : ∃ a cap, v = .slice a xs.length cap ∧ IAt w a xs := by
  by_cases hn : 0 < xs.length
  · obtain ⟨g, cap, hv, hb, hg, hc, hcs⟩ := own_row h hn
    exact ⟨_, cap, hv, fun _ => ⟨g, 0, rfl, hg, fun k hk => by rw [Nat.zero_add]; exact hcs k _ (by rw [List.getElem?_map, List.getElem?_eq_getElem hk]; rfl)⟩⟩
  · rcases h.2 with ⟨hv, h0⟩ | ⟨g, cap, cur, hv, _, _, hc, _⟩
    · exact ⟨none, 0, by rw [hv, h0], fun h => absurd h hn⟩
    · exact ⟨_, cap, hv, fun h => absurd h hn⟩

theorem kpE_appended {W w1 : World} {n₀ B : Nat} {v v' : Value} {k : Nat} {xs : List Value} {tmp : Obj} (hv : Boxed W B 34 v) (hrow : W.ownsRow n₀ 3 1 v k xs) (hgrow : (W.alloc tmp).grownBy w1 v.ownBlock) (hb : Below n₀ W (w1.setCell ⟨B, 0, none⟩ v')) : KpE n₀ W (w1.setCell ⟨B, 0, none⟩ v') := by
  refine ⟨hb, fun j cs fr hj => ?_⟩
  have hlt : j < W.heap.size := (Array.getElem?_eq_some_iff.1 hj).1
  have hjB : j ≠ B := by
    rintro rfl
    have := hv.symm.trans hj
    simp at this
  have hne : some j ≠ v.ownBlock := by
    intro e
    rcases hrow.2 with ⟨rfl, _⟩ | ⟨g, cap, cur, rfl, _, hg, _⟩
    · simp [Value.ownBlock] at e
    · simp only [Value.ownBlock, Option.some.injEq] at e
      subst e
      rw [hg] at hj
      simp at hj
  rw [Below.heap_setCell _ _ _ _ (by simpa using hjB)]
  rw [hgrow.block j (by simp; omega) hne, alloc_at hlt]
  exact hj

set_option maxRecDepth 100000 in
set_option maxHeartbeats 2000000 in
theorem appendSeq_nb (Bg Bv : Nat) (n : Int) (a : Option Addr) (cap : Nat) (es : List (Int × Int)) (x : Int) (b : Bool) (L : List Int) (w : World) (hN : es.length ≤ 1000000) (hE : EAt w a es) (hb : b = true ↔ RightG n es) (hL : L = if b = true then nbL x es else []) (hBg : Bg < w.heap.size) (hBv : Bv < w.heap.size)
    (cg0 : w.cell? ⟨Bg, 0, none⟩ = some (.int .i64 n)) (cg1 : w.cell? ⟨Bg, 1, none⟩ = some (.slice a es.length cap)) (cv : w.cell? ⟨Bv, 0, none⟩ = some (.int .i64 x)) :
    Calls Try.prog 44 #[.slice none 0 0, .func (.func 43) #[] #[.pointer (some ⟨Bg, 0, none⟩), .pointer (some ⟨Bv, 0, none⟩)]] w fun e w' => ∃ v, e = .returned v ∧ w'.ownsRow w.heap.size 3 1 v L.length (L.map (Value.int .i64)) ∧ Below w.heap.size w w' := by
  obtain ⟨i0, hi, hz0, hz1, hz2⟩ := info_parts Try.info3
  refine (callsIn_wide (n := 6)).1 ?_
  refine callsIn_of_wp_marks Try.func44 rfl trivial ?_ rfl
  simp only [Try.ntmps44, List.size_toArray, List.length_cons, List.length_nil, Nat.reduceAdd, Nat.reduceSub, Array.replicate_succ, Array.replicate_zero, List.push_toArray, List.append_toArray, List.nil_append, List.cons_append]
  gi_wp2_with fail
  have bO := Boxed.new w 34 (.slice none 0 0)
  have hB0 : Below w.heap.size w (w.alloc (.cells #[.slice none 0 0] 34)) := (Below.refl _ w).alloc (Nat.le_refl _) _
  have hE0 := hE.below hB0
  refine wpIn_rangeFunc_ownG rfl (by omega) (gf := 43) (lb := #[.pointer (some ⟨Bg, 0, none⟩), .pointer (some ⟨Bv, 0, none⟩)]) rfl trivial (enters_of Try.func43 (by kernel_rfl) rfl)
    (nb_stops 5 (by omega) Bg Bv w.heap.size n x a cap es b L hL hN hb _ (by simp) hBg hBv ((hB0.cell (p := ⟨Bg, 0, none⟩) hBg).trans cg0) ((hB0.cell (p := ⟨Bg, 1, none⟩) hBg).trans cg1) ((hB0.cell (p := ⟨Bv, 0, none⟩) hBv).trans cv) hE0 hE.lt) kpE_t (kpE_b (by simp)) (Below.refl _ _) (fun _ => rfl)
    (fun pre W => (∃ v, Boxed W w.heap.size 34 v ∧ W.ownsRow w.heap.size 3 1 v pre.length (pre.map (Value.int .i64)) ∧ True) ∧ Below w.heap.size w W)
    (fun _ _ _ => False)
    (OwnFrom.and (Own.from (holdsRow_own w.heap.size w.heap.size 34 3 1 (fun pre : List Int => pre.length) (fun pre => pre.map (Value.int .i64)) (fun _ _ => True)) _) (ownFrom_below (Nat.le_refl _) (by simp)))
    (fun _ _ _ _ _ hs _ _ => hs)
    ⟨⟨_, bO, World.ownsRow_nil _ _ _ _, trivial⟩, hB0⟩
    (fun z => { tmps := #[.slice none 0 0, .func (.func 43) #[] #[.pointer (some ⟨Bg, 0, none⟩), .pointer (some ⟨Bv, 0, none⟩)], .pointer (some ⟨w.heap.size, 0, none⟩), undef, .slice none 0 0, .int .i64 z, .func (.func 43) #[] #[.pointer (some ⟨Bg, 0, none⟩), .pointer (some ⟨Bv, 0, none⟩)], .int .i64 z, undef, undef, undef, undef, undef], defers := [] }) ?assign ?body ?done ?stop
  case assign =>
    intro l z W K hK
    gi_wp2
    exact hK
  case body =>
    rintro l pre z W ⟨⟨v, hv, hrow, _⟩, hB⟩ hlt
    have hc := hv.cell
    gi_wp2_with (gi_at_builtin; refine wpListIn_append_own _ rfl _ _ 34 rfl w.heap.size 3 i0 (.int .i64 0) 1 8 Try.underlying34 hi hz0 hz1 hz2 rfl (by decide) _ _ _ rfl (hrow.alloc _) ⟨W.heap.size, 0, none⟩ 1 1 [.int .i64 z] rfl rfl (cell_one_new _ _ _) (by simp [Value.oneCell']) (by unfold maxLen; omega) (by omega) (by have := hB.size; simp; omega) ?_; intro v' w1 hown' hgrow _; obtain ⟨g', cap', rfl⟩ := ownsRow_succ hown'; obtain ⟨hv1, hv2, hr2, hk2, hb2⟩ := hv.appended (by decide) hrow hB.size (Nat.le_refl _) hown' hgrow; have hc1 := hv1.cell; have hf1 := hv1.frozen)
    exact ⟨hk2.from _, kpE_appended hv hrow hgrow hb2, ⟨_, hv2, by simpa using hr2, trivial⟩, hB.trans hb2⟩
  case done =>
    rintro D ys W hD rfl ⟨⟨v, hv, hrow, _⟩, hB⟩ hK
    have hc := hv.cell
    gi_wp2
    refine ⟨by simp, .inl ⟨_, _, rfl, run_takeDeferred hK, ?_⟩⟩
    exact ⟨_, results_tmp rfl _ _ _, v, rfl, ownsRow_putObj hrow _ hK rfl, hB.trans (belowK_b (w := w) (Nat.le_refl _) W D _ _ (by simp at hD; omega) hK rfl rfl)⟩
  case stop =>
    rintro D c pre W _ _ h _
    exact h.elim

theorem new_two (w : World) (o1 o2 : Obj) : ∃ W0, W0 = (w.alloc o1).alloc o2 ∧ W0.heap.size = w.heap.size + 1 + 1 ∧ W0.heap[w.heap.size]? = some o1 ∧ W0.heap[w.heap.size + 1]? = some o2 ∧ Below w.heap.size w W0 := by
  have s1 : (w.alloc o1).heap.size = w.heap.size + 1 := by simp
  refine ⟨_, rfl, by simp, ?_, ?_, ((Below.refl _ _).alloc (Nat.le_refl _) _).alloc (by omega) _⟩
  · rw [alloc_at (by omega)]; exact heap_alloc_new _ _
  · rw [← s1]; exact heap_alloc_new _ _

set_option maxHeartbeats 1000000 in
theorem near_any (n : Int) (a : Option Addr) (cap : Nat) (es : List (Int × Int)) (x : Int) (b : Bool) (L : List Int) (w : World) (hN : es.length ≤ 1000000) (hE : EAt w a es) (hb : b = true ↔ RightG n es) (hL : L = if b = true then nbL x es else []) :
    Calls Try.prog 19 #[.agg #[.int .i64 n, .slice a es.length cap], .int .i64 x] w fun e w' => ∃ a' cap', e = .returned (.slice a' L.length cap') ∧ IAt w' a' L ∧ Below w.heap.size w w' := by
  have hcol : ∀ W Bg Bv, EAt W a es → Bg < W.heap.size → Bv < W.heap.size → W.cell? ⟨Bg, 0, none⟩ = some (.int .i64 n) → W.cell? ⟨Bg, 1, none⟩ = some (.slice a es.length cap) → W.cell? ⟨Bv, 0, none⟩ = some (.int .i64 x) →
      Calls Try.prog 36 #[.func (.func 43) #[] #[.pointer (some ⟨Bg, 0, none⟩), .pointer (some ⟨Bv, 0, none⟩)]] W fun e w' => ∃ v, e = .returned v ∧ w'.ownsRow W.heap.size 3 1 v L.length (L.map (Value.int .i64)) ∧ Below W.heap.size W w' := by
    intro W Bg Bv hE' h1 h2 c0 c1 c2
    have hap := appendSeq_nb Bg Bv n a cap es x b L W hN hE' hb hL h1 h2 c0 c1 c2
    clear hE' c0 c1 c2 hE hb hL
    go_enter Try.func36, Try.ntmps36
    go_wp2_with fail
    refine hap.mono ?_
    rintro e w1 ⟨v, rfl, hown, hbw⟩
    go_wp2
    go_ret
    exact ⟨v, rfl, hown, hbw⟩
  have HCOL : Hid (∀ W Bg Bv, EAt W a es → Bg < W.heap.size → Bv < W.heap.size → W.cell? ⟨Bg, 0, none⟩ = some (.int .i64 n) → W.cell? ⟨Bg, 1, none⟩ = some (.slice a es.length cap) → W.cell? ⟨Bv, 0, none⟩ = some (.int .i64 x) →
      Calls Try.prog 36 #[.func (.func 43) #[] #[.pointer (some ⟨Bg, 0, none⟩), .pointer (some ⟨Bv, 0, none⟩)]] W fun e w' => ∃ v, e = .returned v ∧ w'.ownsRow W.heap.size 3 1 v L.length (L.map (Value.int .i64)) ∧ Below W.heap.size W w') := hcol
  have HE : Hid (EAt w a es) := hE
  clear hcol hE hb hL
  go_enter Try.func19, Try.ntmps19
  go_wp2_with fail
  refine (neighbours_any _ n a es.length cap x _ rfl).mono ?_
  rintro e w' ⟨rfl, rfl⟩
  have hb1 : Below w.heap.size w (w.alloc (.cells #[.int .i64 n, .slice a es.length cap] 25)) := (Below.refl _ _).alloc (Nat.le_refl _) _
  obtain ⟨W0, hW0, hsz, o1, o2, hB0⟩ := new_two (w.alloc (.cells #[.int .i64 n, .slice a es.length cap] 25)) (.cells #[.int .i64 n, .slice a es.length cap] 25) (.cells #[.int .i64 x] 3)
  have hs1 : (w.alloc (.cells #[.int .i64 n, .slice a es.length cap] 25)).heap.size = w.heap.size + 1 := by simp
  rw [hs1] at hsz o1 o2
  have hbw : Below w.heap.size w W0 := hb1.trans (hB0.mono (by omega))
  rw [← hW0]
  have HO1 : Hid (W0.heap[w.heap.size + 1]? = some (.cells #[.int .i64 n, .slice a es.length cap] 25)) := o1
  have HO2 : Hid (W0.heap[w.heap.size + 1 + 1]? = some (.cells #[.int .i64 x] 3)) := o2
  clear hW0 hb1 hB0 o1 o2 hs1
  go_wp2_with fail
  refine (HCOL.out W0 _ _ (HE.out.below hbw) (by omega) (by omega) (cell_of_heap HO1.out 0) (cell_of_heap HO1.out 1) (cell_of_heap HO2.out 0)).mono ?_
  rintro e w1 ⟨v, rfl, hown, hbw1⟩
  have HO : Hid (w1.ownsRow W0.heap.size 3 1 v L.length (L.map (Value.int .i64))) := hown
  clear hown HCOL
  go_wp2
  go_ret
  obtain ⟨a', cap', rfl, hI⟩ := iat_own HO.out
  exact ⟨a', cap', rfl, hI, hbw.trans (hbw1.mono (by omega))⟩
end Go.Proofs.Ytalhjankofdhgaa
