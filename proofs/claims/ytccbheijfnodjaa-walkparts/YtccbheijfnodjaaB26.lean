/-
  The small case that the laws of layer 5 begin with answers true.
-/
import Derived.Test.YtccbheijfnodjaaB12
namespace Go.Proofs.Ytccbheijfnodjaa
open Go.RowKit Go.Lib

def esS : List (Int × Int) := [(0, 1), (0, 3), (1, 2), (2, 3)]
theorem esS_right : RightG 4 esS := ⟨by decide, by decide, by decide, by decide, by unfold Rises esS; simp [ltE]⟩
theorem esS_adj {x y : Int} : Adj esS x y ↔ ((x = 0 ∧ y = 1) ∨ (x = 0 ∧ y = 3) ∨ (x = 1 ∧ y = 2) ∨ (x = 2 ∧ y = 3)) ∨ ((y = 0 ∧ x = 1) ∨ (y = 0 ∧ x = 3) ∨ (y = 1 ∧ x = 2) ∨ (y = 2 ∧ x = 3)) := by
  unfold Adj esS
  simp
theorem esS_p1 : PathL 4 esS [3, 0, 1] := ⟨by simp, by decide, by decide, fun i hi => by
  match i, hi with
  | 0, _ => exact esS_adj.2 (by simp)
  | 1, _ => exact esS_adj.2 (by simp)⟩
theorem esS_p2 : ¬ PathL 4 esS [0, 2] := fun h => by
  have := esS_adj.1 (h.lk 0 (by simp))
  simp at this
theorem esS_c1 : CycleL 4 esS [1, 0, 3, 2] := ⟨⟨by simp, by decide, by decide, fun i hi => by
  match i, hi with
  | 0, _ => exact esS_adj.2 (by simp)
  | 1, _ => exact esS_adj.2 (by simp)
  | 2, _ => exact esS_adj.2 (by simp)⟩, by simp, fun _ => esS_adj.2 (by simp)⟩
theorem esS_c2 : ¬ CycleL 4 esS [0, 1, 2] := fun h => by
  have := esS_adj.1 (h.2.2 (by simp))
  simp at this
theorem esS_w1 : WholeL 4 esS [1, 0] := WholeL.of_head (by decide) (by decide) (by simp) (fun y hy => by
  simp at hy
  rcases hy with rfl | rfl
  · exact Rch.refl _ _ _
  · exact (Rch.refl _ _ _).step (u := 1) (esS_adj.2 (by simp)) (by simp))
theorem esS_w2 : ¬ WholeL 4 esS [1, 3] := fun h => by
  have := h.one 1 (by simp) 3 (by simp) (fun z => z = 1) rfl (fun u v hu ha hv => by
    subst hu
    have := esS_adj.1 ha
    simp at hv
    rcases hv with rfl | rfl
    · rfl
    · simp at this)
  simp at this
theorem esS_route : RouteIs 4 esS 0 2 [1] [0, 3, 2] := by
  refine Or.inr ⟨⟨⟨by simp, by decide, by decide, fun i hi => by
    match i, hi with
    | 0, _ => exact esS_adj.2 (by simp)
    | 1, _ => exact esS_adj.2 (by simp)⟩, rfl, rfl, by decide⟩, fun p hp => ?_⟩
  match p, hp with
  | [], hp => exact absurd rfl hp.path.ne
  | [x], hp => have h1 := hp.first; have h2 := hp.last; simp at h1 h2; omega
  | [x, y], hp =>
    have h1 := hp.first; have h2 := hp.last
    simp at h1 h2
    subst h1
    subst h2
    have := esS_adj.1 (hp.path.lk 0 (by simp))
    simp at this
  | [x, y, z], hp =>
    have h1 := hp.first; have h2 := hp.last
    simp at h1 h2
    subst h1
    subst h2
    have h3 := esS_adj.1 (hp.path.lk 0 (by simp))
    have h4 := hp.off y (by simp)
    simp at h3 h4
    obtain rfl : y = 3 := by omega
    exact Or.inr ⟨rfl, by decide⟩
  | _ :: _ :: _ :: _ :: _, _ => exact Or.inl (by simp)
theorem esS_turn : TurnIs [2, 1, 3, 0] [0, 2, 1, 3] := turn_of ⟨by decide, by decide⟩ ⟨3, by decide, Or.inl (by decide)⟩ (by decide) (fun _ => by simp)
theorem esS_a1 : ApartL [[0, 1, 2], [0, 3, 2]] := fun L hL k hk h1 => by
  simp at hL
  rcases hL with rfl | rfl
  · obtain rfl : k = 1 := by simp at hk; omega
    simp
  · obtain rfl : k = 1 := by simp at hk; omega
    simp
theorem esS_a2 : ¬ ApartL [[0, 1, 2], [1, 3]] := fun h => by
  have := h [0, 1, 2] (by simp) 1 (by simp) (by simp)
  revert this
  decide

/-- What lies in memory while the small case goes on. -/
structure ShW (w W : World) (B : Nat) (a1 a2 : Option Addr) : Prop where
  gc : GC W (B + 1) 4 (some ⟨B, 0, none⟩) 4 4 esS
  r1 : IAt W a1 [0, 3, 2]
  r2 : IAt W a2 [0, 2, 1, 3]
  bel : Below B w W
  le : B ≤ W.heap.size
theorem ShW.on {w W X : World} {B : Nat} {a1 a2 : Option Addr} (h : ShW w W B a1 a2) (hb : Below W.heap.size W X) : ShW w X B a1 a2 := ⟨h.gc.on hb, h.r1.below hb, h.r2.below hb, h.bel.trans (hb.mono h.le), Nat.le_trans h.le hb.size⟩
theorem below_one (W : World) (o : Obj) : Below W.heap.size W (W.alloc o) := (Below.refl _ _).alloc (Nat.le_refl _) o

theorem iat_cell' {w : World} {g off : Nat} {xs : List Int} (h : IAt w (some ⟨g, off, none⟩) xs) {k : Nat} (hk : k < xs.length) : w.cell? ⟨g, off + k, none⟩ = some (.int .i64 xs[k]) := by
  obtain ⟨g', off', e, _, hc⟩ := h (by omega)
  cases e
  exact hc k hk
/-- The calls of the small case, over whatever world it has come to. -/
theorem sh_row {w W : World} {B : Nat} {a1 a2 : Option Addr} (h : ShW w W B a1 a2) (xs : List Int) (arr : Array Value) (hx : arr = (xs.map (Value.int .i64)).toArray) : ShW w (W.alloc (.cells arr 3)) B a1 a2 ∧ IAt (W.alloc (.cells arr 3)) (some ⟨W.heap.size, 0, none⟩) xs := ⟨h.on (below_one _ _), iat_new W xs arr _ hx⟩
theorem sh_rows (W : World) (xs ys : List Int) (a b : Array Value) (hx : a = (xs.map (Value.int .i64)).toArray) (hy : b = (ys.map (Value.int .i64)).toArray) :
    LLAt (((W.alloc (.cells a 3)).alloc (.cells b 3)).alloc (.cells #[.slice (some ⟨W.heap.size, 0, none⟩) xs.length xs.length, .slice (some ⟨W.heap.size + 1, 0, none⟩) ys.length ys.length] 25)) (some ⟨W.heap.size + 1 + 1, 0, none⟩) [xs, ys] := fun _ => by
  have s1 : (W.alloc (.cells a 3)).heap.size = W.heap.size + 1 := by simp
  have s2 : ((W.alloc (.cells a 3)).alloc (.cells b 3)).heap.size = W.heap.size + 1 + 1 := by simp
  have h1 := (iat_new W xs a (0, 0) hx).below (below_one _ (.cells b 3))
  have h2 := iat_new (W.alloc (.cells a 3)) ys b (0, 0) hy
  rw [s1] at h2
  have o := heap_alloc_new ((W.alloc (.cells a 3)).alloc (.cells b 3)) (.cells #[.slice (some ⟨W.heap.size, 0, none⟩) xs.length xs.length, .slice (some ⟨W.heap.size + 1, 0, none⟩) ys.length ys.length] 25)
  rw [s2] at o
  refine ⟨W.heap.size + 1 + 1, 0, rfl, by simp, fun k hk => ?_⟩
  match k, hk with
  | 0, _ => exact ⟨_, _, cell_of_heap o 0, h1.below (below_one _ _)⟩
  | 1, _ => exact ⟨_, _, cell_of_heap o 1, h2.below (below_one _ _)⟩

set_option maxHeartbeats 4000000 in
set_option maxRecDepth 100000 in
theorem wshown_any (O : WalkOps) (w : World) :
    Calls Try.prog 11 #[] w fun e w' => e = .returned (.bool true) ∧ Below w.heap.size w w' := by
  have HO := hid O
  clear O
  obtain ⟨W1, hW1⟩ := ex_eq ((w.alloc (.cells #[.int .i64 0, .int .i64 1, .int .i64 0, .int .i64 3, .int .i64 1, .int .i64 2, .int .i64 2, .int .i64 3] 46)).alloc (.cells #[.int .i64 4, .slice (some ⟨w.heap.size, 0, none⟩) 4 4] 24))
  have hs1 : W1.heap.size = w.heap.size + 1 + 1 := by rw [hW1]; simp
  have hb1 : Below w.heap.size w W1 := by rw [hW1]; exact (below_one w _).trans ((below_one _ _).mono (by simp))
  have hE1 : EAt (w.alloc (.cells #[.int .i64 0, .int .i64 1, .int .i64 0, .int .i64 3, .int .i64 1, .int .i64 2, .int .i64 2, .int .i64 3] 46)) (some ⟨w.heap.size, 0, none⟩) esS := eat_of_cells (by simp) (fun j u hu => by
    rw [Nat.zero_add, cell_of_heap (heap_alloc_new w _), ← Array.getElem?_toList]
    exact hu)
  have HGC : Hid (GC W1 (w.heap.size + 1) 4 (some ⟨w.heap.size, 0, none⟩) 4 4 esS) := by
    have o := heap_alloc_new (w.alloc (.cells #[.int .i64 0, .int .i64 1, .int .i64 0, .int .i64 3, .int .i64 1, .int .i64 2, .int .i64 2, .int .i64 3] 46)) (.cells #[.int .i64 4, .slice (some ⟨w.heap.size, 0, none⟩) 4 4] 24)
    rw [← hW1, show (w.alloc (.cells #[.int .i64 0, .int .i64 1, .int .i64 0, .int .i64 3, .int .i64 1, .int .i64 2, .int .i64 2, .int .i64 3] 46)).heap.size = w.heap.size + 1 by simp] at o
    exact ⟨cell_of_heap o 0, cell_of_heap o 1, by rw [hW1]; exact hE1.below (below_one _ _)⟩
  have hi1 := iat_new W1 [1] #[.int .i64 1] (0, 0) rfl
  rw [hs1] at hi1
  have C1 := hid (HO.out.route 4 (some ⟨w.heap.size, 0, none⟩) 4 esS 0 2 (some ⟨w.heap.size + 1 + 1, 0, none⟩) 1 [1] true (W1.alloc (.cells #[.int .i64 1] 3)) (by decide) (by decide) (sl_some (by decide)).w (sl_some (by decide)).w (HGC.out.on (below_one _ _)).at_ hi1 ⟨fun _ => esS_right, fun _ => rfl⟩)
  have HW1 := hid hW1
  have HB1 := hid hb1
  clear hW1 hs1 hb1 hE1 hi1
  go_enter Try.func11, Try.ntmps11
  go_wp2_with fail
  rw [← HW1.out]
  refine C1.out.mono ?_
  rintro e w2 ⟨v, rfl, a1, c1, L, rfl, hG, hsl1, hI1, hb2⟩
  obtain rfl : L = [0, 3, 2] := hG.one (Or.inl ⟨esS_right, esS_route⟩)
  have hb12 : Below W1.heap.size W1 w2 := (below_one _ _).trans (hb2.mono (by simp))
  have HGC2 := hid (HGC.out.on hb12)
  have HB2 : Hid (Below w.heap.size w w2) := HB1.out.trans (hb12.mono HB1.out.size)
  have HI2 := hid hI1
  have C2 := hid (HO.out.turn (some ⟨w2.heap.size, 0, none⟩) 4 [2, 1, 3, 0] (w2.alloc (.cells #[.int .i64 2, .int .i64 1, .int .i64 3, .int .i64 0] 3)) (by decide) (sl_some (by decide)).w (iat_new w2 _ _ _ rfl))
  clear hG hsl1 hI1 hb2 hb12 C1 HW1 HGC HB1
  go_wp2_with fail
  refine C2.out.mono ?_
  rintro e w3 ⟨v, rfl, a2, c2, L, rfl, hG, hsl2, hI2, hb3⟩
  obtain rfl : L = [0, 2, 1, 3] := hG.one esS_turn
  have hb23 : Below w2.heap.size w2 w3 := (below_one _ _).trans (hb3.mono (by simp))
  have HS3 : Hid (ShW w w3 w.heap.size a1 a2) := ⟨HGC2.out.on hb23, HI2.out.below hb23, hI2, HB2.out.trans (hb23.mono HB2.out.size), Nat.le_trans HB2.out.size hb23.size⟩
  clear hG hsl2 hI2 hb3 hb23 C2 HGC2 HB2 HI2
  obtain ⟨g1, o1, ha1, _, _⟩ := HS3.out.r1 (by simp)
  obtain ⟨g2, o2, ha2, _, _⟩ := HS3.out.r2 (by simp)
  subst ha1
  subst ha2
  have g0 := HS3.out.gc.n0
  have g1' := HS3.out.gc.e0
  obtain ⟨hX, hIX⟩ := sh_row HS3.out [3, 0, 1] #[.int .i64 3, .int .i64 0, .int .i64 1] rfl
  have C := hid (HO.out.path 4 (some ⟨w.heap.size, 0, none⟩) 4 esS (some ⟨w3.heap.size, 0, none⟩) 3 [3, 0, 1] true true (w3.alloc (.cells #[.int .i64 3, .int .i64 0, .int .i64 1] 3)) (by decide) (by decide) (sl_some (by decide)).w (sl_some (by decide)).w hX.gc.at_ hIX ⟨fun _ => esS_right, fun _ => rfl⟩ ⟨fun _ => ⟨esS_right, esS_p1⟩, fun _ => rfl⟩)
  have HX := hid hX
  clear hX hIX
  go_wp2_with fail
  refine C.out.mono ?_
  rintro e w4 ⟨rfl, hb⟩
  have HS4 := hid (HX.out.on hb)
  clear hb C HX HS3 g0 g1'
  have g0 := HS4.out.gc.n0
  have g1' := HS4.out.gc.e0
  obtain ⟨hX, hIX⟩ := sh_row HS4.out [0, 2] #[.int .i64 0, .int .i64 2] rfl
  have C := hid (HO.out.path 4 (some ⟨w.heap.size, 0, none⟩) 4 esS (some ⟨w4.heap.size, 0, none⟩) 2 [0, 2] true false (w4.alloc (.cells #[.int .i64 0, .int .i64 2] 3)) (by decide) (by decide) (sl_some (by decide)).w (sl_some (by decide)).w hX.gc.at_ hIX ⟨fun _ => esS_right, fun _ => rfl⟩ ⟨fun h => (by cases h), fun h => absurd h.2 esS_p2⟩)
  have HX := hid hX
  clear hX hIX
  go_wp2_with fail
  refine C.out.mono ?_
  rintro e w5 ⟨rfl, hb⟩
  have HS5 := hid (HX.out.on hb)
  clear hb C HX HS4 g0 g1'
  have g0 := HS5.out.gc.n0
  have g1' := HS5.out.gc.e0
  obtain ⟨hX, hIX⟩ := sh_row HS5.out [1, 0, 3, 2] #[.int .i64 1, .int .i64 0, .int .i64 3, .int .i64 2] rfl
  have C := hid (HO.out.cycle 4 (some ⟨w.heap.size, 0, none⟩) 4 esS (some ⟨w5.heap.size, 0, none⟩) 4 [1, 0, 3, 2] true true (w5.alloc (.cells #[.int .i64 1, .int .i64 0, .int .i64 3, .int .i64 2] 3)) (by decide) (by decide) (sl_some (by decide)).w (sl_some (by decide)).w hX.gc.at_ hIX ⟨fun _ => esS_right, fun _ => rfl⟩ ⟨fun _ => ⟨esS_right, esS_c1⟩, fun _ => rfl⟩)
  have HX := hid hX
  clear hX hIX
  go_wp2_with fail
  refine C.out.mono ?_
  rintro e w6 ⟨rfl, hb⟩
  have HS6 := hid (HX.out.on hb)
  clear hb C HX HS5 g0 g1'
  have g0 := HS6.out.gc.n0
  have g1' := HS6.out.gc.e0
  obtain ⟨hX, hIX⟩ := sh_row HS6.out [0, 1, 2] #[.int .i64 0, .int .i64 1, .int .i64 2] rfl
  have C := hid (HO.out.cycle 4 (some ⟨w.heap.size, 0, none⟩) 4 esS (some ⟨w6.heap.size, 0, none⟩) 3 [0, 1, 2] true false (w6.alloc (.cells #[.int .i64 0, .int .i64 1, .int .i64 2] 3)) (by decide) (by decide) (sl_some (by decide)).w (sl_some (by decide)).w hX.gc.at_ hIX ⟨fun _ => esS_right, fun _ => rfl⟩ ⟨fun h => (by cases h), fun h => absurd h.2 esS_c2⟩)
  have HX := hid hX
  clear hX hIX
  go_wp2_with fail
  refine C.out.mono ?_
  rintro e w7 ⟨rfl, hb⟩
  have HS7 := hid (HX.out.on hb)
  clear hb C HX HS6 g0 g1'
  have d1 := (iat_cell' HS7.out.r1 (k := 1) (by simp))
  have d2 := (iat_cell' HS7.out.r2 (k := 1) (by simp))
  have d3 := (iat_cell' HS7.out.r2 (k := 3) (by simp))
  simp only [List.getElem_cons_zero, List.getElem_cons_succ] at d1 d2 d3
  have g0 := HS7.out.gc.n0
  have g1' := HS7.out.gc.e0
  obtain ⟨hX, hIX⟩ := sh_row HS7.out [1, 0] #[.int .i64 1, .int .i64 0] rfl
  have C := hid (HO.out.whole 4 (some ⟨w.heap.size, 0, none⟩) 4 esS (some ⟨w7.heap.size, 0, none⟩) 2 [1, 0] true true (w7.alloc (.cells #[.int .i64 1, .int .i64 0] 3)) (by decide) (by decide) (sl_some (by decide)).w (sl_some (by decide)).w hX.gc.at_ hIX ⟨fun _ => esS_right, fun _ => rfl⟩ ⟨fun _ => ⟨esS_right, esS_w1⟩, fun _ => rfl⟩)
  have HX := hid hX
  clear hX hIX
  go_wp2_with fail
  refine C.out.mono ?_
  rintro e w8 ⟨rfl, hb⟩
  have HS8 := hid (HX.out.on hb)
  clear hb C HX HS7 g0 g1' d1 d2 d3
  have g0 := HS8.out.gc.n0
  have g1' := HS8.out.gc.e0
  obtain ⟨hX, hIX⟩ := sh_row HS8.out [1, 3] #[.int .i64 1, .int .i64 3] rfl
  have C := hid (HO.out.whole 4 (some ⟨w.heap.size, 0, none⟩) 4 esS (some ⟨w8.heap.size, 0, none⟩) 2 [1, 3] true false (w8.alloc (.cells #[.int .i64 1, .int .i64 3] 3)) (by decide) (by decide) (sl_some (by decide)).w (sl_some (by decide)).w hX.gc.at_ hIX ⟨fun _ => esS_right, fun _ => rfl⟩ ⟨fun h => (by cases h), fun h => absurd h.2 esS_w2⟩)
  have HX := hid hX
  clear hX hIX
  go_wp2_with fail
  refine C.out.mono ?_
  rintro e w9 ⟨rfl, hb⟩
  have HS9 := hid (HX.out.on hb)
  clear hb C HX HS8 g0 g1'
  have C := hid (HO.out.apart (some ⟨w9.heap.size + 1 + 1, 0, none⟩) 2 [[0, 1, 2], [0, 3, 2]] true (((w9.alloc (.cells #[.int .i64 0, .int .i64 1, .int .i64 2] 3)).alloc (.cells #[.int .i64 0, .int .i64 3, .int .i64 2] 3)).alloc (.cells #[.slice (some ⟨w9.heap.size, 0, none⟩) 3 3, .slice (some ⟨w9.heap.size + 1, 0, none⟩) 3 3] 25)) (by decide) (by decide) (sl_some (by decide)).w (sh_rows w9 [0, 1, 2] [0, 3, 2] #[.int .i64 0, .int .i64 1, .int .i64 2] #[.int .i64 0, .int .i64 3, .int .i64 2] rfl rfl) (by unfold WfR; decide) ⟨fun _ => esS_a1, fun _ => rfl⟩)
  have HX := hid (((HS9.out.on (below_one _ (.cells #[.int .i64 0, .int .i64 1, .int .i64 2] 3))).on (below_one _ (.cells #[.int .i64 0, .int .i64 3, .int .i64 2] 3))).on (below_one _ (.cells #[.slice (some ⟨w9.heap.size, 0, none⟩) 3 3, .slice (some ⟨w9.heap.size + 1, 0, none⟩) 3 3] 25)))
  go_wp2_with fail
  refine C.out.mono ?_
  rintro e w10 ⟨rfl, hb⟩
  have HS10 := hid (HX.out.on hb)
  clear hb C HX HS9
  have C := hid (HO.out.apart (some ⟨w10.heap.size + 1 + 1, 0, none⟩) 2 [[0, 1, 2], [1, 3]] false (((w10.alloc (.cells #[.int .i64 0, .int .i64 1, .int .i64 2] 3)).alloc (.cells #[.int .i64 1, .int .i64 3] 3)).alloc (.cells #[.slice (some ⟨w10.heap.size, 0, none⟩) 3 3, .slice (some ⟨w10.heap.size + 1, 0, none⟩) 2 2] 25)) (by decide) (by decide) (sl_some (by decide)).w (sh_rows w10 [0, 1, 2] [1, 3] #[.int .i64 0, .int .i64 1, .int .i64 2] #[.int .i64 1, .int .i64 3] rfl rfl) (by unfold WfR; decide) ⟨fun h => (by cases h), fun h => absurd h esS_a2⟩)
  have HX := hid (((HS10.out.on (below_one _ (.cells #[.int .i64 0, .int .i64 1, .int .i64 2] 3))).on (below_one _ (.cells #[.int .i64 1, .int .i64 3] 3))).on (below_one _ (.cells #[.slice (some ⟨w10.heap.size, 0, none⟩) 3 3, .slice (some ⟨w10.heap.size + 1, 0, none⟩) 2 2] 25)))
  go_wp2_with fail
  refine C.out.mono ?_
  rintro e w11 ⟨rfl, hb⟩
  have HS11 := hid (HX.out.on hb)
  clear hb C HX HS10
  have HBE := hid HS11.out.bel
  clear HS11
  go_wp2
  go_ret
  exact ⟨rfl, HBE.out⟩
end Go.Proofs.Ytccbheijfnodjaa
