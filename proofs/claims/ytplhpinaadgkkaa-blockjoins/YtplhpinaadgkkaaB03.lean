/-
  graph.Add, graph.Without: one edge more, one edge less.
-/
import Derived.Test.YtplhpinaadgkkaaB02
import Derived.Deep.DeepCutAuto
import Derived.Deep.RegionHeld3
namespace Go.Proofs.Ytplhpinaadgkkaa
open Go.RowKit Go.Lib

/-- What Add answers. -/
def AddE (n : Int) (es : List (Int × Int)) (a b er : Int) (ys : List (Int × Int)) : Prop :=
  (¬ RightG n es ∧ er = 1 ∧ ys = []) ∨ (RightG n es ∧ ¬ ((0 ≤ a ∧ a < n) ∧ (0 ≤ b ∧ b < n)) ∧ er = 4 ∧ ys = []) ∨
  (RightG n es ∧ ((0 ≤ a ∧ a < n) ∧ (0 ≤ b ∧ b < n)) ∧ ((a = b ∧ er = 1 ∧ ys = []) ∨ (a ≠ b ∧ (min a b, max a b) ∈ es ∧ er = 0 ∧ ys = es) ∨
    (a ≠ b ∧ (min a b, max a b) ∉ es ∧ es.length = 4000 ∧ er = 5 ∧ ys = []) ∨
    (a ≠ b ∧ (min a b, max a b) ∉ es ∧ es.length < 4000 ∧ er = 0 ∧ Rises ys ∧ ys.length = es.length + 1 ∧ ∀ e, e ∈ ys ↔ e ∈ es ∨ e = (min a b, max a b))))
/-- What Without answers. -/
def WithoutE (n : Int) (es : List (Int × Int)) (a b er : Int) (ys : List (Int × Int)) : Prop :=
  (¬ RightG n es ∧ er = 1 ∧ ys = []) ∨ (RightG n es ∧ (min a b, max a b) ∉ es ∧ er = 6 ∧ ys = []) ∨
  (RightG n es ∧ (min a b, max a b) ∈ es ∧ er = 0 ∧ Rises ys ∧ ys.length + 1 = es.length ∧ ∀ e, e ∈ ys ↔ e ∈ es ∧ e ≠ (min a b, max a b))
def nOf' (n er : Int) : Int := if er = 0 then n else 0

theorem new_two' (w : World) (o1 o2 : Obj) : ∃ W0, W0 = (w.alloc o1).alloc o2 ∧ W0.heap.size = w.heap.size + 1 + 1 ∧ W0.heap[w.heap.size]? = some o1 ∧ W0.heap[w.heap.size + 1]? = some o2 ∧ Below w.heap.size w W0 := by
  have s1 : (w.alloc o1).heap.size = w.heap.size + 1 := by simp
  refine ⟨_, rfl, by simp, ?_, ?_, ((Below.refl _ _).alloc (Nat.le_refl _) _).alloc (by omega) _⟩
  · rw [Below.heap_alloc _ _ _ (by omega)]; exact heap_alloc_new _ _
  · rw [← s1]; exact heap_alloc_new _ _
theorem placeAt_ex {es : List (Int × Int)} (hr : Rises es) (e : Int × Int) : ∃ k has, PlaceAt es e k has := by
  obtain ⟨p, hp⟩ : ∃ p : Nat → Bool, p = fun i => !ltE (es[i]?.getD (0, 0)) e := ⟨_, rfl⟩
  have hmono : ∀ a b, a ≤ b → b < es.length → p a = true → p b = true := fun i j hij hj h => by
    rw [hp] at h ⊢
    simp only [Bool.not_eq_true'] at h ⊢
    rw [List.getElem?_eq_getElem (show i < es.length by omega)] at h
    rw [List.getElem?_eq_getElem hj]
    simp only [Option.getD_some] at h ⊢
    by_cases e : i = j
    · subst e; exact h
    · have := rises_at hr (i := i) (j := j) (by omega) hj
      exact ltE_ntrans (ltE_asymm this) h
  obtain ⟨hcl, hca, hcb⟩ := count_mono p es.length hmono
  refine ⟨_, decide (∃ h : (List.range es.length).countP (fun i => !p i) < es.length, es[(List.range es.length).countP (fun i => !p i)] = e), hcl, fun i h hi => ?_, fun i h hi => ?_, by rw [decide_eq_true_eq]⟩
  · have := hca i hi
    rw [hp] at this
    simpa [List.getElem?_eq_getElem h] using this
  · have := hcb i hi h
    rw [hp] at this
    simpa [List.getElem?_eq_getElem h] using this
theorem PlaceAt.unique {es : List (Int × Int)} {e : Int × Int} {k k' : Nat} {b b' : Bool} (h : PlaceAt es e k b) (h' : PlaceAt es e k' b') : k = k' ∧ b = b' := by
  have key : ∀ {k k' : Nat} {b b' : Bool}, PlaceAt es e k b → PlaceAt es e k' b' → ¬ k < k' := fun {k k' b b'} h h' hlt => by
    have hl := h'.le
    have h1 := h'.ahead k (by omega) hlt
    rw [h.behind k (by omega) (Nat.le_refl _)] at h1
    exact absurd h1 (by simp)
  have e1 : k = k' := by
    have := key h h'
    have := key h' h
    omega
  subst e1
  refine ⟨rfl, ?_⟩
  rw [Bool.eq_iff_iff, h.has_iff, h'.has_iff]
theorem place_det (a : Option Addr) (cap : Nat) (es : List (Int × Int)) (e1 e2 : Int) (k : Nat) (has : Bool) (hp : PlaceAt es (e1, e2) k has) (w : World) (hN : es.length ≤ 1000000) (hE : EAt w a es) (hr : Rises es) :
    Calls Try.prog 41 #[.slice a es.length cap, .agg #[.int .i64 e1, .int .i64 e2]] w fun e w' => e = .returned (.tuple #[.int .i64 k, .bool has]) ∧ Below w.heap.size w w' :=
  (place_any a cap es e1 e2 w hN hE hr).mono fun _ _ ⟨k', has', he, hp', hb⟩ => by
    obtain ⟨rfl, rfl⟩ := hp.unique hp'
    exact ⟨he, hb⟩
theorem joining_below (a b : Int) (w : World) : Calls Try.prog 42 #[.int .i64 a, .int .i64 b] w fun e w' => e = .returned (.agg #[.int .i64 (min a b), .int .i64 (max a b)]) ∧ Below w.heap.size w w' :=
  (joining_any a b w).mono fun _ _ ⟨h, os, hw⟩ => ⟨h, hw ▸ grow_below w os⟩
theorem drop_facts {es : List (Int × Int)} {e : Int × Int} {k : Nat} (hr : Rises es) (hk : k < es.length) (he : es[k] = e) : Rises (es.take k ++ es.drop (k + 1)) ∧ (es.take k ++ es.drop (k + 1)).length + 1 = es.length ∧ ∀ x, x ∈ es.take k ++ es.drop (k + 1) ↔ x ∈ es ∧ x ≠ e := by
  have hs : es = es.take k ++ e :: es.drop (k + 1) := by
    rw [← he, List.getElem_cons_drop hk, List.take_append_drop]
  have hr2 := hr
  rw [hs] at hr2
  unfold Rises at hr2
  rw [List.pairwise_append, List.pairwise_cons] at hr2
  obtain ⟨p1, ⟨p2, p3⟩, p4⟩ := hr2
  refine ⟨?_, ?_, fun x => ?_⟩
  · unfold Rises
    rw [List.pairwise_append]
    exact ⟨p1, p3, fun a ha b hb => p4 a ha b (by simp [hb])⟩
  · rw [List.length_append, List.length_take, List.length_drop]; omega
  · have hm : x ∈ es ↔ x ∈ es.take k ++ e :: es.drop (k + 1) := by rw [← hs]
    rw [hm, List.mem_append, List.mem_append, List.mem_cons]
    constructor
    · rintro (h | h)
      · refine ⟨Or.inl h, fun hx => ?_⟩
        have := p4 x h e (by simp)
        rw [hx, ltE_irrefl] at this
        exact absurd this (by simp)
      · refine ⟨Or.inr (Or.inr h), fun hx => ?_⟩
        have := p2 x h
        rw [hx, ltE_irrefl] at this
        exact absurd this (by simp)
    · rintro ⟨h | h | h, hne⟩
      · exact Or.inl h
      · exact absurd h hne
      · exact Or.inr h

theorem put_rises {es : List (Int × Int)} {e : Int × Int} {k : Nat} {has : Bool} (h : PlaceAt es e k has) (hr : Rises es) (hn : has = false) : Rises (es.take k ++ [e] ++ es.drop k) := by
  have h1 : ∀ x ∈ es.take k, ltE x e = true := fun x hx => by
    obtain ⟨i, hi, rfl⟩ := List.getElem_of_mem hx
    rw [List.length_take] at hi
    rw [List.getElem_take]
    exact h.ahead i (by omega) (by omega)
  have h2 : ∀ x ∈ es.drop k, ltE e x = true := fun x hx => by
    obtain ⟨i, hi, rfl⟩ := List.getElem_of_mem hx
    rw [List.length_drop] at hi
    rw [List.getElem_drop]
    have h3 := h.behind (k + i) (by omega) (by omega)
    cases h4 : ltE e es[k + i] with
    | true => rfl
    | false =>
      have e1 := ltE_tri _ _ h3 h4
      have : has = true := (h.mem hr).2 (by rw [← e1]; exact List.getElem_mem _)
      rw [hn] at this
      exact absurd this (by simp)
  unfold Rises at *
  rw [List.append_assoc, List.pairwise_append]
  refine ⟨hr.sublist (List.take_sublist _ _), ?_, fun x hx y hy => ?_⟩
  · rw [List.singleton_append, List.pairwise_cons]
    exact ⟨h2, hr.sublist (List.drop_sublist _ _)⟩
  · rcases List.mem_append.1 hy with hy | hy
    · simp at hy; subst hy; exact h1 x hx
    · exact ltE_trans (h1 x hx) (h2 y hy)

theorem two_set {w : World} {b : Nat} {x y : Value} (h0 : w.cell? ⟨b, 0, none⟩ = some x) (h1 : w.cell? ⟨b, 1, none⟩ = some y) (u v : Value) : ((w.setCell ⟨b, 0, none⟩ u).setCell ⟨b, 1, none⟩ v).cell? ⟨b, 0, none⟩ = some u ∧ ((w.setCell ⟨b, 0, none⟩ u).setCell ⟨b, 1, none⟩ v).cell? ⟨b, 1, none⟩ = some v := by
  refine ⟨?_, World.cell?_setCell_same' _ _ _ ?_⟩
  · rw [World.cell?_setCell_other _ _ _ _ (by simp)]
    exact World.cell?_setCell_same' _ _ _ (by rw [h0]; rfl)
  · rw [World.cell?_setCell_other _ _ _ _ (by simp), h1]; rfl
theorem eat_take {w : World} {a : Option Addr} {es : List (Int × Int)} (h : EAt w a es) (k : Nat) : EAt w a (es.take k) := fun h0 => by
  rw [List.length_take] at h0
  obtain ⟨g, off, ha, hg, hc⟩ := h (by omega)
  refine ⟨g, off, ha, hg, fun j hj => ?_⟩
  rw [List.length_take] at hj
  rw [List.getElem_take]
  exact hc j (by omega)
theorem eat_drop {w : World} {g off : Nat} {es : List (Int × Int)} (h : EAt w (some ⟨g, off, none⟩) es) (k : Nat) : EAt w (some ⟨g, off + k * 2, none⟩) (es.drop k) := fun h0 => by
  rw [List.length_drop] at h0
  obtain ⟨g', off', ha, hg, hc⟩ := h (by omega)
  simp only [Option.some.injEq, Addr.mk.injEq, and_true] at ha
  obtain ⟨rfl, rfl⟩ := ha
  refine ⟨g, off + k * 2, rfl, hg, fun j hj => ?_⟩
  rw [List.length_drop] at hj
  rw [List.getElem_drop]
  have := hc (k + j) (by omega)
  rw [show off + (k + j) * 2 = off + k * 2 + j * 2 by omega] at this
  exact this

set_option maxHeartbeats 2000000 in
set_option maxRecDepth 100000 in
theorem without_any (n : Int) (a : Option Addr) (cap : Nat) (es : List (Int × Int)) (x y : Int) (b : Bool) (w : World) (hN : es.length ≤ 1000000) (hE : EAt w a es) (hS : Sl a cap es.length) (hb : b = true ↔ RightG n es) :
    Calls Try.prog 21 #[.agg #[.int .i64 n, .slice a es.length cap], .int .i64 x, .int .i64 y] w fun e w' => ∃ er ys a' cap', e = .returned (.tuple #[.agg #[.int .i64 (nOf' n er), .slice a' ys.length cap'], .int .i64 er]) ∧ WithoutE n es x y er ys ∧ Sl a' cap' ys.length ∧ EAt w' a' ys ∧ Below w.heap.size w w' := by
  obtain ⟨N, hNe⟩ : ∃ N, N = es.length := ⟨_, rfl⟩
  have HR : Hid (∀ W, EAt W a es → Calls Try.prog 26 #[.agg #[.int .i64 n, .slice a N cap]] W fun e w' => e = .returned (.bool b) ∧ Below W.heap.size W w') := fun W h => by rw [hNe]; exact right_any n a cap es b W hN h hb
  rw [← hNe] at hN ⊢
  have HN : Hid (N = es.length) := hNe
  have HE : Hid (EAt w a es) := hE
  have HSL : Hid (Sl a cap es.length) := hS
  have HB : Hid (b = true ↔ RightG n es) := hb
  clear hNe hE hb hS
  obtain ⟨W0, hW0, hsz, o1, o2, hB0⟩ := new_two' w (.cells #[.int .i64 n, .slice a N cap] 26) (.cells #[.int .i64 0, .slice none 0 0] 26)
  have HW0 : Hid (W0 = (w.alloc (.cells #[.int .i64 n, .slice a N cap] 26)).alloc (.cells #[.int .i64 0, .slice none 0 0] 26)) := hW0
  have HO1 : Hid (W0.heap[w.heap.size]? = some (.cells #[.int .i64 n, .slice a N cap] 26)) := o1
  have HO2 : Hid (W0.heap[w.heap.size + 1]? = some (.cells #[.int .i64 0, .slice none 0 0] 26)) := o2
  clear hW0 o1 o2
  go_enter Try.func21, Try.ntmps21
  go_wp2_with fail
  rw [← HW0.out]
  refine (HR.out _ (HE.out.below hB0)).mono ?_
  rintro e w1 ⟨rfl, hb1⟩
  have hb01 : Below w.heap.size w w1 := hB0.trans (hb1.mono (by omega))
  have hs1 := hb1.size
  have p1 := (hb1.block w.heap.size (by omega)).trans HO1.out
  have p2 := (hb1.block (w.heap.size + 1) (by omega)).trans HO2.out
  have HE1 : Hid (EAt w1 a es) := HE.out.below hb01
  obtain ⟨g0, g1⟩ := (⟨cell_of_heap p1 0, cell_of_heap p1 1⟩ : w1.cell? ⟨w.heap.size, 0, none⟩ = some (.int .i64 n) ∧ w1.cell? ⟨w.heap.size, 1, none⟩ = some (.slice a N cap))
  obtain ⟨r0, r1⟩ := (⟨cell_of_heap p2 0, cell_of_heap p2 1⟩ : w1.cell? ⟨w.heap.size + 1, 0, none⟩ = some (.int .i64 0) ∧ w1.cell? ⟨w.heap.size + 1, 1, none⟩ = some (.slice none 0 0))
  have rf := frozen_of_heap p2
  have HP2 : Hid (w1.heap[w.heap.size + 1]? = some (.cells #[.int .i64 0, .slice none 0 0] 26)) := p2
  rw [hsz] at hs1
  clear hb1 p1 p2 HO1 HO2 HW0 hsz HR hB0
  cases b with
  | false =>
    go_wp2
    refine bodyPost_ret (v := .tuple #[.agg #[.int .i64 0, .slice none 0 0], .int .i64 1]) ?_ rfl ⟨1, [], none, 0, rfl, Or.inl ⟨fun h => absurd (HB.out.2 h) (by simp), rfl, rfl⟩, sl_nil, eat_nil _ _, ?_⟩
    · rw [results_cell_tmp rfl]
      go_simp
    · exact (hb01.setCell (p := ⟨w.heap.size + 1, 0, none⟩) (by simp) _).setCell (p := ⟨w.heap.size + 1, 1, none⟩) (by simp) _
  | true =>
    have HRG : Hid (RightG n es) := HB.out.1 rfl
    clear HB
    obtain ⟨k, has, hp⟩ := placeAt_ex HRG.out.2.2.2.2 (min x y, max x y)
    have HP : Hid (PlaceAt es (min x y, max x y) k has) := hp
    obtain ⟨lo, hlo⟩ := ex_eq (min x y)
    obtain ⟨hi, hhi⟩ := ex_eq (max x y)
    have HPL : ∀ W, EAt W a es → Calls Try.prog 41 #[.slice a N cap, .agg #[.int .i64 lo, .int .i64 hi]] W fun e w' => e = .returned (.tuple #[.int .i64 k, .bool has]) ∧ Below W.heap.size W w' := fun W h => by
      rw [HN.out]; exact place_det a cap es lo hi k has (by rw [hlo, hhi]; exact hp) W (by rw [← HN.out]; exact hN) h HRG.out.2.2.2.2
    have HJ : ∀ W, Calls Try.prog 42 #[.int .i64 x, .int .i64 y] W fun e w' => e = .returned (.agg #[.int .i64 lo, .int .i64 hi]) ∧ Below W.heap.size W w' := fun W => by rw [hlo, hhi]; exact joining_below x y W
    clear hp hlo hhi
    have G0 := fun d os => cell_regrown g0 d os
    have G1 := fun d os => cell_regrown g1 d os
    have EE : ∀ d os, EAt (Sort.grow (redrawn w1 d) os) a es := fun d os => HE1.out.below (below_regrown w1 d os)
    go_wp2_with fail
    refine wp_region_quiet_below (by kernel_rfl) (by kernel_rfl) ?_
    repeat (quiet_step (first | exact Calls.regrown_of (HJ _) | exact Calls.regrown_of (HPL _ (EE _ _))))
    refine wpQuiet_nil ?_
    intro _ hw'
    obtain ⟨⟨dq, osq⟩, hw''⟩ := hw'
    subst hw''
    obtain ⟨V, hV⟩ : ∃ V, V = Sort.grow (redrawn w1 dq) osq := ⟨_, rfl⟩
    have hbV : Below w1.heap.size w1 V := by rw [hV]; exact below_regrown w1 dq osq
    have v0 : V.cell? ⟨w.heap.size, 0, none⟩ = some (.int .i64 n) := by rw [hV]; exact G0 dq osq
    have v1 : V.cell? ⟨w.heap.size, 1, none⟩ = some (.slice a N cap) := by rw [hV]; exact G1 dq osq
    show Exit.then _ _ _ _ (Sort.grow (redrawn w1 dq) osq)
    rw [← hV]
    have vb : V.heap[w.heap.size + 1]? = some (.cells #[.int .i64 0, .slice none 0 0] 26) := (hbV.block _ (by omega)).trans HP2.out
    have x0 : V.cell? ⟨w.heap.size + 1, 0, none⟩ = some (.int .i64 0) := cell_of_heap vb 0
    have x1 : V.cell? ⟨w.heap.size + 1, 1, none⟩ = some (.slice none 0 0) := cell_of_heap vb 1
    have xf := frozen_of_heap vb
    have HVB : Hid (V.heap[w.heap.size + 1]? = some (.cells #[.int .i64 0, .slice none 0 0] 26)) := vb
    have hbw : Below w.heap.size w V := hb01.trans (hbV.mono (by omega))
    have hsV := hbV.size
    have HEV : Hid (EAt V a es) := HE.out.below hbw
    clear hV G0 G1 EE HPL HJ g0 g1 r0 r1 rf vb hbV HP2 HE1 hb01
    cases has with
    | false =>
      go_wp2
      refine bodyPost_ret (v := .tuple #[.agg #[.int .i64 0, .slice none 0 0], .int .i64 6]) ?_ rfl ⟨6, [], none, 0, rfl, Or.inr (Or.inl ⟨HRG.out, fun h => absurd ((HP.out.mem HRG.out.2.2.2.2).2 h) (by simp), rfl, rfl⟩), sl_nil, eat_nil _ _, ?_⟩
      · rw [results_cell_tmp rfl]
        go_simp
      · exact (hbw.setCell (p := ⟨w.heap.size + 1, 0, none⟩) (by simp) _).setCell (p := ⟨w.heap.size + 1, 1, none⟩) (by simp) _
    | true =>
      obtain ⟨hk, hek⟩ := HP.out.has_iff.1 rfl
      have hkN : k < N := by rw [HN.out]; exact hk
      obtain ⟨g, off, rfl, hg, _⟩ := HEV.out (by omega)
      have hcap : N ≤ cap := by rw [HN.out]; exact HSL.out.1
      obtain ⟨a2, ha2, hE2, hn2⟩ : ∃ a2 : Option Addr, ((cap = k + 1 ∧ a2 = some ⟨g, off, none⟩) ∨ (¬ cap = k + 1 ∧ a2 = some ⟨g, off + (k + 1) * 2, none⟩)) ∧ EAt V a2 (es.drop (k + 1)) ∧ a2 ≠ none := by
        by_cases hck : cap = k + 1
        · have hnil : es.drop (k + 1) = [] := List.drop_eq_nil_of_le (by rw [← HN.out]; omega)
          exact ⟨_, Or.inl ⟨hck, rfl⟩, by rw [hnil]; exact eat_nil _ _, by simp⟩
        · exact ⟨_, Or.inr ⟨hck, rfl⟩, eat_drop HEV.out (k + 1), by simp⟩
      obtain ⟨o, ho⟩ : ∃ o : Obj, o = .cells #[.slice (some ⟨g, off, none⟩) k cap, .slice a2 (N - (k + 1)) (cap - (k + 1))] 22 := ⟨_, rfl⟩
      have hbX : Below V.heap.size V (V.alloc o).drew := ((Below.refl _ V).alloc (Nat.le_refl _) _).drew
      have hoX : (V.alloc o).drew.heap[V.heap.size]? = some o := heap_alloc_new _ _
      have hsX : (V.alloc o).drew.heap.size = V.heap.size + 1 := by simp
      have hEX := HEV.out.below hbX
      have HCON : Hid (Calls Try.prog 43 #[.slice (some ⟨V.heap.size, 0, none⟩) 2 2] (V.alloc o).drew fun e w' => ∃ a' cap', e = .returned (.slice a' (es.take k ++ es.drop (k + 1)).length cap') ∧ Hid (Sl a' cap' (es.take k ++ es.drop (k + 1)).length ∧ EAt w' a' (es.take k ++ es.drop (k + 1)) ∧ ∀ g off, a' = some ⟨g, off, none⟩ → (V.alloc o).drew.heap.size ≤ g) ∧ Below (V.alloc o).drew.heap.size (V.alloc o).drew w') := by
        have hc := concat_any V.heap.size 2 [(some ⟨g, off, none⟩, cap, es.take k), (a2, cap - (k + 1), es.drop (k + 1))] (V.alloc o).drew (by omega) (by simp) (fun j hj => by
          rw [ho] at hoX ⊢
          have hj' : j = 0 ∨ j = 1 := by simp at hj; omega
          rcases hj' with rfl | rfl
          · rw [cell_of_heap hoX 0]
            simp only [List.getElem_cons_zero]
            rw [List.length_take, Nat.min_eq_left (by omega)]; rfl
          · rw [cell_of_heap hoX 1]
            simp only [List.getElem_cons_zero, List.getElem_cons_succ]
            rw [List.length_drop, ← HN.out]; rfl) (fun p hp => by
          simp at hp
          rcases hp with rfl | rfl
          · exact ⟨eat_take hEX k, fun h => by cases h⟩
          · exact ⟨hE2.below hbX, fun h => absurd h hn2⟩) (by
          simp only [cat, List.append_nil, List.length_append, List.length_take, List.length_drop]; rw [← HN.out]; omega)
        simp only [cat, List.append_nil] at hc
        exact hc.mono fun _ _ ⟨a', cap', he, h1, h2, h3, h4⟩ => ⟨a', cap', he, ⟨h1, h2, h3⟩, h4⟩
      have HFA : Hid (Rises (es.take k ++ es.drop (k + 1)) ∧ (es.take k ++ es.drop (k + 1)).length + 1 = es.length ∧ ∀ z, z ∈ es.take k ++ es.drop (k + 1) ↔ z ∈ es ∧ z ≠ (min x y, max x y)) := drop_facts HRG.out.2.2.2.2 hk hek
      have HIN : Hid ((min x y, max x y) ∈ es) := by
        show (min x y, max x y) ∈ es
        rw [← hek]; exact List.getElem_mem _
      obtain ⟨ys, hys⟩ := ex_eq (es.take k ++ es.drop (k + 1))
      rw [← hys] at HFA HCON
      have HK : Hid (∀ w3, Below (V.alloc o).drew.heap.size (V.alloc o).drew w3 → (w3.cell? ⟨w.heap.size, 0, none⟩ = some (.int .i64 n) ∧ w3.cell? ⟨w.heap.size, 1, none⟩ = some (.slice (some ⟨g, off, none⟩) N cap)) ∧ w3.heap[w.heap.size + 1]? = some (.cells #[.int .i64 0, .slice none 0 0] 26) ∧ Below w.heap.size w w3) := fun w3 h3 => by
        have hVw : Below V.heap.size V w3 := hbX.trans (h3.mono hbX.size)
        exact ⟨⟨(hVw.cell (p := ⟨w.heap.size, 0, none⟩) (by simp; omega)).trans v0, (hVw.cell (p := ⟨w.heap.size, 1, none⟩) (by simp; omega)).trans v1⟩, (hVw.block _ (by omega)).trans HVB.out, hbw.trans (hVw.mono hbw.size)⟩
      have HRES : Hid (∀ w3 a' cap', (Sl a' cap' ys.length ∧ EAt w3 a' ys ∧ ∀ g off, a' = some ⟨g, off, none⟩ → (V.alloc o).drew.heap.size ≤ g) → Below (V.alloc o).drew.heap.size (V.alloc o).drew w3 → ∀ u1 u2, (Sl a' cap' ys.length ∧ EAt ((w3.setCell ⟨w.heap.size + 1, 0, none⟩ u1).setCell ⟨w.heap.size + 1, 1, none⟩ u2) a' ys) ∧ Below w.heap.size w ((w3.setCell ⟨w.heap.size + 1, 0, none⟩ u1).setCell ⟨w.heap.size + 1, 1, none⟩ u2)) := fun w3 a' cap' h h3 u1 u2 => by
        have hne : ∀ g off, 0 < ys.length → a' = some ⟨g, off, none⟩ → g ≠ w.heap.size + 1 := fun g off _ ha => by have := h.2.2 g off ha; omega
        refine ⟨⟨h.1, (h.2.1.set (p := ⟨w.heap.size + 1, 0, none⟩) hne _).set (p := ⟨w.heap.size + 1, 1, none⟩) hne _⟩, ?_⟩
        exact ((HK.out w3 h3).2.2.setCell (p := ⟨w.heap.size + 1, 0, none⟩) (by simp) _).setCell (p := ⟨w.heap.size + 1, 1, none⟩) (by simp) _
      clear hys hek hEX hoX hE2 hn2
      obtain ⟨M, hM⟩ := ex_eq ys.length
      have HM : Hid (M = ys.length) := hM
      rw [← hM] at HCON HRES
      clear hM
      subst ho
      have j1 : (0 : Int) ≤ (k : Int) := by omega
      have j3 : (0 : Int) ≤ (k : Int) + 1 := by omega
      have j5 : IntKind.i64.wrap ((k : Int) + 1) = (k : Int) + 1 := by have := wrap_small (k + 1) (by omega); simpa using this
      rcases ha2 with ⟨hck, rfl⟩ | ⟨hck, rfl⟩
      · subst hck
        obtain rfl : N = k + 1 := by omega
        simp only [Nat.sub_self] at HCON HRES HK hsX hbX
        have j2 : (k : Int) ≤ (k : Int) + 1 := by omega
        go_wp2_with fail
        go_cut [7] from 26 to 39 (fun v7 wx => v7 = .int .i64 0 ∧ ∃ a' cap', wx.cell? ⟨w.heap.size + 1, 0, none⟩ = some (.int .i64 n) ∧ wx.cell? ⟨w.heap.size + 1, 1, none⟩ = some (.slice a' M cap') ∧ Hid (Sl a' cap' M ∧ EAt wx a' ys) ∧ Below w.heap.size w wx)
        case first =>
          go_region_held3 (fun w' => w'.cell? ⟨w.heap.size, 0, none⟩ = some (.int .i64 n) ∧ w'.cell? ⟨w.heap.size, 1, none⟩ = some (.slice (some ⟨g, off, none⟩) (k + 1) (k + 1))) (first | go_keep | exact (HK.out _ hb3).1)
            (first | (go_at_call 43; refine HCON.out.mono ?_; rintro e w3 ⟨a', cap', rfl, hz, hb3⟩; have hzz := (HK.out _ hb3).2.1; have z0 := cell_of_heap hzz 0; have z1 := cell_of_heap hzz 1; have zf := frozen_of_heap hzz))
          all_goals (try go_wp2_with fail)
          all_goals go_meet
          all_goals exact ⟨rfl, a', cap', (two_set z0 z1 _ _).1, (two_set z0 z1 _ _).2, (HRES.out w3 a' cap' hz.out hb3 _ _).1, (HRES.out w3 a' cap' hz.out hb3 _ _).2⟩
        case rest =>
          obtain ⟨rfl, a', cap', y0, y1, hz, hbx⟩ := hcut
          clear HCON HRES HK
          go_wp2
          refine bodyPost_ret (v := .tuple #[.agg #[.int .i64 n, .slice a' M cap'], .int .i64 0]) ?_ rfl ⟨0, ys, a', cap', by rw [← HM.out]; rfl, Or.inr (Or.inr ⟨HRG.out, HIN.out, rfl, HFA.out.1, HFA.out.2.1, HFA.out.2.2⟩), by rw [← HM.out]; exact hz.out.1, hz.out.2, hbx⟩
          rw [results_cell_tmp rfl]
          go_simp
      · have j2 : (k : Int) ≤ (cap : Int) := by omega
        have j4 : (k : Int) + 1 ≤ (N : Int) := by omega
        have j6 : (N : Int) ≤ (cap : Int) := by omega
        go_wp2_with fail
        go_cut [7] from 26 to 39 (fun v7 wx => v7 = .int .i64 0 ∧ ∃ a' cap', wx.cell? ⟨w.heap.size + 1, 0, none⟩ = some (.int .i64 n) ∧ wx.cell? ⟨w.heap.size + 1, 1, none⟩ = some (.slice a' M cap') ∧ Hid (Sl a' cap' M ∧ EAt wx a' ys) ∧ Below w.heap.size w wx)
        case first =>
          go_region_held3 (fun w' => w'.cell? ⟨w.heap.size, 0, none⟩ = some (.int .i64 n) ∧ w'.cell? ⟨w.heap.size, 1, none⟩ = some (.slice (some ⟨g, off, none⟩) N cap)) (first | go_keep | exact (HK.out _ hb3).1)
            (first | (go_at_call 43; refine HCON.out.mono ?_; rintro e w3 ⟨a', cap', rfl, hz, hb3⟩; have hzz := (HK.out _ hb3).2.1; have z0 := cell_of_heap hzz 0; have z1 := cell_of_heap hzz 1; have zf := frozen_of_heap hzz))
          all_goals (try go_wp2_with fail)
          all_goals go_meet
          all_goals exact ⟨rfl, a', cap', (two_set z0 z1 _ _).1, (two_set z0 z1 _ _).2, (HRES.out w3 a' cap' hz.out hb3 _ _).1, (HRES.out w3 a' cap' hz.out hb3 _ _).2⟩
        case rest =>
          obtain ⟨rfl, a', cap', y0, y1, hz, hbx⟩ := hcut
          clear HCON HRES HK
          go_wp2
          refine bodyPost_ret (v := .tuple #[.agg #[.int .i64 n, .slice a' M cap'], .int .i64 0]) ?_ rfl ⟨0, ys, a', cap', by rw [← HM.out]; rfl, Or.inr (Or.inr ⟨HRG.out, HIN.out, rfl, HFA.out.1, HFA.out.2.1, HFA.out.2.2⟩), by rw [← HM.out]; exact hz.out.1, hz.out.2, hbx⟩
          rw [results_cell_tmp rfl]
          go_simp
end Go.Proofs.Ytplhpinaadgkkaa
