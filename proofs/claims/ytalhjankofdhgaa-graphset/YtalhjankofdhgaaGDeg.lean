/-
  graph.Degrees: of each vertex how many neighbours it has.
-/
import Derived.Test.YtalhjankofdhgaaGNear
namespace Go.Proofs.Ytalhjankofdhgaa
open Go.RowKit Go.Lib

/-- A row of numbers that may be written, place by place. -/
def Row1 (w : World) (g n : Nat) (c : Nat → Int) : Prop := g < w.heap.size ∧ ∀ j, j < n → w.cell? ⟨g, j, none⟩ = some (.int .i64 (c j)) ∧ w.frozen? ⟨g, j, none⟩ = false
theorem Row1.put {w : World} {g n : Nat} {c : Nat → Int} (h : Row1 w g n c) {i : Nat} (hi : i < n) (x : Int) : Row1 (w.setCell ⟨g, i, none⟩ (.int .i64 x)) g n (fun j => if j = i then x else c j) := by
  refine ⟨by simpa using h.1, fun j hj => ?_⟩
  obtain ⟨a, fa⟩ := h.2 j hj
  simp only [World.frozen?_setCell]
  refine ⟨?_, fa⟩
  by_cases e : j = i
  · subst e
    rw [if_pos rfl]
    exact World.cell?_setCell_same' _ _ _ (by rw [a]; rfl)
  · rw [if_neg e, World.cell?_setCell_other _ _ _ _ (by simp <;> omega)]
    exact a
theorem Row1.alloc {w : World} {g n : Nat} {c : Nat → Int} (h : Row1 w g n c) (o : Obj) : Row1 (w.alloc o) g n c := by
  have hB : Below w.heap.size w (w.alloc o) := (Below.refl _ _).alloc (Nat.le_refl _) _
  refine ⟨Nat.lt_of_lt_of_le h.1 hB.size, fun j hj => ⟨(hB.cell (p := ⟨g, j, none⟩) h.1).trans (h.2 j hj).1, ?_⟩⟩
  rw [← (h.2 j hj).2]
  unfold World.frozen?
  rw [hB.block g h.1]
theorem Row1.iat {w : World} {g n : Nat} {c : Nat → Int} (h : Row1 w g n c) : IAt w (some ⟨g, 0, none⟩) ((List.range n).map c) := fun _ =>
  ⟨g, 0, rfl, h.1, fun k hk => by
    have hk' : k < n := by simpa using hk
    rw [Nat.zero_add, (h.2 k hk').1]
    simp⟩

theorem Row1.congr {w : World} {g n : Nat} {c d : Nat → Int} (h : Row1 w g n c) (e : ∀ j, j < n → c j = d j) : Row1 w g n d := ⟨h.1, fun j hj => by rw [← e j hj]; exact h.2 j hj⟩
theorem made_ints (n : Nat) : (madeCells (Value.int .i64 0).cells (n * 1)).toList = List.replicate n (.int .i64 0) := by
  apply List.ext_getElem
  · simp [madeCells]
  · intro i h1 h2
    simp [madeCells, Value.cells, Nat.mod_one]
theorem row1_made {w : World} {base g n : Nat} {e : TypeId} (h : w.ownsRow base e 1 (.slice (some ⟨g, 0, none⟩) n n) n (madeCells (Value.int .i64 0).cells (n * 1)).toList) (hg : g < w.heap.size) : Row1 w g n (fun _ => 0) := by
  rw [made_ints] at h
  refine ⟨hg, fun j hj => ?_⟩
  rcases h.2 with ⟨hv, _⟩ | ⟨g', cap, cur, hv, _, hgb, _⟩
  · simp at hv
  · simp only [Value.slice.injEq, Option.some.injEq, Addr.mk.injEq, and_true, true_and] at hv
    obtain ⟨rfl, _⟩ := hv
    have := h.cells (g := g) rfl j (.int .i64 0) (by rw [List.getElem?_replicate, if_pos hj])
    rw [add_at, Nat.zero_add] at this
    exact ⟨this, frozen_of_heap hgb _⟩
/-- What one edge more makes of the degrees. -/
theorem deg_next {es : List (Int × Int)} {k p q : Nat} {m : Nat} (hk : k < es.length) (h1 : (p : Int) = es[k].1) (h2 : (q : Int) = es[k].2) (hpq : p < q) : ∀ j, j < m →
    (if j = q then ((nbL (q : Int) (es.take k)).length : Int) + 1 else if j = p then ((nbL (p : Int) (es.take k)).length : Int) + 1 else ((nbL (j : Int) (es.take k)).length : Int)) = ((nbL (j : Int) (es.take (k + 1))).length : Int) := by
  intro j _
  rw [nbL_take hk, List.length_append]
  unfold other
  rw [← h1, ← h2]
  by_cases e1 : j = q
  · subst e1
    rw [if_pos rfl, if_neg (by omega), if_pos rfl]; simp
  · rw [if_neg e1]
    by_cases e2 : j = p
    · subst e2
      rw [if_pos rfl, if_pos rfl]; simp
    · rw [if_neg e2, if_neg (by omega), if_neg (by omega)]; simp

set_option maxHeartbeats 1000000 in
set_option maxRecDepth 100000 in
theorem degrees_any (n : Int) (a : Option Addr) (cap : Nat) (es : List (Int × Int)) (b : Bool) (w : World) (hN : es.length ≤ 1000000) (hE : EAt w a es) (hb : b = true ↔ RightG n es) :
    Calls Try.prog 21 #[.agg #[.int .i64 n, .slice a es.length cap]] w fun e w' => ∃ a' cap' D, e = .returned (.slice a' D.length cap') ∧ D = (if b = true then (List.range n.toNat).map (fun v : Nat => ((nbL v es).length : Int)) else []) ∧ IAt w' a' D ∧ Below w.heap.size w w' := by
  obtain ⟨N, hNe⟩ : ∃ N, N = es.length := ⟨_, rfl⟩
  have HR : Hid (∀ W, EAt W a es → Calls Try.prog 14 #[.agg #[.int .i64 n, .slice a N cap]] W fun e w' => e = .returned (.bool b) ∧ Below W.heap.size W w') := fun W h => by rw [hNe]; exact right_any n a cap es b W hN h hb
  rw [← hNe] at hN ⊢
  have HN : Hid (N = es.length) := hNe
  have HE : Hid (EAt w a es) := hE
  have HB : Hid (b = true ↔ RightG n es) := hb
  clear hNe hE hb
  go_enter Try.func21, Try.ntmps21
  have hbA : Below w.heap.size w (w.alloc (.cells #[.int .i64 n, .slice a N cap] 25)) := (Below.refl _ _).alloc (Nat.le_refl _) _
  have HEA : Hid (EAt (w.alloc (.cells #[.int .i64 n, .slice a N cap] 25)) a es) := HE.out.below hbA
  have hOA : (w.alloc (.cells #[.int .i64 n, .slice a N cap] 25)).heap[w.heap.size]? = some (.cells #[.int .i64 n, .slice a N cap] 25) := heap_alloc_new _ _
  have hsA : (w.alloc (.cells #[.int .i64 n, .slice a N cap] 25)).heap.size = w.heap.size + 1 := by simp
  have HOA : Hid ((w.alloc (.cells #[.int .i64 n, .slice a N cap] 25)).heap[w.heap.size]? = some (.cells #[.int .i64 n, .slice a N cap] 25)) := hOA
  clear hOA
  go_wp2_with fail
  refine (HR.out _ HEA.out).mono ?_
  rintro e w1 ⟨rfl, hb1⟩
  rw [hsA] at hb1
  have hbw : Below w.heap.size w w1 := hbA.trans (hb1.mono (by omega))
  have o1 := (hb1.block w.heap.size (by omega)).trans HOA.out
  have HE1 : Hid (EAt w1 a es) := HE.out.below hbw
  have hs1 := hb1.size
  rw [hsA] at hs1
  have c0 := cell_of_heap o1 0
  have c1 := cell_of_heap o1 1
  clear hb1 hbA hsA HR HEA HOA
  cases b with
  | false =>
    go_wp2
    go_ret
    exact ⟨none, 0, [], rfl, rfl, iat_nil _ _, hbw⟩
  | true =>
    have HRG : Hid (RightG n es) := HB.out.1 rfl
    obtain ⟨m, rfl⟩ : ∃ m : Nat, n = m := ⟨n.toNat, by have := HRG.out.1; omega⟩
    have hm : m ≤ 1000 := by have := HRG.out.2.1; omega
    have hNN : N ≤ 4000 := by have := HRG.out.2.2.1; rw [← HN.out] at this; exact this
    obtain ⟨i0, hi, hz0, hz1, hz2⟩ := info_parts Try.info3
    obtain ⟨w2, hrun, hown, hgrow⟩ := run_make_full (P := Try.prog) w1 w1.heap.size 34 3 i0 (.int .i64 0) 1 Try.underlying34 hi hz0 hz1 .i64 .i64 m (by rw [hz2]; omega) (by unfold maxLen; omega) (Nat.le_refl _)
    have hs2 : w1.heap.size < w2.heap.size := by
      rcases hown.2 with ⟨hv, _⟩ | ⟨g', cap, cur, hv, _, hgb, _⟩
      · simp at hv
      · simp only [Value.slice.injEq, Option.some.injEq, Addr.mk.injEq, and_true, true_and] at hv
        obtain ⟨rfl, _⟩ := hv
        exact (Array.getElem?_eq_some_iff.1 hgb).1
    have HRW : Hid (Row1 w2 w1.heap.size m (fun v => ((nbL (v : Int) (es.take 0)).length : Int))) := (row1_made hown hs2).congr (fun j _ => by simp [nbL])
    have hb2 : Below w1.heap.size w1 w2 := Below.grown (Below.refl _ _) hgrow (Nat.le_refl _) (fun k hk => by cases hk)
    have c1' : w2.cell? ⟨w.heap.size, 1, none⟩ = some (.slice a N cap) := (hb2.cell (p := ⟨w.heap.size, 1, none⟩) (by simp; omega)).trans c1
    have HRN : Hid (∀ W, W = w1 → (Instr.makeSlice 34 (.int .i64 m) (.int .i64 m)).run Try.prog W = .ok (.slice (some ⟨w1.heap.size, 0, none⟩) m m) w2) := fun W h => by rw [h]; exact hrun
    clear hown hgrow hi hz0 hz1 hz2 HB c1 HRN
    go_wp2
    go_loopw [15] (fun i wr => ∃ k : Nat, k ≤ N ∧ i = .int .i64 k ∧ Hid (Row1 wr w1.heap.size m (fun v => ((nbL (v : Int) (es.take k)).length : Int))) ∧ Below w1.heap.size w1 wr) (fun i _ => N - (RowKit.intOf i).toNat)
    case atStart => exact ⟨0, Nat.zero_le _, rfl, HRW, hb2⟩
    case round =>
      obtain ⟨k, hk, rfl, hrow, hbr⟩ := hrel
      by_cases hlt : k < N
      · have hkr : k < es.length := by rw [← HN.out]; exact hlt
        obtain ⟨g, off, rfl, hg, hcs⟩ := HE1.out.at hkr
        have hin := (HRG.out.at k hkr).1
        obtain ⟨p, hp⟩ : ∃ p : Nat, (p : Int) = es[k].1 := ⟨es[k].1.toNat, by omega⟩
        obtain ⟨q, hq⟩ : ∃ q : Nat, (q : Int) = es[k].2 := ⟨es[k].2.toNat, by omega⟩
        have d := hcs wr hbr k hkr
        rw [← hp, ← hq] at d hin
        obtain ⟨d0, d1⟩ := d
        have i1 : p < q := by omega
        have i2 : q < m := by omega
        have HD := deg_next (m := m) hkr hp hq i1
        obtain ⟨x1, hx1⟩ := ex_eq (nbL (p : Int) (es.take k)).length
        obtain ⟨x2, hx2⟩ := ex_eq (nbL (q : Int) (es.take k)).length
        have hl1 : x1 ≤ 4000 := by rw [hx1]; exact Nat.le_trans (nbL_len _ _) (by rw [List.length_take]; omega)
        have hl2 : x2 ≤ 4000 := by rw [hx2]; exact Nat.le_trans (nbL_len _ _) (by rw [List.length_take]; omega)
        obtain ⟨c, hc⟩ := ex_eq (fun v : Nat => ((nbL (v : Int) (es.take k)).length : Int))
        rw [← hc] at hrow
        have hcp : c p = x1 := by rw [hc, hx1]
        have hcq : c q = x2 := by rw [hc, hx2]
        have hrA := hrow.out.alloc (.cells #[.int .i64 p, .int .i64 q] 39)
        have r1 := hrA.2 p (by omega)
        have HR1 := hrA.put (i := p) (by omega) ((x1 : Int) + 1)
        have r2 := HR1.2 q i2
        rw [hcp] at r1
        have hqq : (fun j => if j = p then (x1 : Int) + 1 else c j) q = (x2 : Int) := by
          show (if q = p then (x1 : Int) + 1 else c q) = (x2 : Int)
          rw [if_neg (by omega), hcq]
        rw [hqq] at r2
        have HR2 := HR1.put (i := q) i2 ((x2 : Int) + 1)
        have HRX : Hid (Row1 (((wr.alloc (.cells #[.int .i64 p, .int .i64 q] 39)).setCell ⟨w1.heap.size, p, none⟩ (.int .i64 ((x1 : Int) + 1))).setCell ⟨w1.heap.size, q, none⟩ (.int .i64 ((x2 : Int) + 1))) w1.heap.size m (fun v => ((nbL (v : Int) (es.take (k + 1))).length : Int))) := HR2.congr (fun j hj => by
          rw [← HD j hj, hx1, hx2, hc])
        obtain ⟨r1, r1f⟩ := r1
        obtain ⟨r2, r2f⟩ := r2
        have hbX : Below w1.heap.size w1 (((wr.alloc (.cells #[.int .i64 p, .int .i64 q] 39)).setCell ⟨w1.heap.size, p, none⟩ (.int .i64 ((x1 : Int) + 1))).setCell ⟨w1.heap.size, q, none⟩ (.int .i64 ((x2 : Int) + 1))) := ((hbr.alloc hbr.size _).setCell (p := ⟨w1.heap.size, p, none⟩) (Nat.le_refl _) _).setCell (p := ⟨w1.heap.size, q, none⟩) (Nat.le_refl _) _
        have hsr : w1.heap.size < wr.heap.size := hrow.out.1
        have bx1 : ((wr.alloc (.cells #[.int .i64 p, .int .i64 q] 39)).setCell ⟨w1.heap.size, p, none⟩ (.int .i64 ((x1 : Int) + 1))).cell? ⟨wr.heap.size, 1, none⟩ = some (.int .i64 q) := by
          rw [World.cell?_setCell_other _ _ _ _ (by simp <;> omega)]
          exact cell_of_heap (heap_alloc_new _ _) 1
        have q1 : (p : Int) < (m : Int) := by omega
        have q2 : (q : Int) < (m : Int) := by omega
        clear hsr hqq HD hx1 hx2 hc hcp hcq hrA HR1 HR2 hp hq hin hcs hrow
        go_wp2
        go_roundw
        case rel => exact ⟨k + 1, by omega, by go_num, HRX, hbX⟩
        case measure => simp [RowKit.intOf]; omega
      · obtain rfl : k = N := by omega
        have htk : es.take k = es := by rw [HN.out, List.take_length]
        rw [htk] at hrow
        go_wp2
        go_ret
        have hl : ((List.range m).map (fun v : Nat => ((nbL (v : Int) es).length : Int))).length = m := by simp
        refine ⟨some ⟨w1.heap.size, 0, none⟩, m, (List.range m).map (fun v : Nat => ((nbL (v : Int) es).length : Int)), by rw [hl]; rfl, ?_, hrow.out.iat, hbw.trans (hbr.mono (by omega))⟩
        simp
end Go.Proofs.Ytalhjankofdhgaa
