/-
  The document's patterns and what touches (layer 8).
  The document's components (Of of layer 4).
-/
import Derived.Test.YtlebimolgienkaaC03
import Derived.Test.YtlebimolgienkaaC05
import Derived.Test.YtlebimolgienkaaC13
import Derived.Test.YtlebimolgienkaaC09
import Derived.Test.YtlebimolgienkaaC07
namespace Go.Proofs.Ytlebimolgienkaa
open Go.RowKit Go.Lib

set_option maxHeartbeats 1000000 in
theorem size_any (k : Int) (w : World) : Calls Try.prog 50 #[.int .i64 k] w fun e w' => e = .returned (.int .i64 (patN k : Nat)) ∧ w' = w := by
  by_cases h1 : k = 1
  · subst h1
    go_enter Try.func50, Try.ntmps50
    go_wp2
    go_ret
    exact ⟨rfl, rfl⟩
  · have b1 : (k == 1) = false := by simp [h1]
    by_cases h2 : k = 2
    · subst h2
      go_enter Try.func50, Try.ntmps50
      go_wp2
      go_ret
      exact ⟨rfl, rfl⟩
    · have b2 : (k == 2) = false := by simp [h2]
      have e : patN k = 0 := patN_none (fun h => h.elim h1 h2)
      rw [e]
      clear e
      go_enter Try.func50, Try.ntmps50
      go_wp2
      go_ret
      exact ⟨rfl, rfl⟩
/-- Are two vertices of a pattern neighbours, as the document reckons it? -/
def joinedB (k a b : Int) : Bool := if k = 1 then decide (a ≠ b) else (decide (a < 2) && decide (2 ≤ b)) || (decide (b < 2) && decide (2 ≤ a))
theorem joined_pat {k : Int} (hk : k = 1 ∨ k = 2) {a b : Nat} (hb : b < a) (ha : a < patN k) : joinedB k a b = true ↔ ((b : Int), (a : Int)) ∈ patE k := by
  rcases hk with rfl | rfl
  · have h : ∀ a < 4, ∀ b < a, (joinedB 1 ((a : Nat) : Int) ((b : Nat) : Int) = true ↔ (((b : Nat) : Int), ((a : Nat) : Int)) ∈ patE 1) := by decide
    exact h a ha b hb
  · have h : ∀ a < 5, ∀ b < a, (joinedB 2 ((a : Nat) : Int) ((b : Nat) : Int) = true ↔ (((b : Nat) : Int), ((a : Nat) : Int)) ∈ patE 2) := by decide
    exact h a ha b hb
set_option maxHeartbeats 2000000 in
theorem joined_any (k a b : Int) (w : World) : Calls Try.prog 53 #[.int .i64 k, .int .i64 a, .int .i64 b] w fun e w' => e = .returned (.bool (joinedB k a b)) ∧ w' = w := by
  obtain ⟨r, hr⟩ := ex_eq (joinedB k a b)
  rw [← hr]
  by_cases h1 : k = 1
  · subst h1
    unfold joinedB at hr
    rw [if_pos rfl] at hr
    by_cases hab : a = b
    · obtain rfl : r = false := by rw [hr]; simp [hab]
      have q1 : (a != b) = false := by simp [hab]
      clear hr
      go_enter Try.func53, Try.ntmps53
      go_wp2
      go_ret
      exact ⟨rfl, rfl⟩
    · obtain rfl : r = true := by rw [hr]; simp [hab]
      have q1 : (a != b) = true := by simp [bne, hab]
      clear hr
      go_enter Try.func53, Try.ntmps53
      go_wp2
      go_ret
      exact ⟨rfl, rfl⟩
  · have b1 : (k == 1) = false := by simp [h1]
    unfold joinedB at hr
    rw [if_neg h1] at hr
    by_cases ha : a < 2 <;> by_cases hb : b < 2
    · have e1 : decide (a < 2) = true := decide_eq_true ha
      have e2 : decide (b < 2) = true := decide_eq_true hb
      have e3 : decide (2 ≤ a) = false := decide_eq_false (by omega)
      have e4 : decide (2 ≤ b) = false := decide_eq_false (by omega)
      obtain rfl : r = false := by rw [hr, e1, e2, e3, e4]; rfl
      have e5 : decide (b ≥ 2) = false := e4
      have e6 : decide (a ≥ 2) = false := e3
      clear hr
      go_enter Try.func53, Try.ntmps53
      go_wp2
      go_ret
      exact ⟨rfl, rfl⟩
    · have e1 : decide (a < 2) = true := decide_eq_true ha
      have e2 : decide (b < 2) = false := decide_eq_false hb
      have e3 : decide (2 ≤ a) = false := decide_eq_false (by omega)
      have e4 : decide (2 ≤ b) = true := decide_eq_true (by omega)
      obtain rfl : r = true := by rw [hr, e1, e2, e3, e4]; rfl
      have e5 : decide (b ≥ 2) = true := e4
      have e6 : decide (a ≥ 2) = false := e3
      clear hr
      go_enter Try.func53, Try.ntmps53
      go_wp2
      go_ret
      exact ⟨rfl, rfl⟩
    · have e1 : decide (a < 2) = false := decide_eq_false ha
      have e2 : decide (b < 2) = true := decide_eq_true hb
      have e3 : decide (2 ≤ a) = true := decide_eq_true (by omega)
      have e4 : decide (2 ≤ b) = false := decide_eq_false (by omega)
      obtain rfl : r = true := by rw [hr, e1, e2, e3, e4]; rfl
      have e5 : decide (b ≥ 2) = false := e4
      have e6 : decide (a ≥ 2) = true := e3
      clear hr
      go_enter Try.func53, Try.ntmps53
      go_wp2
      go_ret
      exact ⟨rfl, rfl⟩
    · have e1 : decide (a < 2) = false := decide_eq_false ha
      have e2 : decide (b < 2) = false := decide_eq_false hb
      have e3 : decide (2 ≤ a) = true := decide_eq_true (by omega)
      have e4 : decide (2 ≤ b) = true := decide_eq_true (by omega)
      obtain rfl : r = false := by rw [hr, e1, e2, e3, e4]; rfl
      have e5 : decide (b ≥ 2) = true := e4
      have e6 : decide (a ≥ 2) = true := e3
      clear hr
      go_enter Try.func53, Try.ntmps53
      go_wp2
      go_ret
      exact ⟨rfl, rfl⟩
/-- An edge that leads between two sets. -/
def Hit (A B : List Int) (e : Int × Int) : Prop := (e.1 ∈ A ∧ e.2 ∈ B) ∨ (e.1 ∈ B ∧ e.2 ∈ A)
theorem touch_hit {es : List (Int × Int)} {A B : List Int} : Touch es A B ↔ ∃ e ∈ es, Hit A B e := by
  constructor
  · rintro ⟨x, y, hx, hy, h | h⟩
    · exact ⟨_, h, Or.inl ⟨hx, hy⟩⟩
    · exact ⟨_, h, Or.inr ⟨hy, hx⟩⟩
  · rintro ⟨⟨p, q⟩, he, ⟨h1, h2⟩ | ⟨h1, h2⟩⟩
    · exact ⟨p, q, h1, h2, Or.inl he⟩
    · exact ⟨q, p, h2, h1, Or.inr he⟩
set_option maxHeartbeats 8000000 in
set_option maxRecDepth 100000 in
theorem touch_any (n : Int) (a : Option Addr) (cap : Nat) (es : List (Int × Int)) (aa : Option Addr) (ac : Nat) (LA : List Int) (ba : Option Addr) (bc : Nat) (LB : List Int) (r : Bool) (w : World) (hN : es.length ≤ 1000000) (hE : EAt w a es) (hA : LA.length ≤ 1000000) (hB : LB.length ≤ 1000000) (hIA : IAt w aa LA) (hIB : IAt w ba LB) (hr : r = true ↔ Touch es LA LB) :
    Calls Try.prog 54 #[.agg #[.int .i64 n, .slice a es.length cap], .slice aa LA.length ac, .slice ba LB.length bc] w fun e w' => e = .returned (.bool r) ∧ Below w.heap.size w w' := by
  obtain ⟨N, hNe⟩ := ex_eq es.length
  obtain ⟨NA, hNA⟩ := ex_eq LA.length
  obtain ⟨NB, hNB⟩ := ex_eq LB.length
  obtain ⟨b0, hb0⟩ := ex_eq w.heap.size
  obtain ⟨W, hW⟩ := ex_eq (w.alloc (.cells #[.int .i64 n, .slice a N cap] 26))
  have o := heap_alloc_new w (.cells #[.int .i64 n, .slice a N cap] 26)
  have hbW := below_one w (.cells #[.int .i64 n, .slice a N cap] 26)
  rw [← hW] at o hbW
  have hbl : w.heap.size < W.heap.size := (Array.getElem?_eq_some_iff.1 o).1
  have HK : Hid (∀ X, Below W.heap.size W X → X.cell? ⟨b0, 1, none⟩ = some (.slice a N cap) ∧ EAt X a es ∧ Below w.heap.size w X) := fun X hX => by
    have o1 := (hX.block w.heap.size hbl).trans o
    have hb := hbW.trans (hX.mono (Nat.le_of_lt hbl))
    rw [hb0]
    exact ⟨cell_of_heap o1 1, hE.below hb, hb⟩
  have CA : Hid (∀ X x, Below W.heap.size W X → Calls Try.prog 44 #[.slice aa NA ac, .int .i64 x] X fun e w' => e = .returned (.bool (decide (x ∈ LA))) ∧ w' = X) := fun X x hX => by
    rw [hNA]; exact in_any aa ac LA x X hA (hIA.below (HK.out X hX).2.2)
  have CB : Hid (∀ X x, Below W.heap.size W X → Calls Try.prog 44 #[.slice ba NB bc, .int .i64 x] X fun e w' => e = .returned (.bool (decide (x ∈ LB))) ∧ w' = X) := fun X x hX => by
    rw [hNB]; exact in_any ba bc LB x X hB (hIB.below (HK.out X hX).2.2)
  have HN := hid hNe
  have HR := hid hr
  have HW := hid hW
  have HB0 := hid hb0
  rw [← hNe] at hN ⊢
  rw [← hNA, ← hNB]
  clear hNe hNA hNB hE hIA hIB hr hW o hbW hA hB hb0 hbl
  go_enter Try.func54, Try.ntmps54
  go_wp2
  rw [← HW.out, ← HB0.out]
  go_loopw [7] (fun i wz => ∃ t : Nat, t ≤ N ∧ i = .int .i64 t ∧ Hid (∀ e ∈ es.take t, ¬ Hit LA LB e) ∧ Hid (Below W.heap.size W wz)) (fun i _ => N - (RowKit.intOf i).toNat)
  case atStart => exact ⟨0, Nat.zero_le _, rfl, (fun e he => by simp at he), Below.refl _ _⟩
  case round =>
    obtain ⟨t, ht, rfl, hno, hb⟩ := hrel
    obtain ⟨c1, hEr, hbw⟩ := HK.out wr hb.out
    have HBW := hid hbw
    by_cases hlt : t < N
    · have htr : t < es.length := by rw [← HN.out]; exact hlt
      obtain ⟨g, off, rfl, hg, hcs⟩ := hEr (by omega)
      obtain ⟨d0, d1⟩ := hcs t htr
      obtain ⟨p, hp⟩ := ex_eq es[t].1
      obtain ⟨q, hq⟩ := ex_eq es[t].2
      rw [← hp] at d0
      rw [← hq] at d1
      have HMEM : Hid (es[t] ∈ es) := List.getElem_mem htr
      have HET : Hid (es[t] = (p, q)) := by show _ = _; rw [hp, hq]
      have HNXT : Hid (¬ Hit LA LB (p, q) → ∀ e ∈ es.take (t + 1), ¬ Hit LA LB e) := fun hn e he => by
        rw [← List.take_append_getElem htr] at he
        rcases List.mem_append.1 he with he | he
        · exact hno.out e he
        · simp at he; subst he; rw [HET.out]; exact hn
      obtain ⟨W3, hW3⟩ := ex_eq (wr.alloc (.cells #[.int .i64 p, .int .i64 q] 56))
      have o3 := heap_alloc_new wr (.cells #[.int .i64 p, .int .i64 q] 56)
      have hb3 : Below W.heap.size W W3 := by rw [hW3]; exact hb.out.alloc hb.out.size _
      rw [← hW3] at o3
      have e0 := cell_of_heap o3 0
      have e1 := cell_of_heap o3 1
      have CA1 := hid (CA.out W3 p hb3)
      have CA2 := hid (CA.out W3 q hb3)
      have CB1 := hid (CB.out W3 p hb3)
      have CB2 := hid (CB.out W3 q hb3)
      have HB3 := hid hb3
      have HF3 := hid (HK.out W3 hb3).2.2
      have HW3 := hid hW3
      have q1 : (t : Int) < (N : Int) := by omega
      have HYES : Hid (Hit LA LB (p, q) → r = true) := fun h => HR.out.2 (touch_hit.2 ⟨es[t], HMEM.out, by rw [HET.out]; exact h⟩)
      obtain ⟨x1, hx1⟩ := ex_eq (decide (p ∈ LA))
      obtain ⟨x2, hx2⟩ := ex_eq (decide (q ∈ LB))
      obtain ⟨x3, hx3⟩ := ex_eq (decide (p ∈ LB))
      obtain ⟨x4, hx4⟩ := ex_eq (decide (q ∈ LA))
      rw [← hx1] at CA1
      rw [← hx2] at CB2
      rw [← hx3] at CB1
      rw [← hx4] at CA2
      have X1 := hid hx1
      have X2 := hid hx2
      have X3 := hid hx3
      have X4 := hid hx4
      clear hEr hcs hp hq hno hb hbw hb3 o3 hW3 hx1 hx2 hx3 hx4
      go_upto_region 5 with fail
      rw [← HW3.out]
      clear d0 d1 c1 HW3
      go_wp2_with fail
      refine CA1.out.mono ?_
      rintro e w7 ⟨rfl, hw7⟩
      rw [hw7]
      clear hw7 CA1
      cases x1 with
      | true =>
        go_wp2_with fail
        refine CB2.out.mono ?_
        rintro e w7 ⟨rfl, hw7⟩
        rw [hw7]
        clear hw7 CB2
        cases x2 with
        | true =>
          obtain rfl : r = true := HYES.out (Or.inl ⟨of_decide_eq_true X1.out.symm, of_decide_eq_true X2.out.symm⟩)
          go_wp2
          go_ret
          exact ⟨rfl, HF3.out⟩
        | false =>
          go_wp2_with fail
          refine CB1.out.mono ?_
          rintro e w7 ⟨rfl, hw7⟩
          rw [hw7]
          clear hw7 CB1
          cases x3 with
          | true =>
            go_wp2_with fail
            refine CA2.out.mono ?_
            rintro e w7 ⟨rfl, hw7⟩
            rw [hw7]
            clear hw7 CA2
            cases x4 with
            | true =>
              obtain rfl : r = true := HYES.out (Or.inr ⟨of_decide_eq_true X3.out.symm, of_decide_eq_true X4.out.symm⟩)
              go_wp2
              go_ret
              exact ⟨rfl, HF3.out⟩
            | false =>
              have HNX := hid (HNXT.out (fun h => h.elim (fun h => absurd h.2 (of_decide_eq_false X2.out.symm)) (fun h => absurd h.2 (of_decide_eq_false X4.out.symm))))
              go_wp2
              go_roundw
              case rel => exact ⟨t + 1, by omega, by go_num, HNX, HB3⟩
              case measure => simp [RowKit.intOf]; omega
          | false =>
            have HNX := hid (HNXT.out (fun h => h.elim (fun h => absurd h.2 (of_decide_eq_false X2.out.symm)) (fun h => absurd h.1 (of_decide_eq_false X3.out.symm))))
            go_wp2
            go_roundw
            case rel => exact ⟨t + 1, by omega, by go_num, HNX, HB3⟩
            case measure => simp [RowKit.intOf]; omega
      | false =>
        go_wp2_with fail
        refine CB1.out.mono ?_
        rintro e w7 ⟨rfl, hw7⟩
        rw [hw7]
        clear hw7 CB1
        cases x3 with
        | true =>
          go_wp2_with fail
          refine CA2.out.mono ?_
          rintro e w7 ⟨rfl, hw7⟩
          rw [hw7]
          clear hw7 CA2
          cases x4 with
          | true =>
            obtain rfl : r = true := HYES.out (Or.inr ⟨of_decide_eq_true X3.out.symm, of_decide_eq_true X4.out.symm⟩)
            go_wp2
            go_ret
            exact ⟨rfl, HF3.out⟩
          | false =>
            have HNX := hid (HNXT.out (fun h => h.elim (fun h => absurd h.1 (of_decide_eq_false X1.out.symm)) (fun h => absurd h.2 (of_decide_eq_false X4.out.symm))))
            go_wp2
            go_roundw
            case rel => exact ⟨t + 1, by omega, by go_num, HNX, HB3⟩
            case measure => simp [RowKit.intOf]; omega
        | false =>
          have HNX := hid (HNXT.out (fun h => h.elim (fun h => absurd h.1 (of_decide_eq_false X1.out.symm)) (fun h => absurd h.1 (of_decide_eq_false X3.out.symm))))
          go_wp2
          go_roundw
          case rel => exact ⟨t + 1, by omega, by go_num, HNX, HB3⟩
          case measure => simp [RowKit.intOf]; omega
    · obtain rfl : t = N := by omega
      obtain rfl : r = false := b_false HR.out (fun h => by
        obtain ⟨e, he, hh⟩ := touch_hit.1 h
        have := hno.out
        rw [HN.out, List.take_length] at this
        exact this e he hh)
      clear hno
      go_wp2
      go_ret
      exact ⟨rfl, HBW.out⟩
end Go.Proofs.Ytlebimolgienkaa
namespace Go.Proofs.Ytlebimolgienkaa
open Go.RowKit Go.Lib

theorem RowB.kept {S : Nat → Prop} {w w' : World} {g n : Nat} {c : Nat → Bool} (h : RowB w g n c) (hk : KeptBut S w w') (hs : ¬ S g) : RowB w' g n c :=
  ⟨Nat.lt_of_lt_of_le h.1 hk.size, fun j hj => ⟨(hk.cell (p := ⟨g, j, none⟩) h.1 hs).trans (h.2 j hj).1, (hk.frozen (p := ⟨g, j, none⟩) h.1 hs).trans (h.2 j hj).2⟩⟩
theorem own_oneI (w : World) (x : Int) : (w.alloc (.cells #[.int .i64 x] 3 (0, 0))).ownsRow w.heap.size 3 1 (.slice (some ⟨w.heap.size, 0, none⟩) 1 1) 1 [.int .i64 x] :=
  ⟨rfl, Or.inr ⟨w.heap.size, 1, #[.int .i64 x], rfl, Nat.le_refl _, heap_alloc_new _ _, Nat.le_refl _, by unfold maxLen; omega, rfl, rfl⟩⟩
theorem own_cell {w : World} {base : Nat} {e : TypeId} {v : Value} {ls : List Int} (h : w.ownsRow base e 1 v ls.length (ls.map (Value.int .i64))) {i : Nat} (hi : i < ls.length) : ∃ g cap, v = .slice (some ⟨g, 0, none⟩) ls.length cap ∧ base ≤ g ∧ w.cell? ⟨g, i, none⟩ = some (.int .i64 ls[i]) := by
  obtain ⟨g, cap, hv, hb, hg, hc, hcs⟩ := own_row h (by omega)
  exact ⟨g, cap, hv, hb, hcs i _ (by simp [hi])⟩
end Go.Proofs.Ytlebimolgienkaa
