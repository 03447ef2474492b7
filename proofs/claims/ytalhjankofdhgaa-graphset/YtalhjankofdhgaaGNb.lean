/-
  graph.neighbours, and the closure that it hands back: which vertices come, in which order.
-/
import Derived.Test.YtalhjankofdhgaaGRight
import Derived.RangeFuncNested
import Derived.RangeFuncBound
import Derived.RangeFuncCalls
import Derived.RangeFuncLeaves
import Derived.RangeFuncBox
import Derived.Shelf.Abstract
import Derived.Shelf.RegionOpen
import Derived.OwnWalkIn
import Derived.TacticsInMore
import Derived.LoopNIn
import Derived.LoopIn
namespace Go.Proofs.Ytalhjankofdhgaa
open Go.RowKit Go.Lib Go.Shelf
attribute [local go_sem] Oper.semAt_some

/-- The other end of an edge that has v. -/
def other (v : Int) (e : Int × Int) : List Int := if e.1 = v then [e.2] else if e.2 = v then [e.1] else []
def nbL (v : Int) : List (Int × Int) → List Int
  | [] => []
  | e :: es => other v e ++ nbL v es
theorem nbL_append (v : Int) (a b : List (Int × Int)) : nbL v (a ++ b) = nbL v a ++ nbL v b := by
  induction a with
  | nil => rfl
  | cons e a ih => rw [List.cons_append, nbL, nbL, ih, List.append_assoc]
theorem nbL_take {v : Int} {es : List (Int × Int)} {k : Nat} (h : k < es.length) : nbL v (es.take (k + 1)) = nbL v (es.take k) ++ other v es[k] := by
  rw [List.take_succ_eq_append_getElem h, nbL_append, nbL, nbL, List.append_nil]
theorem nbL_prefix (v : Int) (es : List (Int × Int)) (k : Nat) : nbL v (es.take k) <+: nbL v es := by
  refine ⟨nbL v (es.drop k), ?_⟩
  rw [← nbL_append, List.take_append_drop]
theorem nbL_none {v : Int} {es : List (Int × Int)} (h : ∀ e ∈ es, v < e.1 ∧ v < e.2) : nbL v es = [] := by
  induction es with
  | nil => rfl
  | cons e es ih =>
    have := h e (by simp)
    rw [nbL, ih (fun e he => h e (by simp [he]))]
    unfold other
    rw [if_neg (by omega), if_neg (by omega)]
    rfl
/-- Behind an edge of which the first end is above v none has v. -/
theorem nbL_stop {n v : Int} {es : List (Int × Int)} {k : Nat} (hr : RightG n es) (hk : k < es.length) (h : v < es[k].1) : nbL v (es.take k) = nbL v es := by
  have h1 : nbL v es = nbL v (es.take k) ++ nbL v (es.drop k) := by rw [← nbL_append, List.take_append_drop]
  have h0 : nbL v (es.drop k) = [] := nbL_none ?_
  · rw [h1, h0, List.append_nil]
  intro e he
  obtain ⟨j, hj, rfl⟩ := List.getElem_of_mem he
  rw [List.getElem_drop]
  have hj' : k + j < es.length := by rw [List.length_drop] at hj; omega
  have h2 := (hr.at (k + j) hj').1
  have h3 : es[k].1 ≤ es[k + j].1 := by
    by_cases h0 : j = 0
    · subst h0; simp
    · have := rises_at hr.2.2.2.2 (i := k) (j := k + j) (by omega) hj'
      rw [ltE_iff] at this
      omega
  omega
theorem nbL_len (v : Int) (es : List (Int × Int)) : (nbL v es).length ≤ es.length := by
  induction es with
  | nil => simp [nbL]
  | cons e es ih =>
    rw [nbL, List.length_append]
    have : (other v e).length ≤ 1 := by
      unfold other
      by_cases h1 : e.1 = v
      · rw [if_pos h1]; simp
      · rw [if_neg h1]
        by_cases h2 : e.2 = v
        · rw [if_pos h2]; simp
        · rw [if_neg h2]; simp
    simp; omega

theorem grown_of_below {w w' : World} (h : Below w.heap.size w w') : w.grownBy w' none := ⟨h.os, h.tape, h.output, h.size, fun k hk _ => h.block k hk⟩
theorem abides_below {β : Type} {B : Nat} {J : β → World → Prop} (hJ : AbidesFrom B J) {s : β} {w w' : World} (h : J s w) (hb : Below w.heap.size w w') : J s w' := hJ s w w' none h (grown_of_below hb) (fun r e => by cases e)

set_option maxHeartbeats 1000000 in
theorem neighbours_any (gv : Value) (n : Int) (a : Option Addr) (N cap : Nat) (v : Int) (w : World) (hg : gv = .agg #[.int .i64 n, .slice a N cap]) :
    Calls Try.prog 35 #[gv, .int .i64 v] w fun e w' => e = .returned (.func (.func 43) #[] #[.pointer (some ⟨w.heap.size, 0, none⟩), .pointer (some ⟨w.heap.size + 1, 0, none⟩)]) ∧ w' = (w.alloc (.cells #[.int .i64 n, .slice a N cap] 25)).alloc (.cells #[.int .i64 v] 3) := by
  subst hg
  go_enter Try.func35, Try.ntmps35
  go_wp2
  go_ret
  exact ⟨rfl, rfl⟩

/-- What a round that goes on leaves alone: what was there, and every box of an edge. -/
def KpE (n₀ : Nat) (A B : World) : Prop := Below n₀ A B ∧ ∀ (j : Nat) (cs : Array Value) (fr : Nat × Nat), A.heap[j]? = some (Obj.cells cs 39 fr) → B.heap[j]? = some (Obj.cells cs 39 fr)
theorem kpE_t {n₀ : Nat} {A B C : World} (h : KpE n₀ A B) (h' : KpE n₀ B C) : KpE n₀ A C := ⟨h.1.trans h'.1, fun j cs fr hj => h'.2 j cs fr (h.2 j cs fr hj)⟩
theorem kpE_b {n₀ : Nat} {w : World} (hn : n₀ ≤ w.heap.size) (W : World) (l : Nat) (o o' : Obj) (hl : w.heap.size ≤ l) (ho : W.heap[l]? = some o) (hc : o.isCells = false) (hw : o.isWalk = false) : KpE n₀ W (W.putObj l o') := by
  refine ⟨belowK_b hn W l o o' hl ho hc hw, fun j cs fr hj => ?_⟩
  by_cases h : j = l
  · subst h
    rw [hj] at ho
    obtain rfl := Option.some.inj ho
    simp [Obj.isCells] at hc
  · rw [World.putObj_heap_other h]; exact hj
theorem kpE_refl (n₀ : Nat) (A : World) : KpE n₀ A A := ⟨Below.refl _ _, fun _ _ _ h => h⟩

theorem skip_wide {n : Nat} {P : Program} {ops : Array Oper} {Q : Exit → Act → World → Prop} {a : Act} {w : World} {rest : List Oper} {o : Oper} (hw : Region.wanted o (yielded ops a.tmps) = false) (h : wpListIn Fence.wide n P ops Q rest (a.put o.dst undef) w) : wpListIn Fence.wide n P ops Q (o :: rest) a w := by
  simp only [wpListIn, hw]
  exact ⟨fun f hf => trivial, h⟩

set_option maxRecDepth 100000 in
set_option maxHeartbeats 2000000 in
theorem nb1_in (m : Nat) (hm : 1 ≤ m) (l Bg Bv n₀ : Nat) (n v : Int) (a : Option Addr) (cap : Nat) (es : List (Int × Int)) (b : Bool) (L : List Int) (hL : L = if b = true then nbL v es else []) (hN : es.length ≤ 1000000) (hb : b = true ↔ RightG n es) (J Jx : List Int → World → Prop) (W : World) (hJ : AbidesFrom W.heap.size J) (hn₀ : n₀ ≤ W.heap.size) (hBg : Bg < n₀) (hBv : Bv < n₀)
    (hY : ∀ pre x W, J pre W → pre.length < es.length → YieldAt Fence.wide (m - 1) Try.prog l #[.int .i64 x] W fun e W' =>
      (e = .returned (.bool true) ∧ J (pre ++ [x]) W' ∧ KpE n₀ W W') ∨ (e = .returned (.bool false) ∧ Jx (pre ++ [x]) W'))
    (cg0 : W.cell? ⟨Bg, 0, none⟩ = some (.int .i64 n)) (cg1 : W.cell? ⟨Bg, 1, none⟩ = some (.slice a es.length cap)) (cv : W.cell? ⟨Bv, 0, none⟩ = some (.int .i64 v))
    (hE : EAt W a es) (hEn : ∀ g off, 0 < es.length → a = some ⟨g, off, none⟩ → g < n₀) (h0 : J [] W) :
    CallsIn Fence.wide m Try.prog 43 #[.func (.yield l) #[] #[], .pointer (some ⟨Bg, 0, none⟩), .pointer (some ⟨Bv, 0, none⟩)] W fun e W' => (∃ v, e = .returned v) ∧
      ((∃ ys, ys = L ∧ J ys W') ∨ (∃ pre, pre <+: L ∧ Jx pre W')) := by
  refine callsIn_of_wp Try.func43 rfl trivial ?_ rfl
  simp only [Try.ntmps43, List.size_toArray, List.length_cons, List.length_nil, Nat.reduceAdd, Nat.reduceSub, Array.replicate_succ, Array.replicate_zero, List.push_toArray, List.append_toArray, List.nil_append, List.cons_append]
  obtain ⟨N, hNe⟩ : ∃ N, N = es.length := ⟨_, rfl⟩
  have hR := right_any n a cap es b W hN hE hb
  rw [← hNe] at hN cg1 hR
  have HN : Hid (N = es.length) := hNe
  have HE : Hid (EAt W a es) := hE
  have HB : Hid (b = true ↔ RightG n es) := hb
  have HL : Hid (L = if b = true then nbL v es else []) := hL
  have HY : Hid (∀ pre x W, J pre W → pre.length < es.length → YieldAt Fence.wide (m - 1) Try.prog l #[.int .i64 x] W fun e W' =>
      (e = .returned (.bool true) ∧ J (pre ++ [x]) W' ∧ KpE n₀ W W') ∨ (e = .returned (.bool false) ∧ Jx (pre ++ [x]) W')) := hY
  have HJ : Hid (AbidesFrom W.heap.size J) := hJ
  have HEn : Hid (∀ g off, 0 < es.length → a = some ⟨g, off, none⟩ → g < n₀) := hEn
  clear hNe hE hb hY hJ hEn hL
  have HR : Hid (Calls Try.prog 14 #[.agg #[.int .i64 n, .slice a N cap]] W fun e w' => e = .returned (.bool b) ∧ Below W.heap.size W w') := hR
  clear hR
  gi_wp2_with fail
  refine ⟨trivial, ?_⟩
  refine (callsIn_wide.2 HR.out).mono ?_
  rintro e w1 ⟨rfl, hb1⟩
  clear HR
  have hJ1 : Hid (J [] w1) := abides_below HJ.out h0 hb1
  have k1 := (hb1.cell (p := ⟨Bg, 1, none⟩) (by simp; omega)).trans cg1
  have kv := (hb1.cell (p := ⟨Bv, 0, none⟩) (by simp; omega)).trans cv
  have HCV : Hid (W.cell? ⟨Bv, 0, none⟩ = some (.int .i64 v)) := cv
  clear cg0 cg1 cv
  have hbn : Below n₀ W w1 := hb1.mono hn₀
  cases b with
  | false =>
    gi_wp2
    refine bodyPost_ret (results_none rfl _ _ _) rfl ?_
    exact ⟨⟨_, rfl⟩, .inl ⟨[], HL.out.symm, hJ1.out⟩⟩
  | true =>
    have HRG : Hid (RightG n es) := HB.out.1 rfl
    have HL2 : Hid (L = nbL v es) := HL.out
    clear HB HL
    gi_wp2
    gi_loopw [12] (fun i wr => ∃ k : Nat, k ≤ N ∧ i = .int .i64 k ∧ Hid (J (nbL v (es.take k)) wr) ∧ Below n₀ W wr) (fun i _ => N - (intOf i).toNat)
    case atStart => exact ⟨0, Nat.zero_le _, rfl, hJ1, hbn⟩
    case round =>
      clear kv k1
      obtain ⟨k, hk, rfl, hJs, hbr⟩ := hrel
      by_cases hlt : k < N
      · have hkr : k < es.length := by rw [← HN.out]; exact hlt
        have kv := (hbr.cell (p := ⟨Bv, 0, none⟩) hBv).trans HCV.out
        obtain ⟨g, off, rfl, hg, hcs⟩ := HE.out (by omega)
        have hgn : g < n₀ := HEn.out g off (by omega) rfl
        obtain ⟨e1, he1⟩ := ex_eq es[k].1
        obtain ⟨e2, he2⟩ := ex_eq es[k].2
        have d0 := (hbr.cell (p := ⟨g, off + k * 2, none⟩) hgn).trans (hcs k hkr).1
        have d1 := (hbr.cell (p := ⟨g, off + k * 2 + 1, none⟩) hgn).trans (hcs k hkr).2
        rw [← he1] at d0
        rw [← he2] at d1
        have hin := (HRG.out.at k hkr).1
        rw [← he1, ← he2] at hin
        obtain ⟨i1, i2, i3⟩ := hin
        have HES : Hid (e1 = es[k].1 ∧ e2 = es[k].2) := ⟨he1, he2⟩
        have hplen : (nbL v (es.take k)).length < es.length := Nat.lt_of_le_of_lt (nbL_len _ _) (by rw [List.length_take]; omega)
        have HNX : Hid (nbL v (es.take (k + 1)) = nbL v (es.take k) ++ other v (e1, e2)) := by
          show nbL v (es.take (k + 1)) = nbL v (es.take k) ++ other v (e1, e2)
          rw [nbL_take hkr, he1, he2]
        have HPX : Hid (nbL v (es.take (k + 1)) <+: L) := by
          show nbL v (es.take (k + 1)) <+: L
          rw [HL2.out]; exact nbL_prefix _ _ _
        have hbV : Below wr.heap.size wr (wr.alloc (.cells #[.int .i64 e1, .int .i64 e2] 39)) := (Below.refl _ _).alloc (Nat.le_refl _) _
        have HJV : Hid (J (nbL v (es.take k)) (wr.alloc (.cells #[.int .i64 e1, .int .i64 e2] 39))) := abides_below HJ.out hJs.out hbV
        have hbVn : Below n₀ W (wr.alloc (.cells #[.int .i64 e1, .int .i64 e2] 39)) := hbr.trans (hbV.mono (Nat.le_trans hn₀ hbr.size))
        have kvV : (wr.alloc (.cells #[.int .i64 e1, .int .i64 e2] 39)).cell? ⟨Bv, 0, none⟩ = some (.int .i64 v) := cell_alloc_old kv _
        clear hcs he1 he2
        by_cases c1 : v < e1
        · have HST : Hid (nbL v (es.take k) = L) := by
            show nbL v (es.take k) = L
            rw [HL2.out]; exact nbL_stop HRG.out hkr (by rw [← HES.out.1]; exact c1)
          gi_wp2_with (refine skip_wide rfl ?_)
          exact bodyPost_ret (results_none rfl _ _ _) rfl ⟨⟨_, rfl⟩, .inl ⟨_, HST.out, HJV.out⟩⟩
        by_cases c2 : e1 = v
        · subst c2
          have HO : Hid (nbL e1 (es.take (k + 1)) = nbL e1 (es.take k) ++ [e2]) := by
            show nbL e1 (es.take (k + 1)) = nbL e1 (es.take k) ++ [e2]
            rw [HNX.out]; unfold other; rw [if_pos rfl]
          obtain ⟨fn, tmps, assign, body, hy, hR⟩ := HY.out (nbL e1 (es.take k)) e2 _ HJV.out hplen
          have b3 : (e2 == e1) = false := beq_eq_false_iff_ne.2 (by omega)
          gi_wp2
          refine hR.mono ?_
          rintro e W3 (⟨rfl, hJ3, hk3⟩ | ⟨rfl, hJx3⟩)
          · have hbx := hk3.2 _ _ _ (heap_alloc_new wr _)
            have x0 := cell_of_heap hbx 0
            have x1 := cell_of_heap hbx 1
            have xv := (hk3.1.cell (p := ⟨Bv, 0, none⟩) hBv).trans kvV
            have HJ3 : Hid (J (nbL e1 (es.take (k + 1))) W3) := by
              show J (nbL e1 (es.take (k + 1))) W3
              rw [HO.out]; exact hJ3
            have hb3 := hbVn.trans hk3.1
            clear hy hR hJ3 hk3 hbx kvV kv d0 d1
            gi_wp2_with (refine skip_wide rfl ?_)
            go_roundw
            case rel => exact ⟨k + 1, by omega, by go_num, HJ3, hb3⟩
            case measure => simp [intOf]; omega
          · have HPX3 : Hid (nbL e1 (es.take k) ++ [e2] <+: L) := by
              show nbL e1 (es.take k) ++ [e2] <+: L
              rw [← HO.out]; exact HPX.out
            clear hy hR kvV kv d0 d1
            gi_wp2_with (refine skip_wide rfl ?_)
            exact bodyPost_ret (results_none rfl _ _ _) rfl ⟨⟨_, rfl⟩, .inr ⟨_, HPX3.out, hJx3⟩⟩
        by_cases c3 : e2 = v
        · subst c3
          have HO : Hid (nbL e2 (es.take (k + 1)) = nbL e2 (es.take k) ++ [e1]) := by
            show nbL e2 (es.take (k + 1)) = nbL e2 (es.take k) ++ [e1]
            rw [HNX.out]; unfold other; rw [if_neg c2, if_pos rfl]
          obtain ⟨fn, tmps, assign, body, hy, hR⟩ := HY.out (nbL e2 (es.take k)) e1 _ HJV.out hplen
          have b2 : (e1 == e2) = false := beq_eq_false_iff_ne.2 (by omega)
          have c1' : e1 ≤ e2 := by omega
          gi_wp2_with (refine skip_wide rfl ?_)
          refine hR.mono ?_
          rintro e W3 (⟨rfl, hJ3, hk3⟩ | ⟨rfl, hJx3⟩)
          · have HJ3 : Hid (J (nbL e2 (es.take (k + 1))) W3) := by
              show J (nbL e2 (es.take (k + 1))) W3
              rw [HO.out]; exact hJ3
            have hb3 := hbVn.trans hk3.1
            clear hy hR hJ3 hk3 kvV kv d0 d1
            gi_wp2_with (refine skip_wide rfl ?_)
            go_roundw
            case rel => exact ⟨k + 1, by omega, by go_num, HJ3, hb3⟩
            case measure => simp [intOf]; omega
          · have HPX3 : Hid (nbL e2 (es.take k) ++ [e1] <+: L) := by
              show nbL e2 (es.take k) ++ [e1] <+: L
              rw [← HO.out]; exact HPX.out
            clear hy hR kvV kv d0 d1
            gi_wp2_with (refine skip_wide rfl ?_)
            exact bodyPost_ret (results_none rfl _ _ _) rfl ⟨⟨_, rfl⟩, .inr ⟨_, HPX3.out, hJx3⟩⟩
        · have HO : Hid (nbL v (es.take (k + 1)) = nbL v (es.take k)) := by
            show nbL v (es.take (k + 1)) = nbL v (es.take k)
            rw [HNX.out]; unfold other; rw [if_neg c2, if_neg c3, List.append_nil]
          have b2 : (e1 == v) = false := beq_eq_false_iff_ne.2 c2
          have b3 : (e2 == v) = false := beq_eq_false_iff_ne.2 c3
          have c1' : e1 ≤ v := by omega
          have HJ3 : Hid (J (nbL v (es.take (k + 1))) (wr.alloc (.cells #[.int .i64 e1, .int .i64 e2] 39))) := by
            show J (nbL v (es.take (k + 1))) _
            rw [HO.out]; exact HJV.out
          gi_wp2_with (refine skip_wide rfl ?_)
          go_roundw
          case rel => exact ⟨k + 1, by omega, by go_num, HJ3, hbVn⟩
          case measure => simp [intOf]; omega
      · obtain rfl : k = N := by omega
        gi_wp2
        go_end0
        refine ⟨⟨_, rfl⟩, .inl ⟨_, ?_, hJs.out⟩⟩
        rw [HL2.out, HN.out, List.take_length]

theorem EAt.lt {w : World} {a : Option Addr} {es : List (Int × Int)} (h : EAt w a es) : ∀ g off, 0 < es.length → a = some ⟨g, off, none⟩ → g < w.heap.size := fun g off h0 ha => by
  obtain ⟨g', off', ha', hg, _⟩ := h h0
  rw [ha'] at ha
  simp only [Option.some.injEq, Addr.mk.injEq, and_true] at ha
  omega

/-- The closure as an iterator: all of L comes, or a beginning of it. -/
theorem nb_stops (m : Nat) (hm : 1 ≤ m) (Bg Bv n₀ : Nat) (n v : Int) (a : Option Addr) (cap : Nat) (es : List (Int × Int)) (b : Bool) (L : List Int) (hL : L = if b = true then nbL v es else []) (hN : es.length ≤ 1000000) (hb : b = true ↔ RightG n es) (w : World) (hn₀ : n₀ ≤ w.heap.size) (hBg : Bg < n₀) (hBv : Bv < n₀)
    (cg0 : w.cell? ⟨Bg, 0, none⟩ = some (.int .i64 n)) (cg1 : w.cell? ⟨Bg, 1, none⟩ = some (.slice a es.length cap)) (cv : w.cell? ⟨Bv, 0, none⟩ = some (.int .i64 v)) (hE : EAt w a es) (hEn : ∀ g off, 0 < es.length → a = some ⟨g, off, none⟩ → g < n₀) :
    SeqStopsK Fence.wide m Try.prog 43 #[.pointer (some ⟨Bg, 0, none⟩), .pointer (some ⟨Bv, 0, none⟩)] (fun x : Int => #[Value.int .i64 x]) (KpE n₀) (fun ys => ys = L) (fun pre => pre <+: L) es.length w := fun l J Jx W hW hJ _ hY h0 =>
  nb1_in m hm l Bg Bv n₀ n v a cap es b L hL hN hb J Jx W hJ (Nat.le_trans hn₀ hW.size) hBg hBv hY ((hW.cell (p := ⟨Bg, 0, none⟩) (by simp; omega)).trans cg0) ((hW.cell (p := ⟨Bg, 1, none⟩) (by simp; omega)).trans cg1) ((hW.cell (p := ⟨Bv, 0, none⟩) (by simp; omega)).trans cv) (hE.below hW) hEn h0

theorem nbL_mem {v y : Int} {es : List (Int × Int)} : y ∈ nbL v es ↔ ∃ e ∈ es, y ∈ other v e := by
  induction es with
  | nil => simp [nbL]
  | cons e es ih => simp [nbL, ih]
theorem other_mem {v y : Int} {e : Int × Int} : y ∈ other v e ↔ (e.1 = v ∧ y = e.2) ∨ (e.1 ≠ v ∧ e.2 = v ∧ y = e.1) := by
  unfold other
  by_cases h1 : e.1 = v
  · rw [if_pos h1]; simp [h1]
  · rw [if_neg h1]
    by_cases h2 : e.2 = v
    · rw [if_pos h2]; simp [h1, h2]
    · rw [if_neg h2]; simp [h1, h2]
/-- The neighbours of a vertex are the other ends of its edges. -/
theorem nbL_right {n v y : Int} {es : List (Int × Int)} (h : RightG n es) : y ∈ nbL v es ↔ (v, y) ∈ es ∨ (y, v) ∈ es := by
  rw [nbL_mem]
  constructor
  · rintro ⟨e, he, ho⟩
    rcases other_mem.1 ho with ⟨h1, h2⟩ | ⟨_, h1, h2⟩
    · left; rw [show (v, y) = e from Prod.ext h1.symm h2]; exact he
    · right; rw [show (y, v) = e from Prod.ext h2 h1.symm]; exact he
  · rintro (he | he)
    · exact ⟨_, he, other_mem.2 (Or.inl ⟨rfl, rfl⟩)⟩
    · have := h.2.2.2.1 _ he
      simp only at this
      exact ⟨_, he, other_mem.2 (Or.inr ⟨by simp only; omega, rfl, rfl⟩)⟩
/-- They rise. -/
theorem nbL_rises {n v : Int} {es : List (Int × Int)} (h : RightG n es) : (nbL v es).Pairwise (· < ·) := by
  have key : ∀ es : List (Int × Int), (∀ e ∈ es, 0 ≤ e.1 ∧ e.1 < e.2 ∧ e.2 < n) → Rises es → (nbL v es).Pairwise (· < ·) := by
    intro es
    induction es with
    | nil => intro _ _; exact List.Pairwise.nil
    | cons e es ih =>
      intro hin hr
      rw [rises_cons] at hr
      rw [nbL, List.pairwise_append]
      refine ⟨?_, ih (fun x hx => hin x (by simp [hx])) hr.2, fun o ho o' ho' => ?_⟩
      · unfold other
        by_cases h1 : e.1 = v
        · rw [if_pos h1]; simp
        · rw [if_neg h1]
          by_cases h2 : e.2 = v
          · rw [if_pos h2]; simp
          · rw [if_neg h2]; simp
      · obtain ⟨f, hf, ho'⟩ := nbL_mem.1 ho'
        have hlt := hr.1 f hf
        rw [ltE_iff] at hlt
        have i1 := hin e (by simp)
        have i2 := hin f (by simp [hf])
        rcases other_mem.1 ho with ⟨h1, h2⟩ | ⟨h0, h1, h2⟩ <;> rcases other_mem.1 ho' with ⟨h3, h4⟩ | ⟨h3, h4, h5⟩ <;> omega
  exact key es h.2.2.2.1 h.2.2.2.2
end Go.Proofs.Ytalhjankofdhgaa
