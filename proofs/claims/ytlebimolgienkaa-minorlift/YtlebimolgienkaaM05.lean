/-
  graph.neighbours, and the closure that it hands back: which vertices come, in which order.
  graph.Has: are two vertices neighbours?
  graph.Near: the neighbours of a vertex; slices.Collect and slices.AppendSeq walked.
  graph.Degrees: of each vertex how many neighbours it has.
  carcanetlaw03.shown answers true.
  A graph in a variable; what the laws of a raw graph do first: a copy of its first five hundred edges.
  Edges, a graph and two numbers that came in, as the walks take them.
-/
import Derived.Test.YtlebimolgienkaaM01
import Derived.RangeFuncNested
import Derived.RangeFuncBound
import Derived.RangeFuncCalls
import Derived.RangeFuncLeaves
import Derived.RangeFuncBox
import Derived.Shelf.Abstract
import Derived.Shelf.RegionOpen
import Derived.OwnWalkIn
import Derived.TacticsInMore
import Derived.LoopNIn
import Derived.LoopIn
import Derived.Maps.AppendAt
import Derived.Test.YtlebimolgienkaaM04
import Derived.Test.YtlebimolgienkaaM03
import Derived.Deep.SlicePairs
import Derived.WideKeyPair
import Derived.OpenShut
import Derived.ProofKit
namespace Go.Proofs.Ytlebimolgienkaa
open Go.RowKit Go.Lib Go.Shelf
attribute [local go_sem] Oper.semAt_some

/-- The other end of an edge that has v. -/
def other (v : Int) (e : Int × Int) : List Int := if e.1 = v then [e.2] else if e.2 = v then [e.1] else []
def nbL (v : Int) : List (Int × Int) → List Int
  | [] => []
  | e :: es => other v e ++ nbL v es
theorem nbL_append (v : Int) (a b : List (Int × Int)) : nbL v (a ++ b) = nbL v a ++ nbL v b := by
  induction a with
  | nil => rfl
  | cons e a ih => rw [List.cons_append, nbL, nbL, ih, List.append_assoc]
theorem nbL_take {v : Int} {es : List (Int × Int)} {k : Nat} (h : k < es.length) : nbL v (es.take (k + 1)) = nbL v (es.take k) ++ other v es[k] := by
  rw [List.take_succ_eq_append_getElem h, nbL_append, nbL, nbL, List.append_nil]
theorem nbL_prefix (v : Int) (es : List (Int × Int)) (k : Nat) : nbL v (es.take k) <+: nbL v es := by
  refine ⟨nbL v (es.drop k), ?_⟩
  rw [← nbL_append, List.take_append_drop]
theorem nbL_none {v : Int} {es : List (Int × Int)} (h : ∀ e ∈ es, v < e.1 ∧ v < e.2) : nbL v es = [] := by
  induction es with
  | nil => rfl
  | cons e es ih =>
    have := h e (by simp)
    rw [nbL, ih (fun e he => h e (by simp [he]))]
    unfold other
    rw [if_neg (by omega), if_neg (by omega)]
    rfl
/-- Behind an edge of which the first end is above v none has v. -/
theorem nbL_stop {n v : Int} {es : List (Int × Int)} {k : Nat} (hr : RightG n es) (hk : k < es.length) (h : v < es[k].1) : nbL v (es.take k) = nbL v es := by
  have h1 : nbL v es = nbL v (es.take k) ++ nbL v (es.drop k) := by rw [← nbL_append, List.take_append_drop]
  have h0 : nbL v (es.drop k) = [] := nbL_none ?_
  · rw [h1, h0, List.append_nil]
  intro e he
  obtain ⟨j, hj, rfl⟩ := List.getElem_of_mem he
  rw [List.getElem_drop]
  have hj' : k + j < es.length := by rw [List.length_drop] at hj; omega
  have h2 := (hr.at (k + j) hj').1
  have h3 : es[k].1 ≤ es[k + j].1 := by
    by_cases h0 : j = 0
    · subst h0; simp
    · have := rises_at hr.2.2.2.2 (i := k) (j := k + j) (by omega) hj'
      rw [ltE_iff] at this
      omega
  omega
theorem nbL_len (v : Int) (es : List (Int × Int)) : (nbL v es).length ≤ es.length := by
  induction es with
  | nil => simp [nbL]
  | cons e es ih =>
    rw [nbL, List.length_append]
    have : (other v e).length ≤ 1 := by
      unfold other
      by_cases h1 : e.1 = v
      · rw [if_pos h1]; simp
      · rw [if_neg h1]
        by_cases h2 : e.2 = v
        · rw [if_pos h2]; simp
        · rw [if_neg h2]; simp
    simp; omega

theorem grown_of_below {w w' : World} (h : Below w.heap.size w w') : w.grownBy w' none := ⟨h.os, h.tape, h.output, h.size, fun k hk _ => h.block k hk⟩
theorem abides_below {β : Type} {B : Nat} {J : β → World → Prop} (hJ : AbidesFrom B J) {s : β} {w w' : World} (h : J s w) (hb : Below w.heap.size w w') : J s w' := hJ s w w' none h (grown_of_below hb) (fun r e => by cases e)

set_option maxHeartbeats 1000000 in
theorem neighbours_any (gv : Value) (n : Int) (a : Option Addr) (N cap : Nat) (v : Int) (w : World) (hg : gv = .agg #[.int .i64 n, .slice a N cap]) :
    Calls Try.prog 99 #[gv, .int .i64 v] w fun e w' => e = .returned (.func (.func 122) #[] #[.pointer (some ⟨w.heap.size, 0, none⟩), .pointer (some ⟨w.heap.size + 1, 0, none⟩)]) ∧ w' = (w.alloc (.cells #[.int .i64 n, .slice a N cap] 26)).alloc (.cells #[.int .i64 v] 3) := by
  subst hg
  go_enter Try.func99, Try.ntmps99
  go_wp2
  go_ret
  exact ⟨rfl, rfl⟩

/-- What a round that goes on leaves alone: what was there, and every box of an edge. -/
def KpE (n₀ : Nat) (A B : World) : Prop := Below n₀ A B ∧ ∀ (j : Nat) (cs : Array Value) (fr : Nat × Nat), A.heap[j]? = some (Obj.cells cs 56 fr) → B.heap[j]? = some (Obj.cells cs 56 fr)
theorem kpE_t {n₀ : Nat} {A B C : World} (h : KpE n₀ A B) (h' : KpE n₀ B C) : KpE n₀ A C := ⟨h.1.trans h'.1, fun j cs fr hj => h'.2 j cs fr (h.2 j cs fr hj)⟩
theorem kpE_b {n₀ : Nat} {w : World} (hn : n₀ ≤ w.heap.size) (W : World) (l : Nat) (o o' : Obj) (hl : w.heap.size ≤ l) (ho : W.heap[l]? = some o) (hc : o.isCells = false) (hw : o.isWalk = false) : KpE n₀ W (W.putObj l o') := by
  refine ⟨belowK_b hn W l o o' hl ho hc hw, fun j cs fr hj => ?_⟩
  by_cases h : j = l
  · subst h
    rw [hj] at ho
    obtain rfl := Option.some.inj ho
    simp [Obj.isCells] at hc
  · rw [World.putObj_heap_other h]; exact hj
theorem kpE_refl (n₀ : Nat) (A : World) : KpE n₀ A A := ⟨Below.refl _ _, fun _ _ _ h => h⟩

theorem skip_wide {n : Nat} {P : Program} {ops : Array Oper} {Q : Exit → Act → World → Prop} {a : Act} {w : World} {rest : List Oper} {o : Oper} (hw : Region.wanted o (yielded ops a.tmps) = false) (h : wpListIn Fence.wide n P ops Q rest (a.put o.dst undef) w) : wpListIn Fence.wide n P ops Q (o :: rest) a w := by
  simp only [wpListIn, hw]
  exact ⟨fun f hf => trivial, h⟩

set_option maxRecDepth 100000 in
set_option maxHeartbeats 2000000 in
theorem nb1_in (m : Nat) (hm : 1 ≤ m) (l Bg Bv n₀ : Nat) (n v : Int) (a : Option Addr) (cap : Nat) (es : List (Int × Int)) (b : Bool) (L : List Int) (hL : L = if b = true then nbL v es else []) (hN : es.length ≤ 1000000) (hb : b = true ↔ RightG n es) (J Jx : List Int → World → Prop) (W : World) (hJ : AbidesFrom W.heap.size J) (hn₀ : n₀ ≤ W.heap.size) (hBg : Bg < n₀) (hBv : Bv < n₀)
    (hY : ∀ pre x W, J pre W → pre.length < es.length → YieldAt Fence.wide (m - 1) Try.prog l #[.int .i64 x] W fun e W' =>
      (e = .returned (.bool true) ∧ J (pre ++ [x]) W' ∧ KpE n₀ W W') ∨ (e = .returned (.bool false) ∧ Jx (pre ++ [x]) W'))
    (cg0 : W.cell? ⟨Bg, 0, none⟩ = some (.int .i64 n)) (cg1 : W.cell? ⟨Bg, 1, none⟩ = some (.slice a es.length cap)) (cv : W.cell? ⟨Bv, 0, none⟩ = some (.int .i64 v))
    (hE : EAt W a es) (hEn : ∀ g off, 0 < es.length → a = some ⟨g, off, none⟩ → g < n₀) (h0 : J [] W) :
    CallsIn Fence.wide m Try.prog 122 #[.func (.yield l) #[] #[], .pointer (some ⟨Bg, 0, none⟩), .pointer (some ⟨Bv, 0, none⟩)] W fun e W' => (∃ v, e = .returned v) ∧
      ((∃ ys, ys = L ∧ J ys W') ∨ (∃ pre, pre <+: L ∧ Jx pre W')) := by
  refine callsIn_of_wp Try.func122 rfl trivial ?_ rfl
  simp only [Try.ntmps122, List.size_toArray, List.length_cons, List.length_nil, Nat.reduceAdd, Nat.reduceSub, Array.replicate_succ, Array.replicate_zero, List.push_toArray, List.append_toArray, List.nil_append, List.cons_append]
  obtain ⟨N, hNe⟩ : ∃ N, N = es.length := ⟨_, rfl⟩
  have hR := right_any n a cap es b W hN hE hb
  rw [← hNe] at hN cg1 hR
  have HN : Hid (N = es.length) := hNe
  have HE : Hid (EAt W a es) := hE
  have HB : Hid (b = true ↔ RightG n es) := hb
  have HL : Hid (L = if b = true then nbL v es else []) := hL
  have HY : Hid (∀ pre x W, J pre W → pre.length < es.length → YieldAt Fence.wide (m - 1) Try.prog l #[.int .i64 x] W fun e W' =>
      (e = .returned (.bool true) ∧ J (pre ++ [x]) W' ∧ KpE n₀ W W') ∨ (e = .returned (.bool false) ∧ Jx (pre ++ [x]) W')) := hY
  have HJ : Hid (AbidesFrom W.heap.size J) := hJ
  have HEn : Hid (∀ g off, 0 < es.length → a = some ⟨g, off, none⟩ → g < n₀) := hEn
  clear hNe hE hb hY hJ hEn hL
  have HR : Hid (Calls Try.prog 36 #[.agg #[.int .i64 n, .slice a N cap]] W fun e w' => e = .returned (.bool b) ∧ Below W.heap.size W w') := hR
  clear hR
  gi_wp2_with fail
  refine ⟨trivial, ?_⟩
  refine (callsIn_wide.2 HR.out).mono ?_
  rintro e w1 ⟨rfl, hb1⟩
  clear HR
  have hJ1 : Hid (J [] w1) := abides_below HJ.out h0 hb1
  have k1 := (hb1.cell (p := ⟨Bg, 1, none⟩) (by simp; omega)).trans cg1
  have kv := (hb1.cell (p := ⟨Bv, 0, none⟩) (by simp; omega)).trans cv
  have HCV : Hid (W.cell? ⟨Bv, 0, none⟩ = some (.int .i64 v)) := cv
  clear cg0 cg1 cv
  have hbn : Below n₀ W w1 := hb1.mono hn₀
  cases b with
  | false =>
    gi_wp2
    refine bodyPost_ret (results_none rfl _ _ _) rfl ?_
    exact ⟨⟨_, rfl⟩, .inl ⟨[], HL.out.symm, hJ1.out⟩⟩
  | true =>
    have HRG : Hid (RightG n es) := HB.out.1 rfl
    have HL2 : Hid (L = nbL v es) := HL.out
    clear HB HL
    gi_wp2
    gi_loopw [12] (fun i wr => ∃ k : Nat, k ≤ N ∧ i = .int .i64 k ∧ Hid (J (nbL v (es.take k)) wr) ∧ Below n₀ W wr) (fun i _ => N - (intOf i).toNat)
    case atStart => exact ⟨0, Nat.zero_le _, rfl, hJ1, hbn⟩
    case round =>
      clear kv k1
      obtain ⟨k, hk, rfl, hJs, hbr⟩ := hrel
      by_cases hlt : k < N
      · have hkr : k < es.length := by rw [← HN.out]; exact hlt
        have kv := (hbr.cell (p := ⟨Bv, 0, none⟩) hBv).trans HCV.out
        obtain ⟨g, off, rfl, hg, hcs⟩ := HE.out (by omega)
        have hgn : g < n₀ := HEn.out g off (by omega) rfl
        obtain ⟨e1, he1⟩ := ex_eq es[k].1
        obtain ⟨e2, he2⟩ := ex_eq es[k].2
        have d0 := (hbr.cell (p := ⟨g, off + k * 2, none⟩) hgn).trans (hcs k hkr).1
        have d1 := (hbr.cell (p := ⟨g, off + k * 2 + 1, none⟩) hgn).trans (hcs k hkr).2
        rw [← he1] at d0
        rw [← he2] at d1
        have hin := (HRG.out.at k hkr).1
        rw [← he1, ← he2] at hin
        obtain ⟨i1, i2, i3⟩ := hin
        have HES : Hid (e1 = es[k].1 ∧ e2 = es[k].2) := ⟨he1, he2⟩
        have hplen : (nbL v (es.take k)).length < es.length := Nat.lt_of_le_of_lt (nbL_len _ _) (by rw [List.length_take]; omega)
        have HNX : Hid (nbL v (es.take (k + 1)) = nbL v (es.take k) ++ other v (e1, e2)) := by
          show nbL v (es.take (k + 1)) = nbL v (es.take k) ++ other v (e1, e2)
          rw [nbL_take hkr, he1, he2]
        have HPX : Hid (nbL v (es.take (k + 1)) <+: L) := by
          show nbL v (es.take (k + 1)) <+: L
          rw [HL2.out]; exact nbL_prefix _ _ _
        have hbV : Below wr.heap.size wr (wr.alloc (.cells #[.int .i64 e1, .int .i64 e2] 56)) := (Below.refl _ _).alloc (Nat.le_refl _) _
        have HJV : Hid (J (nbL v (es.take k)) (wr.alloc (.cells #[.int .i64 e1, .int .i64 e2] 56))) := abides_below HJ.out hJs.out hbV
        have hbVn : Below n₀ W (wr.alloc (.cells #[.int .i64 e1, .int .i64 e2] 56)) := hbr.trans (hbV.mono (Nat.le_trans hn₀ hbr.size))
        have kvV : (wr.alloc (.cells #[.int .i64 e1, .int .i64 e2] 56)).cell? ⟨Bv, 0, none⟩ = some (.int .i64 v) := cell_alloc_old kv _
        clear hcs he1 he2
        by_cases c1 : v < e1
        · have HST : Hid (nbL v (es.take k) = L) := by
            show nbL v (es.take k) = L
            rw [HL2.out]; exact nbL_stop HRG.out hkr (by rw [← HES.out.1]; exact c1)
          gi_wp2_with (refine skip_wide rfl ?_)
          exact bodyPost_ret (results_none rfl _ _ _) rfl ⟨⟨_, rfl⟩, .inl ⟨_, HST.out, HJV.out⟩⟩
        by_cases c2 : e1 = v
        · subst c2
          have HO : Hid (nbL e1 (es.take (k + 1)) = nbL e1 (es.take k) ++ [e2]) := by
            show nbL e1 (es.take (k + 1)) = nbL e1 (es.take k) ++ [e2]
            rw [HNX.out]; unfold other; rw [if_pos rfl]
          obtain ⟨fn, tmps, assign, body, hy, hR⟩ := HY.out (nbL e1 (es.take k)) e2 _ HJV.out hplen
          have b3 : (e2 == e1) = false := beq_eq_false_iff_ne.2 (by omega)
          gi_wp2
          refine hR.mono ?_
          rintro e W3 (⟨rfl, hJ3, hk3⟩ | ⟨rfl, hJx3⟩)
          · have hbx := hk3.2 _ _ _ (heap_alloc_new wr _)
            have x0 := cell_of_heap hbx 0
            have x1 := cell_of_heap hbx 1
            have xv := (hk3.1.cell (p := ⟨Bv, 0, none⟩) hBv).trans kvV
            have HJ3 : Hid (J (nbL e1 (es.take (k + 1))) W3) := by
              show J (nbL e1 (es.take (k + 1))) W3
              rw [HO.out]; exact hJ3
            have hb3 := hbVn.trans hk3.1
            clear hy hR hJ3 hk3 hbx kvV kv d0 d1
            gi_wp2_with (refine skip_wide rfl ?_)
            go_roundw
            case rel => exact ⟨k + 1, by omega, by go_num, HJ3, hb3⟩
            case measure => simp [intOf]; omega
          · have HPX3 : Hid (nbL e1 (es.take k) ++ [e2] <+: L) := by
              show nbL e1 (es.take k) ++ [e2] <+: L
              rw [← HO.out]; exact HPX.out
            clear hy hR kvV kv d0 d1
            gi_wp2_with (refine skip_wide rfl ?_)
            exact bodyPost_ret (results_none rfl _ _ _) rfl ⟨⟨_, rfl⟩, .inr ⟨_, HPX3.out, hJx3⟩⟩
        by_cases c3 : e2 = v
        · subst c3
          have HO : Hid (nbL e2 (es.take (k + 1)) = nbL e2 (es.take k) ++ [e1]) := by
            show nbL e2 (es.take (k + 1)) = nbL e2 (es.take k) ++ [e1]
            rw [HNX.out]; unfold other; rw [if_neg c2, if_pos rfl]
          obtain ⟨fn, tmps, assign, body, hy, hR⟩ := HY.out (nbL e2 (es.take k)) e1 _ HJV.out hplen
          have b2 : (e1 == e2) = false := beq_eq_false_iff_ne.2 (by omega)
          have c1' : e1 ≤ e2 := by omega
          gi_wp2_with (refine skip_wide rfl ?_)
          refine hR.mono ?_
          rintro e W3 (⟨rfl, hJ3, hk3⟩ | ⟨rfl, hJx3⟩)
          · have HJ3 : Hid (J (nbL e2 (es.take (k + 1))) W3) := by
              show J (nbL e2 (es.take (k + 1))) W3
              rw [HO.out]; exact hJ3
            have hb3 := hbVn.trans hk3.1
            clear hy hR hJ3 hk3 kvV kv d0 d1
            gi_wp2_with (refine skip_wide rfl ?_)
            go_roundw
            case rel => exact ⟨k + 1, by omega, by go_num, HJ3, hb3⟩
            case measure => simp [intOf]; omega
          · have HPX3 : Hid (nbL e2 (es.take k) ++ [e1] <+: L) := by
              show nbL e2 (es.take k) ++ [e1] <+: L
              rw [← HO.out]; exact HPX.out
            clear hy hR kvV kv d0 d1
            gi_wp2_with (refine skip_wide rfl ?_)
            exact bodyPost_ret (results_none rfl _ _ _) rfl ⟨⟨_, rfl⟩, .inr ⟨_, HPX3.out, hJx3⟩⟩
        · have HO : Hid (nbL v (es.take (k + 1)) = nbL v (es.take k)) := by
            show nbL v (es.take (k + 1)) = nbL v (es.take k)
            rw [HNX.out]; unfold other; rw [if_neg c2, if_neg c3, List.append_nil]
          have b2 : (e1 == v) = false := beq_eq_false_iff_ne.2 c2
          have b3 : (e2 == v) = false := beq_eq_false_iff_ne.2 c3
          have c1' : e1 ≤ v := by omega
          have HJ3 : Hid (J (nbL v (es.take (k + 1))) (wr.alloc (.cells #[.int .i64 e1, .int .i64 e2] 56))) := by
            show J (nbL v (es.take (k + 1))) _
            rw [HO.out]; exact HJV.out
          gi_wp2_with (refine skip_wide rfl ?_)
          go_roundw
          case rel => exact ⟨k + 1, by omega, by go_num, HJ3, hbVn⟩
          case measure => simp [intOf]; omega
      · obtain rfl : k = N := by omega
        gi_wp2
        go_end0
        refine ⟨⟨_, rfl⟩, .inl ⟨_, ?_, hJs.out⟩⟩
        rw [HL2.out, HN.out, List.take_length]

theorem EAt.lt {w : World} {a : Option Addr} {es : List (Int × Int)} (h : EAt w a es) : ∀ g off, 0 < es.length → a = some ⟨g, off, none⟩ → g < w.heap.size := fun g off h0 ha => by
  obtain ⟨g', off', ha', hg, _⟩ := h h0
  rw [ha'] at ha
  simp only [Option.some.injEq, Addr.mk.injEq, and_true] at ha
  omega

/-- The closure as an iterator: all of L comes, or a beginning of it. -/
theorem nb_stops (m : Nat) (hm : 1 ≤ m) (Bg Bv n₀ : Nat) (n v : Int) (a : Option Addr) (cap : Nat) (es : List (Int × Int)) (b : Bool) (L : List Int) (hL : L = if b = true then nbL v es else []) (hN : es.length ≤ 1000000) (hb : b = true ↔ RightG n es) (w : World) (hn₀ : n₀ ≤ w.heap.size) (hBg : Bg < n₀) (hBv : Bv < n₀)
    (cg0 : w.cell? ⟨Bg, 0, none⟩ = some (.int .i64 n)) (cg1 : w.cell? ⟨Bg, 1, none⟩ = some (.slice a es.length cap)) (cv : w.cell? ⟨Bv, 0, none⟩ = some (.int .i64 v)) (hE : EAt w a es) (hEn : ∀ g off, 0 < es.length → a = some ⟨g, off, none⟩ → g < n₀) :
    SeqStopsK Fence.wide m Try.prog 122 #[.pointer (some ⟨Bg, 0, none⟩), .pointer (some ⟨Bv, 0, none⟩)] (fun x : Int => #[Value.int .i64 x]) (KpE n₀) (fun ys => ys = L) (fun pre => pre <+: L) es.length w := fun l J Jx W hW hJ _ hY h0 =>
  nb1_in m hm l Bg Bv n₀ n v a cap es b L hL hN hb J Jx W hJ (Nat.le_trans hn₀ hW.size) hBg hBv hY ((hW.cell (p := ⟨Bg, 0, none⟩) (by simp; omega)).trans cg0) ((hW.cell (p := ⟨Bg, 1, none⟩) (by simp; omega)).trans cg1) ((hW.cell (p := ⟨Bv, 0, none⟩) (by simp; omega)).trans cv) (hE.below hW) hEn h0

theorem nbL_mem {v y : Int} {es : List (Int × Int)} : y ∈ nbL v es ↔ ∃ e ∈ es, y ∈ other v e := by
  induction es with
  | nil => simp [nbL]
  | cons e es ih => simp [nbL, ih]
theorem other_mem {v y : Int} {e : Int × Int} : y ∈ other v e ↔ (e.1 = v ∧ y = e.2) ∨ (e.1 ≠ v ∧ e.2 = v ∧ y = e.1) := by
  unfold other
  by_cases h1 : e.1 = v
  · rw [if_pos h1]; simp [h1]
  · rw [if_neg h1]
    by_cases h2 : e.2 = v
    · rw [if_pos h2]; simp [h1, h2]
    · rw [if_neg h2]; simp [h1, h2]
/-- The neighbours of a vertex are the other ends of its edges. -/
theorem nbL_right {n v y : Int} {es : List (Int × Int)} (h : RightG n es) : y ∈ nbL v es ↔ (v, y) ∈ es ∨ (y, v) ∈ es := by
  rw [nbL_mem]
  constructor
  · rintro ⟨e, he, ho⟩
    rcases other_mem.1 ho with ⟨h1, h2⟩ | ⟨_, h1, h2⟩
    · left; rw [show (v, y) = e from Prod.ext h1.symm h2]; exact he
    · right; rw [show (y, v) = e from Prod.ext h2 h1.symm]; exact he
  · rintro (he | he)
    · exact ⟨_, he, other_mem.2 (Or.inl ⟨rfl, rfl⟩)⟩
    · have := h.2.2.2.1 _ he
      simp only at this
      exact ⟨_, he, other_mem.2 (Or.inr ⟨by simp only; omega, rfl, rfl⟩)⟩
/-- They rise. -/
theorem nbL_rises {n v : Int} {es : List (Int × Int)} (h : RightG n es) : (nbL v es).Pairwise (· < ·) := by
  have key : ∀ es : List (Int × Int), (∀ e ∈ es, 0 ≤ e.1 ∧ e.1 < e.2 ∧ e.2 < n) → Rises es → (nbL v es).Pairwise (· < ·) := by
    intro es
    induction es with
    | nil => intro _ _; exact List.Pairwise.nil
    | cons e es ih =>
      intro hin hr
      rw [rises_cons] at hr
      rw [nbL, List.pairwise_append]
      refine ⟨?_, ih (fun x hx => hin x (by simp [hx])) hr.2, fun o ho o' ho' => ?_⟩
      · unfold other
        by_cases h1 : e.1 = v
        · rw [if_pos h1]; simp
        · rw [if_neg h1]
          by_cases h2 : e.2 = v
          · rw [if_pos h2]; simp
          · rw [if_neg h2]; simp
      · obtain ⟨f, hf, ho'⟩ := nbL_mem.1 ho'
        have hlt := hr.1 f hf
        rw [ltE_iff] at hlt
        have i1 := hin e (by simp)
        have i2 := hin f (by simp [hf])
        rcases other_mem.1 ho with ⟨h1, h2⟩ | ⟨h0, h1, h2⟩ <;> rcases other_mem.1 ho' with ⟨h3, h4⟩ | ⟨h3, h4, h5⟩ <;> omega
  exact key es h.2.2.2.1 h.2.2.2.2
end Go.Proofs.Ytlebimolgienkaa
namespace Go.Proofs.Ytlebimolgienkaa
open Go.RowKit Go.Lib Go.Shelf
attribute [local go_sem] Oper.semAt_some

theorem mem_stop {L pre : List Int} {x y : Int} (hL : L.Pairwise (· < ·)) (hp : pre ++ [x] <+: L) (hlt : ∀ z ∈ pre, z < y) (hx : y ≤ x) : (x == y) = decide (y ∈ L) := by
  obtain ⟨r, rfl⟩ := hp
  rw [List.append_assoc] at hL
  have h2 := (List.pairwise_append.1 hL).2.1
  rw [List.singleton_append, List.pairwise_cons] at h2
  rw [Bool.eq_iff_iff, beq_iff_eq, decide_eq_true_eq]
  constructor
  · rintro rfl; simp
  · intro hy
    rw [List.append_assoc] at hy
    rcases List.mem_append.1 hy with hy | hy
    · have := hlt y hy; omega
    · rcases List.mem_append.1 hy with hy | hy
      · simp at hy; exact hy.symm
      · have := h2.1 y hy; omega

theorem alloc_at {w : World} {o : Obj} {k : Nat} (h : k < w.heap.size) : (w.alloc o).heap[k]? = w.heap[k]? := Below.heap_alloc _ _ _ h
theorem five_new (w : World) (o1 o2 o3 o4 o5 : Obj) : ∃ W0, W0 = ((((w.alloc o1).alloc o2).alloc o3).alloc o4).alloc o5 ∧ W0.heap.size = w.heap.size + 1 + 1 + 1 + 1 + 1 ∧ W0.heap[w.heap.size + 1]? = some o2 ∧ W0.heap[w.heap.size + 1 + 1]? = some o3 ∧ W0.heap[w.heap.size + 1 + 1 + 1]? = some o4 ∧ W0.heap[w.heap.size + 1 + 1 + 1 + 1]? = some o5 ∧ Below w.heap.size w W0 := by
  have s1 : (w.alloc o1).heap.size = w.heap.size + 1 := by simp
  have s2 : ((w.alloc o1).alloc o2).heap.size = w.heap.size + 1 + 1 := by simp
  have s3 : (((w.alloc o1).alloc o2).alloc o3).heap.size = w.heap.size + 1 + 1 + 1 := by simp
  have s4 : ((((w.alloc o1).alloc o2).alloc o3).alloc o4).heap.size = w.heap.size + 1 + 1 + 1 + 1 := by simp
  refine ⟨_, rfl, by simp, ?_, ?_, ?_, ?_, ?_⟩
  · rw [alloc_at (by omega), alloc_at (by omega), alloc_at (by omega), ← s1]; exact heap_alloc_new _ _
  · rw [alloc_at (by omega), alloc_at (by omega), ← s2]; exact heap_alloc_new _ _
  · rw [alloc_at (by omega), ← s3]; exact heap_alloc_new _ _
  · rw [← s4]; exact heap_alloc_new _ _
  · exact (((((Below.refl _ _).alloc (Nat.le_refl _) _).alloc (by omega) _).alloc (by omega) _).alloc (by omega) _).alloc (by omega) _

set_option maxRecDepth 100000 in
set_option maxHeartbeats 2000000 in
theorem has_any (n : Int) (a : Option Addr) (cap : Nat) (es : List (Int × Int)) (x y : Int) (b : Bool) (L : List Int) (w : World) (hN : es.length ≤ 1000000) (hE : EAt w a es) (hb : b = true ↔ RightG n es) (hL : L = if b = true then nbL x es else []) :
    Calls Try.prog 65 #[.agg #[.int .i64 n, .slice a es.length cap], .int .i64 x, .int .i64 y] w fun e w' => e = .returned (.bool (decide (y ∈ L))) ∧ Below w.heap.size w w' := by
  have HLR : Hid (L.Pairwise (· < ·)) := by
    show L.Pairwise (· < ·)
    rw [hL]
    cases b with
    | false => exact List.Pairwise.nil
    | true => exact nbL_rises (hb.1 rfl)
  refine (callsIn_wide (n := 6)).1 ?_
  refine callsIn_of_wp_marks Try.func65 rfl trivial ?_ rfl
  simp only [Try.ntmps65, List.size_toArray, List.length_cons, List.length_nil, Nat.reduceAdd, Nat.reduceSub, Array.replicate_succ, Array.replicate_zero, List.push_toArray, List.append_toArray, List.nil_append, List.cons_append]
  gi_wp2_with fail
  refine ⟨trivial, ?_⟩
  refine (callsIn_wide.2 (neighbours_any _ n a es.length cap x _ rfl)).mono ?_
  rintro e w' ⟨rfl, rfl⟩
  gi_wp2_with fail
  obtain ⟨W0, hW0, hsz, o2, o3, o4, o5, hB0⟩ := five_new w (.cells #[.int .i64 n, .slice a es.length cap] 26) (.cells #[.int .i64 y] 3) (.cells #[.bool false] 4) (.cells #[.int .i64 n, .slice a es.length cap] 26) (.cells #[.int .i64 x] 3)
  rw [← hW0]
  clear hW0
  have y0 : W0.cell? ⟨w.heap.size + 1, 0, none⟩ = some (.int .i64 y) := cell_of_heap o2 0
  have r0 : W0.cell? ⟨w.heap.size + 1 + 1, 0, none⟩ = some (.bool false) := cell_of_heap o3 0
  have rf := frozen_of_heap o3 0
  have hE0 : EAt W0 a es := hE.below hB0
  refine wpIn_rangeFunc_ownF rfl (by omega) (gf := 122) (lb := #[.pointer (some ⟨w.heap.size + 1 + 1 + 1, 0, none⟩), .pointer (some ⟨w.heap.size + 1 + 1 + 1 + 1, 0, none⟩)]) rfl trivial (enters_of Try.func122 (by kernel_rfl) rfl)
    (nb_stops 5 (by omega) (w.heap.size + 1 + 1 + 1) (w.heap.size + 1 + 1 + 1 + 1) W0.heap.size n x a cap es b L hL hN hb W0 (Nat.le_refl _) (by omega) (by omega) (cell_of_heap o4 0) (cell_of_heap o4 1) (cell_of_heap o5 0) hE0 hE0.lt) kpE_t (kpE_b (Nat.le_refl _)) (Below.refl _ _) (fun _ => rfl)
    (fun pre W => ((∀ z ∈ pre, z < y) ∧ W.cell? ⟨w.heap.size + 1, 0, none⟩ = some (.int .i64 y) ∧ W.cell? ⟨w.heap.size + 1 + 1, 0, none⟩ = some (.bool false) ∧ W.frozen? ⟨w.heap.size + 1 + 1, 0, none⟩ = false) ∧ Below w.heap.size w W)
    (fun c pre W => (c = .ret ∧ (∃ pre' z, pre = pre' ++ [z] ∧ (∀ u ∈ pre', u < y) ∧ y ≤ z ∧ W.cell? ⟨w.heap.size + 1 + 1, 0, none⟩ = some (.bool (z == y)))) ∧ Below w.heap.size w W)
    (OwnFrom.and (Own.from (fun s A B row hs hg hr => ⟨hs.1, cell_kept hs.2.1 hg hr, cell_kept hs.2.2.1 hg hr, (frozen_kept hs.2.2.1 hg hr).trans hs.2.2.2⟩) _) (ownFrom_below (Nat.le_refl _) (by omega)))
    (fun c => OwnFrom.and (Own.from (fun s A B row hs hg hr => ⟨hs.1, by obtain ⟨p, z, h1, h2, h3, h4⟩ := hs.2; exact ⟨p, z, h1, h2, h3, cell_kept h4 hg hr⟩⟩) _) (ownFrom_below (Nat.le_refl _) (by omega)))
    ⟨⟨by simp, y0, r0, rf⟩, hB0⟩
    (fun z => { tmps := #[.agg #[.int .i64 n, .slice a es.length cap], .int .i64 x, .int .i64 y, .pointer (some ⟨w.heap.size, 0, none⟩), undef, .pointer (some ⟨w.heap.size + 1, 0, none⟩), .pointer (some ⟨w.heap.size + 1 + 1, 0, none⟩), .int .i64 z, .agg #[.int .i64 n, .slice a es.length cap], .int .i64 x, .func (.func 122) #[] #[.pointer (some ⟨w.heap.size + 1 + 1 + 1, 0, none⟩), .pointer (some ⟨w.heap.size + 1 + 1 + 1 + 1, 0, none⟩)], .int .i64 z, undef, undef, undef, undef, undef, undef], defers := [] }) ?assign ?body ?done ?stop
  case assign =>
    intro l x W K hK
    gi_wp2
    exact hK
  case body =>
    rintro l pre z W ⟨⟨hp, hcy, hcr, hfr⟩, hB⟩ _
    by_cases hz : y ≤ z
    · gi_wp2
      exact ⟨KeepsOthers.setCell _ _ _, ⟨rfl, pre, z, rfl, hp, hz, World.cell?_setCell_same' _ _ _ (by rw [hcr]; rfl)⟩, hB.setCell (p := ⟨w.heap.size + 1 + 1, 0, none⟩) (by simp; omega) _⟩
    · gi_wp2
      exact ⟨KeepsOthers.refl _, kpE_refl _ _, ⟨fun u hu => (List.mem_append.1 hu).elim (hp u) (fun e => by simp at e; omega), hcy, hcr, hfr⟩, hB⟩
  case done =>
    rintro D ys W hD rfl ⟨⟨hne, _, hcr, hfr⟩, hB⟩ hK
    gi_wp2
    have hK' := (KeepsOthers.setCell W ⟨w.heap.size + 1 + 1, 0, none⟩ (.bool false)).same D _ hK rfl
    refine ⟨by simp, .inl ⟨_, _, rfl, run_takeDeferred hK', ?_⟩⟩
    have hc5 := cell_kept (World.cell?_setCell_same' W ⟨w.heap.size + 1 + 1, 0, none⟩ (.bool false) (by rw [hcr]; rfl)) (grownBy_putObj' _ D (.deferred none)) (fun r e => by cases e; exact ⟨_, hK', rfl⟩)
    refine ⟨.bool false, ?_, by rw [decide_eq_false (fun h => absurd (hne y h) (by omega))], (hB.setCell (p := ⟨w.heap.size + 1 + 1, 0, none⟩) (by simp; omega) _).trans (belowK_b (w := w) (Nat.le_refl _) _ D _ _ (by omega) hK' rfl rfl)⟩
    simp [results, Try.f65, go_sem, hc5]
  case stop =>
    rintro D c pre W hD hpre ⟨⟨rfl, p', z, rfl, hlt, hz, hcr⟩, hB⟩ hK
    rw [mem_stop HLR.out hpre hlt hz] at hcr
    gi_wp2
    refine ⟨by simp, .inl ⟨_, _, rfl, run_takeDeferred hK, ?_⟩⟩
    have hc5 := cell_kept hcr (grownBy_putObj' _ D (.deferred none)) (fun r e => by cases e; exact ⟨_, hK, rfl⟩)
    refine ⟨.bool (decide (y ∈ L)), ?_, rfl, hB.trans (belowK_b (w := w) (Nat.le_refl _) W D _ _ (by omega) hK rfl rfl)⟩
    simp [results, Try.f65, go_sem, hc5]
end Go.Proofs.Ytlebimolgienkaa
namespace Go.Proofs.Ytlebimolgienkaa
open Go.RowKit Go.Lib Go.Shelf
attribute [local go_sem] Oper.semAt_some

/-- A row of numbers in memory. -/
def IAt (w : World) (a : Option Addr) (xs : List Int) : Prop :=
  0 < xs.length → ∃ g off, a = some ⟨g, off, none⟩ ∧ g < w.heap.size ∧ ∀ k (hk : k < xs.length), w.cell? ⟨g, off + k, none⟩ = some (.int .i64 xs[k])
theorem iat_nil (w : World) (a : Option Addr) : IAt w a [] := fun h => absurd h (by simp)
theorem IAt.below {w w' : World} {a : Option Addr} {xs : List Int} (h : IAt w a xs) (hb : Below w.heap.size w w') : IAt w' a xs := by
  intro h0
  obtain ⟨g, off, ha, hg, hc⟩ := h h0
  exact ⟨g, off, ha, Nat.lt_of_lt_of_le hg hb.size, fun k hk => (hb.cell (p := ⟨g, off + k, none⟩) hg).trans (hc k hk)⟩
theorem iat_own {w : World} {base : Nat} {e : TypeId} {v : Value} {xs : List Int} (h : w.ownsRow base e 1 v xs.length (xs.map (Value.int .i64))) : ∃ a cap, v = .slice a xs.length cap ∧ IAt w a xs := by
  by_cases hn : 0 < xs.length
  · obtain ⟨g, cap, hv, hb, hg, hc, hcs⟩ := own_row h hn
    exact ⟨_, cap, hv, fun _ => ⟨g, 0, rfl, hg, fun k hk => by rw [Nat.zero_add]; exact hcs k _ (by rw [List.getElem?_map, List.getElem?_eq_getElem hk]; rfl)⟩⟩
  · rcases h.2 with ⟨hv, h0⟩ | ⟨g, cap, cur, hv, _, _, hc, _⟩
    · exact ⟨none, 0, by rw [hv, h0], fun h => absurd h hn⟩
    · exact ⟨_, cap, hv, fun h => absurd h hn⟩

theorem new_two (w : World) (o1 o2 : Obj) : ∃ W0, W0 = (w.alloc o1).alloc o2 ∧ W0.heap.size = w.heap.size + 1 + 1 ∧ W0.heap[w.heap.size]? = some o1 ∧ W0.heap[w.heap.size + 1]? = some o2 ∧ Below w.heap.size w W0 := by
  have s1 : (w.alloc o1).heap.size = w.heap.size + 1 := by simp
  refine ⟨_, rfl, by simp, ?_, ?_, ((Below.refl _ _).alloc (Nat.le_refl _) _).alloc (by omega) _⟩
  · rw [alloc_at (by omega)]; exact heap_alloc_new _ _
  · rw [← s1]; exact heap_alloc_new _ _

end Go.Proofs.Ytlebimolgienkaa
namespace Go.Proofs.Ytlebimolgienkaa
open Go.RowKit Go.Lib

/-- A row of numbers that may be written, place by place. -/
def Row1 (w : World) (g n : Nat) (c : Nat → Int) : Prop := g < w.heap.size ∧ ∀ j, j < n → w.cell? ⟨g, j, none⟩ = some (.int .i64 (c j)) ∧ w.frozen? ⟨g, j, none⟩ = false
theorem Row1.put {w : World} {g n : Nat} {c : Nat → Int} (h : Row1 w g n c) {i : Nat} (hi : i < n) (x : Int) : Row1 (w.setCell ⟨g, i, none⟩ (.int .i64 x)) g n (fun j => if j = i then x else c j) := by
  refine ⟨by simpa using h.1, fun j hj => ?_⟩
  obtain ⟨a, fa⟩ := h.2 j hj
  simp only [World.frozen?_setCell]
  refine ⟨?_, fa⟩
  by_cases e : j = i
  · subst e
    rw [if_pos rfl]
    exact World.cell?_setCell_same' _ _ _ (by rw [a]; rfl)
  · rw [if_neg e, World.cell?_setCell_other _ _ _ _ (by simp <;> omega)]
    exact a
theorem Row1.alloc {w : World} {g n : Nat} {c : Nat → Int} (h : Row1 w g n c) (o : Obj) : Row1 (w.alloc o) g n c := by
  have hB : Below w.heap.size w (w.alloc o) := (Below.refl _ _).alloc (Nat.le_refl _) _
  refine ⟨Nat.lt_of_lt_of_le h.1 hB.size, fun j hj => ⟨(hB.cell (p := ⟨g, j, none⟩) h.1).trans (h.2 j hj).1, ?_⟩⟩
  rw [← (h.2 j hj).2]
  unfold World.frozen?
  rw [hB.block g h.1]
theorem Row1.iat {w : World} {g n : Nat} {c : Nat → Int} (h : Row1 w g n c) : IAt w (some ⟨g, 0, none⟩) ((List.range n).map c) := fun _ =>
  ⟨g, 0, rfl, h.1, fun k hk => by
    have hk' : k < n := by simpa using hk
    rw [Nat.zero_add, (h.2 k hk').1]
    simp⟩

theorem Row1.congr {w : World} {g n : Nat} {c d : Nat → Int} (h : Row1 w g n c) (e : ∀ j, j < n → c j = d j) : Row1 w g n d := ⟨h.1, fun j hj => by rw [← e j hj]; exact h.2 j hj⟩
theorem made_ints (n : Nat) : (madeCells (Value.int .i64 0).cells (n * 1)).toList = List.replicate n (.int .i64 0) := by
  apply List.ext_getElem
  · simp [madeCells]
  · intro i h1 h2
    simp [madeCells, Value.cells, Nat.mod_one]
theorem row1_made {w : World} {base g n : Nat} {e : TypeId} (h : w.ownsRow base e 1 (.slice (some ⟨g, 0, none⟩) n n) n (madeCells (Value.int .i64 0).cells (n * 1)).toList) (hg : g < w.heap.size) : Row1 w g n (fun _ => 0) := by
  rw [made_ints] at h
  refine ⟨hg, fun j hj => ?_⟩
  rcases h.2 with ⟨hv, _⟩ | ⟨g', cap, cur, hv, _, hgb, _⟩
  · simp at hv
  · simp only [Value.slice.injEq, Option.some.injEq, Addr.mk.injEq, and_true, true_and] at hv
    obtain ⟨rfl, _⟩ := hv
    have := h.cells (g := g) rfl j (.int .i64 0) (by rw [List.getElem?_replicate, if_pos hj])
    rw [add_at, Nat.zero_add] at this
    exact ⟨this, frozen_of_heap hgb _⟩
/-- What one edge more makes of the degrees. -/
theorem deg_next {es : List (Int × Int)} {k p q : Nat} {m : Nat} (hk : k < es.length) (h1 : (p : Int) = es[k].1) (h2 : (q : Int) = es[k].2) (hpq : p < q) : ∀ j, j < m →
    (if j = q then ((nbL (q : Int) (es.take k)).length : Int) + 1 else if j = p then ((nbL (p : Int) (es.take k)).length : Int) + 1 else ((nbL (j : Int) (es.take k)).length : Int)) = ((nbL (j : Int) (es.take (k + 1))).length : Int) := by
  intro j _
  rw [nbL_take hk, List.length_append]
  unfold other
  rw [← h1, ← h2]
  by_cases e1 : j = q
  · subst e1
    rw [if_pos rfl, if_neg (by omega), if_pos rfl]; simp
  · rw [if_neg e1]
    by_cases e2 : j = p
    · subst e2
      rw [if_pos rfl, if_pos rfl]; simp
    · rw [if_neg e2, if_neg (by omega), if_neg (by omega)]; simp

end Go.Proofs.Ytlebimolgienkaa
namespace Go.Proofs.Ytlebimolgienkaa
open Go.RowKit Go.Lib

/-- A variable that holds a graph. -/
def GBox (w : World) (b : Nat) (n : Int) (sv : Value) : Prop := w.heap[b]? = some (.cells #[.int .i64 n, sv] 26)
theorem GBox.lt {w : World} {b : Nat} {n : Int} {sv : Value} (h : GBox w b n sv) : b < w.heap.size := (Array.getElem?_eq_some_iff.1 h).1
theorem GBox.on {w w' : World} {b : Nat} {n : Int} {sv : Value} (h : GBox w b n sv) (hb : Below w.heap.size w w') : GBox w' b n sv := (hb.block b h.lt).trans h
theorem GBox.cells {w : World} {b : Nat} {n : Int} {sv : Value} (h : GBox w b n sv) : w.cell? ⟨b, 0, none⟩ = some (.int .i64 n) ∧ w.cell? ⟨b, 1, none⟩ = some sv := ⟨cell_of_heap h 0, cell_of_heap h 1⟩
theorem GBox.new (w : World) (n : Int) (sv : Value) : GBox (w.alloc (.cells #[.int .i64 n, sv] 26)) w.heap.size n sv := heap_alloc_new _ _
theorem eat_new (w : World) (es : List (Int × Int)) (cs : Array Value) (hcs : cs = (cellsE es).toArray) : EAt (w.alloc (.cells cs 56)) (some ⟨w.heap.size, 0, none⟩) es := by
  subst hcs
  refine eat_of_cells (by simp) (fun j u hu => ?_)
  rw [Nat.zero_add, cell_of_heap (heap_alloc_new _ _)]
  simpa using hu

end Go.Proofs.Ytlebimolgienkaa
namespace Go.Proofs.Ytlebimolgienkaa
open Go.RowKit Go.Lib

/-- A variable holds a graph whose edges lie in memory. -/
structure GC (w : World) (b : Nat) (n : Int) (a : Option Addr) (k cap : Nat) (es : List (Int × Int)) : Prop where
  n0 : w.cell? ⟨b, 0, none⟩ = some (.int .i64 n)
  e0 : w.cell? ⟨b, 1, none⟩ = some (.slice a k cap)
  at_ : EAt w a es
theorem GC.on {w w' : World} {b : Nat} {n : Int} {a : Option Addr} {k cap : Nat} {es : List (Int × Int)} (h : GC w b n a k cap es) (hb : Below w.heap.size w w') : GC w' b n a k cap es :=
  ⟨(hb.cell (block_lt_of_cell h.n0)).trans h.n0, (hb.cell (block_lt_of_cell h.e0)).trans h.e0, h.at_.below hb⟩
theorem GC.cells {w : World} {b : Nat} {n : Int} {a : Option Addr} {k cap : Nat} {es : List (Int × Int)} (h : GC w b n a k cap es) : w.cell? ⟨b, 0, none⟩ = some (.int .i64 n) ∧ w.cell? ⟨b, 1, none⟩ = some (.slice a k cap) := ⟨h.n0, h.e0⟩
theorem hid {p : Prop} (h : p) : Hid p := h
end Go.Proofs.Ytlebimolgienkaa
namespace Go.Proofs.Ytlebimolgienkaa
open Go.ChangeShapes Go.WideShapes Go.ChangeAt Go.RowKit Go.Deep Go.WideMaps

/-- What a walk is told of edges that came in. -/
structure Came (w : World) (a : Option Addr) (len cap : Nat) (l : List (Int × Int)) : Prop where
  len_ : len = l.length
  le : len ≤ cap
  max : cap ≤ maxLen
  nil : a = none → cap = 0
  at_ : EAt w a l

section
variable {H : Type} {enc : TypeId × Value → H}

set_option maxRecDepth 100000 in
theorem open_edges {W : World} {base : Nat} {held : Bool} {fuel : Nat} {cs : List Value} {x : DataW H × List MemPlace} (h : DataW.trod enc Try.prog W base (fun _ => true) held fuel 22 cs = some x) :
    ∃ a len cap l, cs = [.slice a len cap] ∧ Came W a len cap l := by
  rcases open_slice_pairs Try.underlying22 Try.underlying56 (by kernel_rfl) rfl rfl (by kernel_rfl) (by kernel_rfl) h with ⟨hcs, _⟩ | ⟨a, len, cap, m, n, V0, V1, D0, D1, P0, P1, hcs, _, hl, hm, hmm, _, hx⟩
  · exact ⟨none, 0, 0, [], hcs, rfl, Nat.le_refl _, Nat.zero_le _, fun _ => rfl, eat_nil _ _⟩
  · rw [if_pos rfl] at hmm
    subst hmm
    have hint : ∀ i, i < m → ∃ p q : Int, W.cell? (a.add (i * 2)) = some (.int .i64 p) ∧ W.cell? (a.add (i * 2 + 1)) = some (.int .i64 q) := fun i hi => by
      obtain ⟨c0, c1, t0, t1⟩ := hx i hi
      obtain ⟨p, e0, _⟩ := DataW.trod_int Try.underlying3 t0
      obtain ⟨q, e1, _⟩ := DataW.trod_int Try.underlying3 t1
      simp only [List.cons.injEq, and_true] at e0 e1
      exact ⟨p, q, by rw [c0, e0], by rw [c1, e1]⟩
    obtain ⟨p, hp⟩ : ∃ p : Nat → Int, ∀ i, i < m → ∃ q, W.cell? (a.add (i * 2)) = some (.int .i64 (p i)) ∧ W.cell? (a.add (i * 2 + 1)) = some (.int .i64 q) :=
      ⟨fun i => if h : i < m then (hint i h).choose else 0, fun i hi => by simp only [dif_pos hi]; exact (hint i hi).choose_spec⟩
    obtain ⟨q, hq⟩ : ∃ q : Nat → Int, ∀ i, i < m → W.cell? (a.add (i * 2)) = some (.int .i64 (p i)) ∧ W.cell? (a.add (i * 2 + 1)) = some (.int .i64 (q i)) :=
      ⟨fun i => if h : i < m then (hp i h).choose else 0, fun i hi => by simp only [dif_pos hi]; exact (hp i hi).choose_spec⟩
    refine ⟨some a, len, m, (List.range len).map (fun i => (p i, q i)), hcs, by simp, hl, hm, (fun h => by cases h), fun h0 => ?_⟩
    have h1 : 0 < len := by simpa using h0
    obtain ⟨b, off, spot⟩ := a
    have hs : spot = none := by simpa [Addr.add] using World.cell?_spot (hq 0 (by omega)).1
    subst hs
    refine ⟨b, off, rfl, World.block_lt_of_cell? W _ (hq 0 (by omega)).1, fun j hj => ?_⟩
    have hj' : j < len := by simpa using hj
    obtain ⟨z0, z1⟩ := hq j (by omega)
    rw [add_at] at z0 z1
    simp only [List.getElem_map, List.getElem_range]
    exact ⟨z0, by rw [← Nat.add_assoc] at z1; exact z1⟩

theorem Try.ends : ArrKey Try.prog 62 3 2 := ⟨Try.underlying62, by kernel_rfl, by kernel_rfl, by kernel_rfl⟩
end
end Go.Proofs.Ytlebimolgienkaa
