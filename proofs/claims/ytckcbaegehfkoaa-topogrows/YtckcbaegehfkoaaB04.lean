/-
  slices.Compact at edges, walked; graph.eachOnce.
  graph.Normal: the edges that were told, in order, each once.
  graph.neighbours, and the closure that it hands back: which vertices come, in which order.
  graph.Has: are two vertices neighbours?
  graph.Near: the neighbours of a vertex; slices.Collect and slices.AppendSeq walked.
  graph.Degrees: of each vertex how many neighbours it has.
  carcanetlaw03.shown answers true.
  A graph in a variable; what the laws of a raw graph do first: a copy of its first five hundred edges.
  Edges, a graph and two numbers that came in, as the walks take them.
  Rows of numbers, lists of rows, and a Net that came in, as the walks of layer 5 take them.
-/
import Derived.Test.YtckcbaegehfkoaaB03
import Derived.Test.YtckcbaegehfkoaaB01
import Derived.RangeFuncNested
import Derived.RangeFuncBound
import Derived.RangeFuncCalls
import Derived.RangeFuncLeaves
import Derived.RangeFuncBox
import Derived.Shelf.Abstract
import Derived.Shelf.RegionOpen
import Derived.OwnWalkIn
import Derived.TacticsInMore
import Derived.LoopNIn
import Derived.LoopIn
import Derived.Maps.AppendAt
import Derived.Deep.SlicePairs
import Derived.WideKeyPair
import Derived.OpenShut
import Derived.ProofKit
import Derived.Deep.Slices
import Derived.ChangeSlices
namespace Go.Proofs.Ytckcbaegehfkoaa
open Go.RowKit Go.Lib Go.Sort

theorem below_setCells {base b : Nat} (hb : base ≤ b) : ∀ (vs : List Value) (o : Nat) (w : World), Below base w (w.setCells b o vs)
  | [], _, _ => Below.refl _ _
  | v :: vs, o, w => ((Below.refl base w).setCell (p := ⟨b, o, none⟩) hb v).trans (below_setCells hb vs (o + 1) _)

set_option maxHeartbeats 4000000 in
set_option maxRecDepth 1000000 in
theorem compact_any (g n cap base : Nat) (c : Nat → Int × Int) (w : World) (hb : base ≤ g) (h : Row2 w g n c) (hn : n ≤ 1000000) (hcap : n ≤ cap) (hs : ∀ i j, i < j → j < n → ltE (c j) (c i) = false) :
    Calls Try.prog 54 #[.slice (some ⟨g, 0, none⟩) n cap] w fun e w' => ∃ K c', e = .returned (.slice (some ⟨g, 0, none⟩) K cap) ∧ K ≤ n ∧ EAt w' (some ⟨g, 0, none⟩) (lst c' K) ∧ Rises (lst c' K) ∧ (∀ x, x ∈ lst c' K ↔ x ∈ lst c n) ∧ Below base w w' := by
  have HR : Hid (Row2 w g n c) := h
  have HS : Hid (∀ i j, i < j → j < n → ltE (c j) (c i) = false) := hs
  clear h hs
  by_cases h2 : n < 2
  · go_enter Try.func54, Try.ntmps54
    go_wp2
    go_ret
    exact ⟨n, c, rfl, Nat.le_refl _, HR.out.eat (Nat.le_refl _), rise_small c h2, fun _ => Iff.rfl, Below.refl _ _⟩
  go_enter Try.func54, Try.ntmps54
  go_wp2
  go_loopg [3] n (fun G v wr => ∃ m : Nat, m + 1 ≤ n ∧ n - (m + 1) ≤ G ∧ v = .int .i64 (m + 1) ∧ Hid (Row2 wr g n c) ∧ Below base w wr ∧ Hid (Rises (lst c (m + 1))))
  case atStart => exact ⟨0, by omega, by omega, by go_num, HR, Below.refl _ _, rise_small c (by omega)⟩
  case round =>
    obtain ⟨m, hm, hG, rfl, hrow, hbr, hri⟩ := hrel
    by_cases hlt : m + 1 < n
    · obtain ⟨⟨a0, _⟩, a1, _⟩ := hrow.out.2 (m + 1) hlt
      obtain ⟨⟨b0, _⟩, b1, _⟩ := hrow.out.2 m (by omega)
      have hso := same_or (c (m + 1)) (c m)
      obtain ⟨x1, hx1⟩ := ex_eq (c (m + 1)).1
      obtain ⟨x2, hx2⟩ := ex_eq (c (m + 1)).2
      obtain ⟨y1, hy1⟩ := ex_eq (c m).1
      obtain ⟨y2, hy2⟩ := ex_eq (c m).2
      rw [← hx1] at a0
      rw [← hx2] at a1
      rw [← hy1] at b0
      rw [← hy2] at b1
      rw [← hx1, ← hx2, ← hy1, ← hy2] at hso
      have HXY : Hid (x1 = (c (m + 1)).1 ∧ x2 = (c (m + 1)).2 ∧ y1 = (c m).1 ∧ y2 = (c m).2) := ⟨hx1, hx2, hy1, hy2⟩
      clear hx1 hx2 hy1 hy2
      have q0 : (m : Int) < (n : Int) := by omega
      rcases hso with ⟨e1, e2⟩ | hne
      · subst e1 e2
        have HM : Hid (Made c c (m + 1) (m + 1 + 1)) := made_start hri.out (by
          obtain ⟨h1, h2, h3, h4⟩ := HXY.out
          exact Prod.ext (h1.symm.trans h3) (h2.symm.trans h4))
        go_wp2
        go_quiet (fail)
        go_wp2
        clear a0 a1 b0 b1 HXY
        go_loopg [3, 5] n (fun G2 v3 v5 wr => ∃ (K k2 : Nat) (c' : Nat → Int × Int), v3 = .int .i64 K ∧ v5 = .int .i64 (k2 + 1) ∧ m + 1 + (k2 + 1) ≤ n ∧ n - (m + 1 + (k2 + 1)) ≤ G2 ∧ K ≤ m + 1 + k2 ∧ Hid (Row2 wr g n c') ∧ Below base w wr ∧ Hid (Made c c' K (m + 1 + k2 + 1)))
        case atStart => exact ⟨m + 1, 0, c, by go_num, by go_num, by omega, by omega, by omega, hrow.out.drewN _, below_drewN hbr _, HM⟩
        case round =>
          obtain ⟨K, k2, c', rfl, rfl, hT, hG2, hK, hrow2, hbr2, hmade⟩ := hrel
          by_cases hlt2 : m + 1 + (k2 + 1) < n
          · obtain ⟨⟨a0, _⟩, a1, _⟩ := hrow2.out.2 (m + 1 + (k2 + 1)) hlt2
            obtain ⟨⟨b0, _⟩, b1, _⟩ := hrow2.out.2 (m + 1 + k2) (by omega)
            obtain ⟨⟨k0, f0⟩, k1, f1⟩ := hrow2.out.2 K (by omega)
            rw [hmade.out.high _ (by omega)] at a0 a1 b0 b1
            have hso := same_or (c (m + 1 + (k2 + 1))) (c (m + 1 + k2))
            obtain ⟨x1, hx1⟩ := ex_eq (c (m + 1 + (k2 + 1))).1
            obtain ⟨x2, hx2⟩ := ex_eq (c (m + 1 + (k2 + 1))).2
            obtain ⟨y1, hy1⟩ := ex_eq (c (m + 1 + k2)).1
            obtain ⟨y2, hy2⟩ := ex_eq (c (m + 1 + k2)).2
            rw [← hx1] at a0
            rw [← hx2] at a1
            rw [← hy1] at b0
            rw [← hy2] at b1
            rw [← hx1, ← hx2, ← hy1, ← hy2] at hso
            have HXY : Hid (x1 = (c (m + 1 + (k2 + 1))).1 ∧ x2 = (c (m + 1 + (k2 + 1))).2 ∧ y1 = (c (m + 1 + k2)).1 ∧ y2 = (c (m + 1 + k2)).2) := ⟨hx1, hx2, hy1, hy2⟩
            rw [show (m + 1 + (k2 + 1)) * 2 = (m + 1) * 2 + (k2 + 1) * 2 by omega] at a0 a1
            rw [show (m + 1 + k2) * 2 = (m + 1) * 2 + k2 * 2 by omega] at b0 b1
            clear hx1 hx2 hy1 hy2
            have q1 : (k2 : Int) + 1 < ((n - (m + 1) : Nat) : Int) := by omega
            have q2 : (k2 : Int) < ((n - (m + 1) : Nat) : Int) := by omega
            have q3 : (K : Int) < (n : Int) := by omega
            obtain ⟨N2, hN2⟩ := ex_eq (n - (m + 1))
            rcases hso with ⟨e1, e2⟩ | ⟨e1, e2⟩ | e1
            · subst e1 e2
              have HM2 : Hid (Made c c' K (m + 1 + (k2 + 1) + 1)) := made_skip hmade.out (by
                obtain ⟨h1, h2, h3, h4⟩ := HXY.out
                exact Prod.ext (h1.symm.trans h3) (h2.symm.trans h4))
              go_wp2
              go_quiet (fail)
              go_wp2
              go_roundg (n - (m + 1 + (k2 + 1 + 1)))
              case measure => omega
              case rel => exact ⟨K, k2 + 1, c', rfl, by go_num, by omega, by omega, by omega, hrow2.out.drewN _, below_drewN hbr2 _, HM2⟩
            all_goals
              have HM2 : Hid (Made c (fun j => if j = K then c (m + 1 + (k2 + 1)) else c' j) (K + 1) (m + 1 + (k2 + 1) + 1)) := made_put hmade.out HS.out hlt2 (fun e => by
                obtain ⟨h1, h2, h3, h4⟩ := HXY.out
                have g1 : x1 = y1 := by rw [h1, h3]; exact congrArg Prod.fst e
                have g2 : x2 = y2 := by rw [h2, h4]; exact congrArg Prod.snd e
                first
                  | (rw [g2] at e2; simp at e2)
                  | (rw [g1] at e1; simp at e1))
              have HRP : Hid (∀ W, Row2 W g n c' → Row2 ((W.setCell ⟨g, K * 2, none⟩ (.int .i64 x1)).setCell ⟨g, K * 2 + 1, none⟩ (.int .i64 x2)) g n (fun j => if j = K then c (m + 1 + (k2 + 1)) else c' j)) := fun W hW => by
                have := hW.put (i := K) (by omega) (c (m + 1 + (k2 + 1)))
                obtain ⟨h1, h2, _⟩ := HXY.out
                rwa [← h1, ← h2] at this
              try subst e1
              go_wp2
              go_quiet (fail)
              go_wp2
              go_roundg (n - (m + 1 + (k2 + 1 + 1)))
              case measure => omega
              case rel => exact ⟨K + 1, k2 + 1, _, by go_num, by go_num, by omega, by omega, by omega, HRP.out _ (hrow2.out.drewN _), ((below_drewN hbr2 _).setCell (p := ⟨g, K * 2, none⟩) hb _).setCell (p := ⟨g, K * 2 + 1, none⟩) hb _, HM2⟩
          · have hend : n = m + 1 + k2 + 1 := by omega
            obtain ⟨vs, hvl, hcl⟩ := run_clear_edges wr g (K * 2) (n - K) (cap - K) (by omega) (fun j hj => by
              have := hrow2.out.2 (K + j / 2) (by omega)
              rcases Nat.mod_two_eq_zero_or_one j with h0 | h0
              · rw [show K * 2 + j = (K + j / 2) * 2 by omega, this.1.1]; rfl
              · rw [show K * 2 + j = (K + j / 2) * 2 + 1 by omega, this.2.1]; rfl) (fun j hj => by
              have := hrow2.out.2 (K + j / 2) (by omega)
              rcases Nat.mod_two_eq_zero_or_one j with h0 | h0
              · rw [show K * 2 + j = (K + j / 2) * 2 by omega]; exact this.1.2
              · rw [show K * 2 + j = (K + j / 2) * 2 + 1 by omega]; exact this.2.2)
            have HVL : Hid (vs.length = (n - K) * 2) := hvl
            have HEND : Hid (n = m + 1 + k2 + 1) := hend
            have hT' : n ≤ m + 1 + (k2 + 1) := by omega
            have q1 : ((n - (m + 1) : Nat) : Int) ≤ (k2 : Int) + 1 := by omega
            have q2 : K ≤ n := by omega
            clear hvl hend
            go_wp2
            go_ret
            refine ⟨K, c', rfl, by omega, ?_, hmade.out.rises, ?_, hbr2.trans (below_setCells hb _ _ _)⟩
            · have hE := hrow2.out.eat q2
              intro h0
              obtain ⟨g', off', e, hg', hc⟩ := hE h0
              simp only [Option.some.injEq, Addr.mk.injEq, and_true] at e
              obtain ⟨rfl, rfl⟩ := e
              refine ⟨g, 0, rfl, Nat.lt_of_lt_of_le hg' (below_setCells (Nat.le_refl g) _ _ _).size, fun k hk => ?_⟩
              have hk' : k < K := by rw [lst_len] at hk; exact hk
              rw [World.cell?_setCells_out _ _ _ _ _ (fun _ _ => Or.inl (by simp; omega)), World.cell?_setCells_out _ _ _ _ _ (fun _ _ => Or.inl (by simp; omega))]
              exact hc k hk
            · intro x
              rw [hmade.out.mem, ← HEND.out]
      · have HRN : Hid (Rises (lst c (m + 1 + 1))) := rise_next HS.out hlt (fun e => by
          obtain ⟨h1, h2, h3, h4⟩ := HXY.out
          have g1 : x1 = y1 := by rw [h1, h3]; exact congrArg Prod.fst e
          have g2 : x2 = y2 := by rw [h2, h4]; exact congrArg Prod.snd e
          rcases hne with ⟨_, e2⟩ | e1
          · rw [g2] at e2; simp at e2
          · rw [g1] at e1; simp at e1) hri.out
        rcases hne with ⟨e1, e2⟩ | e1
        all_goals
          try subst e1
          go_wp2
          go_quiet (fail)
          go_wp2
          go_roundg (n - (m + 1 + 1))
          case measure => omega
          case rel => exact ⟨m + 1, by omega, by omega, by go_num, hrow.out.drewN _, below_drewN hbr _, HRN⟩
    · obtain rfl : n = m + 1 := by omega
      go_wp2
      go_ret
      exact ⟨m + 1, c, by rfl, Nat.le_refl _, hrow.out.eat (Nat.le_refl _), hri.out, fun _ => Iff.rfl, hbr⟩

end Go.Proofs.Ytckcbaegehfkoaa
namespace Go.Proofs.Ytckcbaegehfkoaa
open Go.RowKit Go.Lib

theorem two_cells {w : World} {b : Nat} {x y : Value} {T : TypeId} {fr : Nat × Nat} (h : w.heap[b]? = some (.cells #[x, y] T fr)) : w.cell? ⟨b, 0, none⟩ = some x ∧ w.cell? ⟨b, 1, none⟩ = some y := ⟨cell_of_heap h 0, cell_of_heap h 1⟩
theorem cells_two {w : World} {b : Nat} {x y : Value} {T : TypeId} {fr : Nat × Nat} (h : w.heap[b]? = some (.cells #[x, y] T fr)) : ∀ j v, [x, y][j]? = some v → w.cell? ((⟨b, 0, none⟩ : Addr).add j) = some v := by
  intro j v hj
  rw [add_at, Nat.zero_add, cell_of_heap h]
  simpa using hj
theorem allIn_snoc {n : Int} {l : List (Int × Int)} {e : Int × Int} (h : AllIn n l) (he : (0 ≤ e.1 ∧ e.1 < n) ∧ (0 ≤ e.2 ∧ e.2 < n)) : AllIn n (l ++ [e]) := by
  intro x hx
  rcases List.mem_append.1 hx with hx | hx
  · exact h x hx
  · simp at hx; subst hx; exact he
theorem allIn_take {n : Int} {l : List (Int × Int)} {k : Nat} (hk : k < l.length) (h : AllIn n (l.take k)) (he : (0 ≤ l[k].1 ∧ l[k].1 < n) ∧ (0 ≤ l[k].2 ∧ l[k].2 < n)) : AllIn n (l.take (k + 1)) := by
  rw [List.take_succ_eq_append_getElem hk]
  exact allIn_snoc h he

/-- What Normal answers. -/
def NormE (n : Int) (l : List (Int × Int)) (er : Int) (es : List (Int × Int)) : Prop :=
  (n < 0 ∧ er = 1 ∧ es = []) ∨ (1000 < n ∧ er = 5 ∧ es = []) ∨ ((0 ≤ n ∧ n ≤ 1000) ∧ ¬ AllIn n l ∧ er = 4 ∧ es = []) ∨
  ((0 ≤ n ∧ n ≤ 1000) ∧ AllIn n l ∧ er = 5 ∧ es = [] ∧ ∃ x, IsNorm l x ∧ 4000 < x.length) ∨ ((0 ≤ n ∧ n ≤ 1000) ∧ AllIn n l ∧ er = 0 ∧ IsNorm l es ∧ es.length ≤ 4000)
def nOf (n er : Int) : Int := if er = 0 then n else 0

end Go.Proofs.Ytckcbaegehfkoaa
namespace Go.Proofs.Ytckcbaegehfkoaa
open Go.RowKit Go.Lib Go.Shelf
attribute [local go_sem] Oper.semAt_some

/-- The other end of an edge that has v. -/
def other (v : Int) (e : Int × Int) : List Int := if e.1 = v then [e.2] else if e.2 = v then [e.1] else []
def nbL (v : Int) : List (Int × Int) → List Int
  | [] => []
  | e :: es => other v e ++ nbL v es
theorem nbL_append (v : Int) (a b : List (Int × Int)) : nbL v (a ++ b) = nbL v a ++ nbL v b := by
  induction a with
  | nil => rfl
  | cons e a ih => rw [List.cons_append, nbL, nbL, ih, List.append_assoc]
theorem nbL_take {v : Int} {es : List (Int × Int)} {k : Nat} (h : k < es.length) : nbL v (es.take (k + 1)) = nbL v (es.take k) ++ other v es[k] := by
  rw [List.take_succ_eq_append_getElem h, nbL_append, nbL, nbL, List.append_nil]
theorem nbL_prefix (v : Int) (es : List (Int × Int)) (k : Nat) : nbL v (es.take k) <+: nbL v es := by
  refine ⟨nbL v (es.drop k), ?_⟩
  rw [← nbL_append, List.take_append_drop]
theorem nbL_len (v : Int) (es : List (Int × Int)) : (nbL v es).length ≤ es.length := by
  induction es with
  | nil => simp [nbL]
  | cons e es ih =>
    rw [nbL, List.length_append]
    have : (other v e).length ≤ 1 := by
      unfold other
      by_cases h1 : e.1 = v
      · rw [if_pos h1]; simp
      · rw [if_neg h1]
        by_cases h2 : e.2 = v
        · rw [if_pos h2]; simp
        · rw [if_neg h2]; simp
    simp; omega

theorem EAt.lt {w : World} {a : Option Addr} {es : List (Int × Int)} (h : EAt w a es) : ∀ g off, 0 < es.length → a = some ⟨g, off, none⟩ → g < w.heap.size := fun g off h0 ha => by
  obtain ⟨g', off', ha', hg, _⟩ := h h0
  rw [ha'] at ha
  simp only [Option.some.injEq, Addr.mk.injEq, and_true] at ha
  omega

theorem nbL_mem {v y : Int} {es : List (Int × Int)} : y ∈ nbL v es ↔ ∃ e ∈ es, y ∈ other v e := by
  induction es with
  | nil => simp [nbL]
  | cons e es ih => simp [nbL, ih]
theorem other_mem {v y : Int} {e : Int × Int} : y ∈ other v e ↔ (e.1 = v ∧ y = e.2) ∨ (e.1 ≠ v ∧ e.2 = v ∧ y = e.1) := by
  unfold other
  by_cases h1 : e.1 = v
  · rw [if_pos h1]; simp [h1]
  · rw [if_neg h1]
    by_cases h2 : e.2 = v
    · rw [if_pos h2]; simp [h1, h2]
    · rw [if_neg h2]; simp [h1, h2]
/-- The neighbours of a vertex are the other ends of its edges. -/
theorem nbL_right {n v y : Int} {es : List (Int × Int)} (h : RightG n es) : y ∈ nbL v es ↔ (v, y) ∈ es ∨ (y, v) ∈ es := by
  rw [nbL_mem]
  constructor
  · rintro ⟨e, he, ho⟩
    rcases other_mem.1 ho with ⟨h1, h2⟩ | ⟨_, h1, h2⟩
    · left; rw [show (v, y) = e from Prod.ext h1.symm h2]; exact he
    · right; rw [show (y, v) = e from Prod.ext h2 h1.symm]; exact he
  · rintro (he | he)
    · exact ⟨_, he, other_mem.2 (Or.inl ⟨rfl, rfl⟩)⟩
    · have := h.2.2.2.1 _ he
      simp only at this
      exact ⟨_, he, other_mem.2 (Or.inr ⟨by simp only; omega, rfl, rfl⟩)⟩
/-- They rise. -/
theorem nbL_rises {n v : Int} {es : List (Int × Int)} (h : RightG n es) : (nbL v es).Pairwise (· < ·) := by
  have key : ∀ es : List (Int × Int), (∀ e ∈ es, 0 ≤ e.1 ∧ e.1 < e.2 ∧ e.2 < n) → Rises es → (nbL v es).Pairwise (· < ·) := by
    intro es
    induction es with
    | nil => intro _ _; exact List.Pairwise.nil
    | cons e es ih =>
      intro hin hr
      rw [rises_cons] at hr
      rw [nbL, List.pairwise_append]
      refine ⟨?_, ih (fun x hx => hin x (by simp [hx])) hr.2, fun o ho o' ho' => ?_⟩
      · unfold other
        by_cases h1 : e.1 = v
        · rw [if_pos h1]; simp
        · rw [if_neg h1]
          by_cases h2 : e.2 = v
          · rw [if_pos h2]; simp
          · rw [if_neg h2]; simp
      · obtain ⟨f, hf, ho'⟩ := nbL_mem.1 ho'
        have hlt := hr.1 f hf
        rw [ltE_iff] at hlt
        have i1 := hin e (by simp)
        have i2 := hin f (by simp [hf])
        rcases other_mem.1 ho with ⟨h1, h2⟩ | ⟨h0, h1, h2⟩ <;> rcases other_mem.1 ho' with ⟨h3, h4⟩ | ⟨h3, h4, h5⟩ <;> omega
  exact key es h.2.2.2.1 h.2.2.2.2
end Go.Proofs.Ytckcbaegehfkoaa
namespace Go.Proofs.Ytckcbaegehfkoaa
open Go.RowKit Go.Lib Go.Shelf
attribute [local go_sem] Oper.semAt_some

theorem alloc_at {w : World} {o : Obj} {k : Nat} (h : k < w.heap.size) : (w.alloc o).heap[k]? = w.heap[k]? := Below.heap_alloc _ _ _ h
end Go.Proofs.Ytckcbaegehfkoaa
namespace Go.Proofs.Ytckcbaegehfkoaa
open Go.RowKit Go.Lib Go.Shelf
attribute [local go_sem] Oper.semAt_some

/-- A row of numbers in memory. -/
def IAt (w : World) (a : Option Addr) (xs : List Int) : Prop :=
  0 < xs.length → ∃ g off, a = some ⟨g, off, none⟩ ∧ g < w.heap.size ∧ ∀ k (hk : k < xs.length), w.cell? ⟨g, off + k, none⟩ = some (.int .i64 xs[k])
theorem iat_nil (w : World) (a : Option Addr) : IAt w a [] := fun h => absurd h (by simp)
theorem IAt.below {w w' : World} {a : Option Addr} {xs : List Int} (h : IAt w a xs) (hb : Below w.heap.size w w') : IAt w' a xs := by
  intro h0
  obtain ⟨g, off, ha, hg, hc⟩ := h h0
  exact ⟨g, off, ha, Nat.lt_of_lt_of_le hg hb.size, fun k hk => (hb.cell (p := ⟨g, off + k, none⟩) hg).trans (hc k hk)⟩
theorem iat_own {w : World} {base : Nat} {e : TypeId} {v : Value} {xs : List Int} (h : w.ownsRow base e 1 v xs.length (xs.map (Value.int .i64))) : ∃ a cap, v = .slice a xs.length cap ∧ IAt w a xs := by
  by_cases hn : 0 < xs.length
  · obtain ⟨g, cap, hv, hb, hg, hc, hcs⟩ := own_row h hn
    exact ⟨_, cap, hv, fun _ => ⟨g, 0, rfl, hg, fun k hk => by rw [Nat.zero_add]; exact hcs k _ (by rw [List.getElem?_map, List.getElem?_eq_getElem hk]; rfl)⟩⟩
  · rcases h.2 with ⟨hv, h0⟩ | ⟨g, cap, cur, hv, _, _, hc, _⟩
    · exact ⟨none, 0, by rw [hv, h0], fun h => absurd h hn⟩
    · exact ⟨_, cap, hv, fun h => absurd h hn⟩

theorem new_two (w : World) (o1 o2 : Obj) : ∃ W0, W0 = (w.alloc o1).alloc o2 ∧ W0.heap.size = w.heap.size + 1 + 1 ∧ W0.heap[w.heap.size]? = some o1 ∧ W0.heap[w.heap.size + 1]? = some o2 ∧ Below w.heap.size w W0 := by
  have s1 : (w.alloc o1).heap.size = w.heap.size + 1 := by simp
  refine ⟨_, rfl, by simp, ?_, ?_, ((Below.refl _ _).alloc (Nat.le_refl _) _).alloc (by omega) _⟩
  · rw [alloc_at (by omega)]; exact heap_alloc_new _ _
  · rw [← s1]; exact heap_alloc_new _ _

end Go.Proofs.Ytckcbaegehfkoaa
namespace Go.Proofs.Ytckcbaegehfkoaa
open Go.RowKit Go.Lib

/-- A row of numbers that may be written, place by place. -/
def Row1 (w : World) (g n : Nat) (c : Nat → Int) : Prop := g < w.heap.size ∧ ∀ j, j < n → w.cell? ⟨g, j, none⟩ = some (.int .i64 (c j)) ∧ w.frozen? ⟨g, j, none⟩ = false
theorem Row1.put {w : World} {g n : Nat} {c : Nat → Int} (h : Row1 w g n c) {i : Nat} (hi : i < n) (x : Int) : Row1 (w.setCell ⟨g, i, none⟩ (.int .i64 x)) g n (fun j => if j = i then x else c j) := by
  refine ⟨by simpa using h.1, fun j hj => ?_⟩
  obtain ⟨a, fa⟩ := h.2 j hj
  simp only [World.frozen?_setCell]
  refine ⟨?_, fa⟩
  by_cases e : j = i
  · subst e
    rw [if_pos rfl]
    exact World.cell?_setCell_same' _ _ _ (by rw [a]; rfl)
  · rw [if_neg e, World.cell?_setCell_other _ _ _ _ (by simp <;> omega)]
    exact a
theorem Row1.alloc {w : World} {g n : Nat} {c : Nat → Int} (h : Row1 w g n c) (o : Obj) : Row1 (w.alloc o) g n c := by
  have hB : Below w.heap.size w (w.alloc o) := (Below.refl _ _).alloc (Nat.le_refl _) _
  refine ⟨Nat.lt_of_lt_of_le h.1 hB.size, fun j hj => ⟨(hB.cell (p := ⟨g, j, none⟩) h.1).trans (h.2 j hj).1, ?_⟩⟩
  rw [← (h.2 j hj).2]
  unfold World.frozen?
  rw [hB.block g h.1]
theorem Row1.iat {w : World} {g n : Nat} {c : Nat → Int} (h : Row1 w g n c) : IAt w (some ⟨g, 0, none⟩) ((List.range n).map c) := fun _ =>
  ⟨g, 0, rfl, h.1, fun k hk => by
    have hk' : k < n := by simpa using hk
    rw [Nat.zero_add, (h.2 k hk').1]
    simp⟩

theorem Row1.congr {w : World} {g n : Nat} {c d : Nat → Int} (h : Row1 w g n c) (e : ∀ j, j < n → c j = d j) : Row1 w g n d := ⟨h.1, fun j hj => by rw [← e j hj]; exact h.2 j hj⟩
theorem made_ints (n : Nat) : (madeCells (Value.int .i64 0).cells (n * 1)).toList = List.replicate n (.int .i64 0) := by
  apply List.ext_getElem
  · simp [madeCells]
  · intro i h1 h2
    simp [madeCells, Value.cells, Nat.mod_one]
theorem row1_made {w : World} {base g n : Nat} {e : TypeId} (h : w.ownsRow base e 1 (.slice (some ⟨g, 0, none⟩) n n) n (madeCells (Value.int .i64 0).cells (n * 1)).toList) (hg : g < w.heap.size) : Row1 w g n (fun _ => 0) := by
  rw [made_ints] at h
  refine ⟨hg, fun j hj => ?_⟩
  rcases h.2 with ⟨hv, _⟩ | ⟨g', cap, cur, hv, _, hgb, _⟩
  · simp at hv
  · simp only [Value.slice.injEq, Option.some.injEq, Addr.mk.injEq, and_true, true_and] at hv
    obtain ⟨rfl, _⟩ := hv
    have := h.cells (g := g) rfl j (.int .i64 0) (by rw [List.getElem?_replicate, if_pos hj])
    rw [add_at, Nat.zero_add] at this
    exact ⟨this, frozen_of_heap hgb _⟩
/-- What one edge more makes of the degrees. -/
theorem deg_next {es : List (Int × Int)} {k p q : Nat} {m : Nat} (hk : k < es.length) (h1 : (p : Int) = es[k].1) (h2 : (q : Int) = es[k].2) (hpq : p < q) : ∀ j, j < m →
    (if j = q then ((nbL (q : Int) (es.take k)).length : Int) + 1 else if j = p then ((nbL (p : Int) (es.take k)).length : Int) + 1 else ((nbL (j : Int) (es.take k)).length : Int)) = ((nbL (j : Int) (es.take (k + 1))).length : Int) := by
  intro j _
  rw [nbL_take hk, List.length_append]
  unfold other
  rw [← h1, ← h2]
  by_cases e1 : j = q
  · subst e1
    rw [if_pos rfl, if_neg (by omega), if_pos rfl]; simp
  · rw [if_neg e1]
    by_cases e2 : j = p
    · subst e2
      rw [if_pos rfl, if_pos rfl]; simp
    · rw [if_neg e2, if_neg (by omega), if_neg (by omega)]; simp

set_option maxHeartbeats 1000000 in
set_option maxRecDepth 100000 in
theorem degrees_any (n : Int) (a : Option Addr) (cap : Nat) (es : List (Int × Int)) (b : Bool) (w : World) (hN : es.length ≤ 1000000) (hE : EAt w a es) (hb : b = true ↔ RightG n es) :
    Calls Try.prog 76 #[.agg #[.int .i64 n, .slice a es.length cap]] w fun e w' => ∃ a' cap' D, e = .returned (.slice a' D.length cap') ∧ D = (if b = true then (List.range n.toNat).map (fun v : Nat => ((nbL v es).length : Int)) else []) ∧ IAt w' a' D ∧ Below w.heap.size w w' := by
  obtain ⟨N, hNe⟩ : ∃ N, N = es.length := ⟨_, rfl⟩
  have HR : Hid (∀ W, EAt W a es → Calls Try.prog 62 #[.agg #[.int .i64 n, .slice a N cap]] W fun e w' => e = .returned (.bool b) ∧ Below W.heap.size W w') := fun W h => by rw [hNe]; exact right_any n a cap es b W hN h hb
  rw [← hNe] at hN ⊢
  have HN : Hid (N = es.length) := hNe
  have HE : Hid (EAt w a es) := hE
  have HB : Hid (b = true ↔ RightG n es) := hb
  clear hNe hE hb
  go_enter Try.func76, Try.ntmps76
  have hbA : Below w.heap.size w (w.alloc (.cells #[.int .i64 n, .slice a N cap] 30)) := (Below.refl _ _).alloc (Nat.le_refl _) _
  have HEA : Hid (EAt (w.alloc (.cells #[.int .i64 n, .slice a N cap] 30)) a es) := HE.out.below hbA
  have hOA : (w.alloc (.cells #[.int .i64 n, .slice a N cap] 30)).heap[w.heap.size]? = some (.cells #[.int .i64 n, .slice a N cap] 30) := heap_alloc_new _ _
  have hsA : (w.alloc (.cells #[.int .i64 n, .slice a N cap] 30)).heap.size = w.heap.size + 1 := by simp
  have HOA : Hid ((w.alloc (.cells #[.int .i64 n, .slice a N cap] 30)).heap[w.heap.size]? = some (.cells #[.int .i64 n, .slice a N cap] 30)) := hOA
  clear hOA
  go_wp2_with fail
  refine (HR.out _ HEA.out).mono ?_
  rintro e w1 ⟨rfl, hb1⟩
  rw [hsA] at hb1
  have hbw : Below w.heap.size w w1 := hbA.trans (hb1.mono (by omega))
  have o1 := (hb1.block w.heap.size (by omega)).trans HOA.out
  have HE1 : Hid (EAt w1 a es) := HE.out.below hbw
  have hs1 := hb1.size
  rw [hsA] at hs1
  have c0 := cell_of_heap o1 0
  have c1 := cell_of_heap o1 1
  clear hb1 hbA hsA HR HEA HOA
  cases b with
  | false =>
    go_wp2
    go_ret
    exact ⟨none, 0, [], rfl, rfl, iat_nil _ _, hbw⟩
  | true =>
    have HRG : Hid (RightG n es) := HB.out.1 rfl
    obtain ⟨m, rfl⟩ : ∃ m : Nat, n = m := ⟨n.toNat, by have := HRG.out.1; omega⟩
    have hm : m ≤ 1000 := by have := HRG.out.2.1; omega
    have hNN : N ≤ 4000 := by have := HRG.out.2.2.1; rw [← HN.out] at this; exact this
    obtain ⟨i0, hi, hz0, hz1, hz2⟩ := info_parts Try.info3
    obtain ⟨w2, hrun, hown, hgrow⟩ := run_make_full (P := Try.prog) w1 w1.heap.size 25 3 i0 (.int .i64 0) 1 Try.underlying25 hi hz0 hz1 .i64 .i64 m (by rw [hz2]; omega) (by unfold maxLen; omega) (Nat.le_refl _)
    have hs2 : w1.heap.size < w2.heap.size := by
      rcases hown.2 with ⟨hv, _⟩ | ⟨g', cap, cur, hv, _, hgb, _⟩
      · simp at hv
      · simp only [Value.slice.injEq, Option.some.injEq, Addr.mk.injEq, and_true, true_and] at hv
        obtain ⟨rfl, _⟩ := hv
        exact (Array.getElem?_eq_some_iff.1 hgb).1
    have HRW : Hid (Row1 w2 w1.heap.size m (fun v => ((nbL (v : Int) (es.take 0)).length : Int))) := (row1_made hown hs2).congr (fun j _ => by simp [nbL])
    have hb2 : Below w1.heap.size w1 w2 := Below.grown (Below.refl _ _) hgrow (Nat.le_refl _) (fun k hk => by cases hk)
    have c1' : w2.cell? ⟨w.heap.size, 1, none⟩ = some (.slice a N cap) := (hb2.cell (p := ⟨w.heap.size, 1, none⟩) (by simp; omega)).trans c1
    have HRN : Hid (∀ W, W = w1 → (Instr.makeSlice 25 (.int .i64 m) (.int .i64 m)).run Try.prog W = .ok (.slice (some ⟨w1.heap.size, 0, none⟩) m m) w2) := fun W h => by rw [h]; exact hrun
    clear hown hgrow hi hz0 hz1 hz2 HB c1 HRN
    go_wp2
    go_loopw [15] (fun i wr => ∃ k : Nat, k ≤ N ∧ i = .int .i64 k ∧ Hid (Row1 wr w1.heap.size m (fun v => ((nbL (v : Int) (es.take k)).length : Int))) ∧ Below w1.heap.size w1 wr) (fun i _ => N - (RowKit.intOf i).toNat)
    case atStart => exact ⟨0, Nat.zero_le _, rfl, HRW, hb2⟩
    case round =>
      obtain ⟨k, hk, rfl, hrow, hbr⟩ := hrel
      by_cases hlt : k < N
      · have hkr : k < es.length := by rw [← HN.out]; exact hlt
        obtain ⟨g, off, rfl, hg, hcs⟩ := HE1.out.at hkr
        have hin := (HRG.out.at k hkr).1
        obtain ⟨p, hp⟩ : ∃ p : Nat, (p : Int) = es[k].1 := ⟨es[k].1.toNat, by omega⟩
        obtain ⟨q, hq⟩ : ∃ q : Nat, (q : Int) = es[k].2 := ⟨es[k].2.toNat, by omega⟩
        have d := hcs wr hbr k hkr
        rw [← hp, ← hq] at d hin
        obtain ⟨d0, d1⟩ := d
        have i1 : p < q := by omega
        have i2 : q < m := by omega
        have HD := deg_next (m := m) hkr hp hq i1
        obtain ⟨x1, hx1⟩ := ex_eq (nbL (p : Int) (es.take k)).length
        obtain ⟨x2, hx2⟩ := ex_eq (nbL (q : Int) (es.take k)).length
        have hl1 : x1 ≤ 4000 := by rw [hx1]; exact Nat.le_trans (nbL_len _ _) (by rw [List.length_take]; omega)
        have hl2 : x2 ≤ 4000 := by rw [hx2]; exact Nat.le_trans (nbL_len _ _) (by rw [List.length_take]; omega)
        obtain ⟨c, hc⟩ := ex_eq (fun v : Nat => ((nbL (v : Int) (es.take k)).length : Int))
        rw [← hc] at hrow
        have hcp : c p = x1 := by rw [hc, hx1]
        have hcq : c q = x2 := by rw [hc, hx2]
        have hrA := hrow.out.alloc (.cells #[.int .i64 p, .int .i64 q] 59)
        have r1 := hrA.2 p (by omega)
        have HR1 := hrA.put (i := p) (by omega) ((x1 : Int) + 1)
        have r2 := HR1.2 q i2
        rw [hcp] at r1
        have hqq : (fun j => if j = p then (x1 : Int) + 1 else c j) q = (x2 : Int) := by
          show (if q = p then (x1 : Int) + 1 else c q) = (x2 : Int)
          rw [if_neg (by omega), hcq]
        rw [hqq] at r2
        have HR2 := HR1.put (i := q) i2 ((x2 : Int) + 1)
        have HRX : Hid (Row1 (((wr.alloc (.cells #[.int .i64 p, .int .i64 q] 59)).setCell ⟨w1.heap.size, p, none⟩ (.int .i64 ((x1 : Int) + 1))).setCell ⟨w1.heap.size, q, none⟩ (.int .i64 ((x2 : Int) + 1))) w1.heap.size m (fun v => ((nbL (v : Int) (es.take (k + 1))).length : Int))) := HR2.congr (fun j hj => by
          rw [← HD j hj, hx1, hx2, hc])
        obtain ⟨r1, r1f⟩ := r1
        obtain ⟨r2, r2f⟩ := r2
        have hbX : Below w1.heap.size w1 (((wr.alloc (.cells #[.int .i64 p, .int .i64 q] 59)).setCell ⟨w1.heap.size, p, none⟩ (.int .i64 ((x1 : Int) + 1))).setCell ⟨w1.heap.size, q, none⟩ (.int .i64 ((x2 : Int) + 1))) := ((hbr.alloc hbr.size _).setCell (p := ⟨w1.heap.size, p, none⟩) (Nat.le_refl _) _).setCell (p := ⟨w1.heap.size, q, none⟩) (Nat.le_refl _) _
        have hsr : w1.heap.size < wr.heap.size := hrow.out.1
        have bx1 : ((wr.alloc (.cells #[.int .i64 p, .int .i64 q] 59)).setCell ⟨w1.heap.size, p, none⟩ (.int .i64 ((x1 : Int) + 1))).cell? ⟨wr.heap.size, 1, none⟩ = some (.int .i64 q) := by
          rw [World.cell?_setCell_other _ _ _ _ (by simp <;> omega)]
          exact cell_of_heap (heap_alloc_new _ _) 1
        have q1 : (p : Int) < (m : Int) := by omega
        have q2 : (q : Int) < (m : Int) := by omega
        clear hsr hqq HD hx1 hx2 hc hcp hcq hrA HR1 HR2 hp hq hin hcs hrow
        go_wp2
        go_roundw
        case rel => exact ⟨k + 1, by omega, by go_num, HRX, hbX⟩
        case measure => simp [RowKit.intOf]; omega
      · obtain rfl : k = N := by omega
        have htk : es.take k = es := by rw [HN.out, List.take_length]
        rw [htk] at hrow
        go_wp2
        go_ret
        have hl : ((List.range m).map (fun v : Nat => ((nbL (v : Int) es).length : Int))).length = m := by simp
        refine ⟨some ⟨w1.heap.size, 0, none⟩, m, (List.range m).map (fun v : Nat => ((nbL (v : Int) es).length : Int)), by rw [hl]; rfl, ?_, hrow.out.iat, hbw.trans (hbr.mono (by omega))⟩
        simp
end Go.Proofs.Ytckcbaegehfkoaa
namespace Go.Proofs.Ytckcbaegehfkoaa
open Go.RowKit Go.Lib

/-- A variable that holds a graph. -/
def GBox (w : World) (b : Nat) (n : Int) (sv : Value) : Prop := w.heap[b]? = some (.cells #[.int .i64 n, sv] 30)
theorem GBox.lt {w : World} {b : Nat} {n : Int} {sv : Value} (h : GBox w b n sv) : b < w.heap.size := (Array.getElem?_eq_some_iff.1 h).1
theorem GBox.on {w w' : World} {b : Nat} {n : Int} {sv : Value} (h : GBox w b n sv) (hb : Below w.heap.size w w') : GBox w' b n sv := (hb.block b h.lt).trans h
theorem GBox.cells {w : World} {b : Nat} {n : Int} {sv : Value} (h : GBox w b n sv) : w.cell? ⟨b, 0, none⟩ = some (.int .i64 n) ∧ w.cell? ⟨b, 1, none⟩ = some sv := ⟨cell_of_heap h 0, cell_of_heap h 1⟩
theorem eat_new (w : World) (es : List (Int × Int)) (cs : Array Value) (hcs : cs = (cellsE es).toArray) : EAt (w.alloc (.cells cs 59)) (some ⟨w.heap.size, 0, none⟩) es := by
  subst hcs
  refine eat_of_cells (by simp) (fun j u hu => ?_)
  rw [Nat.zero_add, cell_of_heap (heap_alloc_new _ _)]
  simpa using hu

end Go.Proofs.Ytckcbaegehfkoaa
namespace Go.Proofs.Ytckcbaegehfkoaa
open Go.RowKit Go.Lib

/-- A variable holds a graph whose edges lie in memory. -/
structure GC (w : World) (b : Nat) (n : Int) (a : Option Addr) (k cap : Nat) (es : List (Int × Int)) : Prop where
  n0 : w.cell? ⟨b, 0, none⟩ = some (.int .i64 n)
  e0 : w.cell? ⟨b, 1, none⟩ = some (.slice a k cap)
  at_ : EAt w a es
theorem GC.on {w w' : World} {b : Nat} {n : Int} {a : Option Addr} {k cap : Nat} {es : List (Int × Int)} (h : GC w b n a k cap es) (hb : Below w.heap.size w w') : GC w' b n a k cap es :=
  ⟨(hb.cell (block_lt_of_cell h.n0)).trans h.n0, (hb.cell (block_lt_of_cell h.e0)).trans h.e0, h.at_.below hb⟩
theorem GC.cells {w : World} {b : Nat} {n : Int} {a : Option Addr} {k cap : Nat} {es : List (Int × Int)} (h : GC w b n a k cap es) : w.cell? ⟨b, 0, none⟩ = some (.int .i64 n) ∧ w.cell? ⟨b, 1, none⟩ = some (.slice a k cap) := ⟨h.n0, h.e0⟩
theorem hid {p : Prop} (h : p) : Hid p := h
end Go.Proofs.Ytckcbaegehfkoaa
namespace Go.Proofs.Ytckcbaegehfkoaa
open Go.ChangeShapes Go.WideShapes Go.ChangeAt Go.RowKit Go.Deep Go.WideMaps

/-- What a walk is told of edges that came in. -/
structure Came (w : World) (a : Option Addr) (len cap : Nat) (l : List (Int × Int)) : Prop where
  len_ : len = l.length
  le : len ≤ cap
  max : cap ≤ maxLen
  nil : a = none → cap = 0
  at_ : EAt w a l

section
variable {H : Type} {enc : TypeId × Value → H}

set_option maxRecDepth 100000 in
theorem open_edges {W : World} {base : Nat} {held : Bool} {fuel : Nat} {cs : List Value} {x : DataW H × List MemPlace} (h : DataW.trod enc Try.prog W base (fun _ => true) held fuel 22 cs = some x) :
    ∃ a len cap l, cs = [.slice a len cap] ∧ Came W a len cap l := by
  rcases open_slice_pairs Try.underlying22 Try.underlying59 (by kernel_rfl) rfl rfl (by kernel_rfl) (by kernel_rfl) h with ⟨hcs, _⟩ | ⟨a, len, cap, m, n, V0, V1, D0, D1, P0, P1, hcs, _, hl, hm, hmm, _, hx⟩
  · exact ⟨none, 0, 0, [], hcs, rfl, Nat.le_refl _, Nat.zero_le _, fun _ => rfl, eat_nil _ _⟩
  · rw [if_pos rfl] at hmm
    subst hmm
    have hint : ∀ i, i < m → ∃ p q : Int, W.cell? (a.add (i * 2)) = some (.int .i64 p) ∧ W.cell? (a.add (i * 2 + 1)) = some (.int .i64 q) := fun i hi => by
      obtain ⟨c0, c1, t0, t1⟩ := hx i hi
      obtain ⟨p, e0, _⟩ := DataW.trod_int Try.underlying3 t0
      obtain ⟨q, e1, _⟩ := DataW.trod_int Try.underlying3 t1
      simp only [List.cons.injEq, and_true] at e0 e1
      exact ⟨p, q, by rw [c0, e0], by rw [c1, e1]⟩
    obtain ⟨p, hp⟩ : ∃ p : Nat → Int, ∀ i, i < m → ∃ q, W.cell? (a.add (i * 2)) = some (.int .i64 (p i)) ∧ W.cell? (a.add (i * 2 + 1)) = some (.int .i64 q) :=
      ⟨fun i => if h : i < m then (hint i h).choose else 0, fun i hi => by simp only [dif_pos hi]; exact (hint i hi).choose_spec⟩
    obtain ⟨q, hq⟩ : ∃ q : Nat → Int, ∀ i, i < m → W.cell? (a.add (i * 2)) = some (.int .i64 (p i)) ∧ W.cell? (a.add (i * 2 + 1)) = some (.int .i64 (q i)) :=
      ⟨fun i => if h : i < m then (hp i h).choose else 0, fun i hi => by simp only [dif_pos hi]; exact (hp i hi).choose_spec⟩
    refine ⟨some a, len, m, (List.range len).map (fun i => (p i, q i)), hcs, by simp, hl, hm, (fun h => by cases h), fun h0 => ?_⟩
    have h1 : 0 < len := by simpa using h0
    obtain ⟨b, off, spot⟩ := a
    have hs : spot = none := by simpa [Addr.add] using World.cell?_spot (hq 0 (by omega)).1
    subst hs
    refine ⟨b, off, rfl, World.block_lt_of_cell? W _ (hq 0 (by omega)).1, fun j hj => ?_⟩
    have hj' : j < len := by simpa using hj
    obtain ⟨z0, z1⟩ := hq j (by omega)
    rw [add_at] at z0 z1
    simp only [List.getElem_map, List.getElem_range]
    exact ⟨z0, by rw [← Nat.add_assoc] at z1; exact z1⟩

theorem Try.ends : ArrKey Try.prog 66 3 2 := ⟨Try.underlying66, by kernel_rfl, by kernel_rfl, by kernel_rfl⟩
end
end Go.Proofs.Ytckcbaegehfkoaa
namespace Go.Proofs.Ytckcbaegehfkoaa
open Go.ChangeShapes Go.WideShapes Go.ChangeAt Go.RowKit Go.Deep Go.WideMaps

/-- What a walk is told of a row that came in. -/
structure CameI (w : World) (a : Option Addr) (len cap : Nat) (l : List Int) : Prop where
  len_ : len = l.length
  le : len ≤ cap
  max : cap ≤ maxLen
  nil : a = none → cap = 0
  at_ : IAt w a l
  wf : ∀ x ∈ l, (Lit.int .i64 x).wf = true
/-- What a walk is told of a list of rows that came in. -/
structure CameR (w : World) (a : Option Addr) (len cap : Nat) (LL : List (List Int)) : Prop where
  len_ : len = LL.length
  le : len ≤ cap
  max : cap ≤ maxLen
  nil : a = none → cap = 0
  at_ : 0 < LL.length → ∃ g off, a = some ⟨g, off, none⟩ ∧ g < w.heap.size ∧ ∀ k (hk : k < LL.length), ∃ ak ck, w.cell? ⟨g, off + k, none⟩ = some (.slice ak LL[k].length ck) ∧ CameI w ak LL[k].length ck LL[k]

section
variable {H : Type} {enc : TypeId × Value → H}

set_option maxRecDepth 100000 in
theorem open_row {W : World} {base : Nat} {held : Bool} {fuel : Nat} {cs : List Value} {x : DataW H × List MemPlace} (h : DataW.trod enc Try.prog W base (fun _ => true) held fuel 25 cs = some x) :
    ∃ a len cap l, cs = [.slice a len cap] ∧ CameI W a len cap l := by
  rcases open_ints Try.underlying25 Try.underlying3 (by kernel_rfl) h with ⟨hcs, _⟩ | ⟨a, len, cap, zs, hcs, _, hl, hm, hzl, _, hx, hwf⟩
  · exact ⟨none, 0, 0, [], hcs, rfl, Nat.le_refl _, Nat.zero_le _, fun _ => rfl, iat_nil _ _, by simp⟩
  · rw [if_pos rfl] at hzl
    refine ⟨some a, len, cap, zs.take len, hcs, by rw [List.length_take]; omega, hl, hm, (fun h => by cases h), fun h0 => ?_, fun x hx => hwf x (List.mem_of_mem_take hx)⟩
    have h1 : 0 < len := by rw [List.length_take] at h0; omega
    obtain ⟨b, off, spot⟩ := a
    have hs : spot = none := by simpa [Addr.add] using World.cell?_spot (hx 0 (by omega))
    subst hs
    have c0 := hx 0 (by omega)
    refine ⟨b, off, rfl, World.block_lt_of_cell? W _ c0, fun j hj => ?_⟩
    rw [List.length_take] at hj
    have cj := hx j (by omega)
    rw [add_at] at cj
    rw [cj, List.getElem_take]
    simp [List.getD, show j < zs.length by omega]

set_option maxRecDepth 100000 in
theorem net_in {W : World} {base : Nat} {held : Bool} {r : Reach} {b0 : Nat} {v : Value} {d : DataW H} {ps : List MemPlace} (hval : Value.okWide Try.prog W r b0 24 v) (h : DataW.Trod enc Try.prog W base (fun _ => true) held 24 v d ps) :
    ∃ n a len cap l, v = .agg #[.int .i64 n, .slice a len cap] ∧ Came W a len cap l := by
  obtain ⟨cs, rfl, hsz⟩ := okWide_struct Try.underlying24 hval
  rw [show Try.prog.cellsOf 24 = 2 by kernel_rfl] at hsz
  obtain ⟨fuel, hf⟩ := h
  obtain ⟨l0⟩ := cs
  match l0, hsz with
  | [c0, c1], _ =>
    obtain ⟨y0, y1, n, _, _, t0, t1⟩ := trod_struct2 Try.underlying24 hf
    simp only [show Try.prog.cellsOf 3 = 1 by kernel_rfl, show Try.prog.cellsOf 22 = 1 by kernel_rfl, Value.cells, List.drop, List.take] at t0 t1
    obtain ⟨n0, e0, _⟩ := DataW.trod_int Try.underlying3 t0
    obtain ⟨a, len, cap, l, e1, hc⟩ := open_edges t1
    simp only [List.cons.injEq, and_true] at e0 e1
    subst e0
    subst e1
    exact ⟨n0, a, len, cap, l, rfl, hc⟩
end
end Go.Proofs.Ytckcbaegehfkoaa
