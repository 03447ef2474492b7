/-
  The document's Near: the neighbours of a vertex.
  The document's Has, In: are two vertices neighbours; does a number stand in a row?
  The document's Normal, by rows: what stands above each vertex.
  append onto a row of the call's own, of a slice that may be nil: as a step of a region that draws its order, and in a plain one.
-/
import Derived.Test.YtlebimolgienkaaC04
import Derived.Test.YtlebimolgienkaaC02
import Derived.Test.YtlebimolgienkaaC01
import Derived.Deep.OwnRows
import Derived.Deep.AppendLies
import Derived.Deep.RegionLaw
import Derived.Laws.AppendOwnNone
namespace Go.Proofs.Ytlebimolgienkaa
open Go.RowKit Go.Lib

theorem up_lt {xs : List Int} (h : xs.Pairwise (· < ·)) : Up xs := by
  unfold Up
  exact h.imp (fun h => by omega)
/-- A rising row that is put in order stays as it is. -/
theorem ins_last {x : Int} {ys : List Int} (h : ∀ y ∈ ys, y ≤ x) : ins x ys = ys ++ [x] := by
  induction ys with
  | nil => rfl
  | cons y ys ih =>
    unfold ins
    rw [if_pos (h y (by simp)), ih (fun z hz => h z (by simp [hz]))]
    rfl
theorem srt_same {acc xs : List Int} (h : Up (acc ++ xs)) : srt acc xs = acc ++ xs := by
  induction xs generalizing acc with
  | nil => simp [srt]
  | cons x xs ih =>
    show srt (ins x acc) xs = _
    unfold Up at h
    have h1 : ∀ y ∈ acc, y ≤ x := fun y hy => (List.pairwise_append.1 h).2.2 y hy x (by simp)
    rw [ins_last h1, ih (by unfold Up; rw [List.append_assoc]; exact h), List.append_assoc]
    rfl

set_option maxHeartbeats 2000000 in
set_option maxRecDepth 100000 in
theorem rnear_own (n : Int) (a : Option Addr) (cap : Nat) (es : List (Int × Int)) (x : Int) (b : Bool) (L : List Int) (w : World) (hN : es.length ≤ 1000000) (hE : EAt w a es) (hb : b = true ↔ RightG n es) (hL : L = if b = true then nbL x es else []) :
    Calls Try.prog 91 #[.agg #[.int .i64 n, .slice a es.length cap], .int .i64 x] w fun e w' => ∃ v, e = .returned v ∧ w'.ownsRow w.heap.size 3 1 v L.length (L.map (Value.int .i64)) ∧ Below w.heap.size w w' := by
  obtain ⟨i0, hi, hz0, hz1, hz2⟩ := info_parts Try.info3
  obtain ⟨N, hNe⟩ : ∃ N, N = es.length := ⟨_, rfl⟩
  have HRI : Hid (∀ W, EAt W a es → Calls Try.prog 41 #[.agg #[.int .i64 n, .slice a N cap]] W fun e w' => e = .returned (.bool b) ∧ Below W.heap.size W w') := fun W h => by rw [hNe]; exact rright_any n a cap es b W hN h hb
  rw [← hNe] at hN ⊢
  have HN : Hid (N = es.length) := hNe
  have HE : Hid (EAt w a es) := hE
  have HB : Hid (b = true ↔ RightG n es) := hb
  have HL : Hid (L = if b = true then nbL x es else []) := hL
  clear hNe hE hb hL
  obtain ⟨W0, hW0, hsz, o1, o2, hB0⟩ := new_two w (.cells #[.int .i64 n, .slice a N cap] 26) (.cells #[] 3)
  have HW0 : Hid (W0 = (w.alloc (.cells #[.int .i64 n, .slice a N cap] 26)).alloc (.cells #[] 3)) := hW0
  have HO1 : Hid (W0.heap[w.heap.size]? = some (.cells #[.int .i64 n, .slice a N cap] 26)) := o1
  have HOW : Hid (W0.ownsRow (w.heap.size + 1) 3 1 (.slice (some ⟨w.heap.size + 1, 0, none⟩) 0 0) 0 []) := ⟨rfl, Or.inr ⟨w.heap.size + 1, 0, #[], rfl, Nat.le_refl _, o2, Nat.le_refl _, Nat.zero_le _, rfl, rfl⟩⟩
  clear hW0 o1 o2
  go_enter Try.func91, Try.ntmps91
  go_wp2_with fail
  rw [← HW0.out]
  refine (HRI.out _ (HE.out.below hB0)).mono ?_
  rintro e w1 ⟨rfl, hb1⟩
  have hbw : Below w.heap.size w w1 := hB0.trans (hb1.mono (by omega))
  have hs1 := hb1.size
  rw [hsz] at hs1
  have p1 : w1.heap[w.heap.size]? = some (.cells #[.int .i64 n, .slice a N cap] 26) := (hb1.block w.heap.size (by omega)).trans HO1.out
  have c1 : w1.cell? ⟨w.heap.size, 1, none⟩ = some (.slice a N cap) := cell_of_heap p1 1
  have HE1 : Hid (EAt w1 a es) := HE.out.below hbw
  have HO : Hid (w1.ownsRow (w.heap.size + 1) 3 1 (.slice (some ⟨w.heap.size + 1, 0, none⟩) 0 0) 0 []) := own_below HOW.out hb1
  have HP1 : Hid (w1.heap[w.heap.size]? = some (.cells #[.int .i64 n, .slice a N cap] 26)) := p1
  clear hb1 HRI HO1 HOW HW0 hB0 p1
  cases b with
  | false =>
    obtain rfl : L = [] := HL.out
    go_wp2
    go_ret
    exact ⟨_, rfl, own_lower HO.out (Nat.le_succ _), hbw⟩
  | true =>
    have HRG : Hid (RightG n es) := HB.out.1 rfl
    have HL2 : Hid (L = nbL x es) := HL.out
    clear HB HL
    go_wp2
    go_loopw [5, 6] (fun v i wr => ∃ k : Nat, k ≤ N ∧ i = .int .i64 k ∧ Hid (wr.ownsRow (w.heap.size + 1) 3 1 v (nbL x (es.take k)).length ((nbL x (es.take k)).map (Value.int .i64))) ∧ Below (w.heap.size + 1) w1 wr) (fun _ i _ => N - (RowKit.intOf i).toNat)
    case atStart => exact ⟨0, Nat.zero_le _, rfl, HO, Below.refl _ _⟩
    case round =>
      obtain ⟨k, hk, rfl, hown, hbr⟩ := hrel
      have hsr := hbr.size
      have c1r : wr.cell? ⟨w.heap.size, 1, none⟩ = some (.slice a N cap) := (hbr.cell (p := ⟨w.heap.size, 1, none⟩) (by simp)).trans c1
      by_cases hlt : k < N
      · have hkr : k < es.length := by rw [← HN.out]; exact hlt
        obtain ⟨g, off, rfl, hg, hcs⟩ := HE.out (by omega)
        have hbwr : Below w.heap.size w wr := hbw.trans (hbr.mono (by omega))
        have d0 := (hbwr.cell (p := ⟨g, off + k * 2, none⟩) hg).trans (hcs k hkr).1
        have d1 := (hbwr.cell (p := ⟨g, off + k * 2 + 1, none⟩) hg).trans (hcs k hkr).2
        obtain ⟨e1, he1⟩ := ex_eq es[k].1
        obtain ⟨e2, he2⟩ := ex_eq es[k].2
        rw [← he1] at d0
        rw [← he2] at d1
        have hin := (HRG.out.at k hkr).1
        rw [← he1, ← he2] at hin
        have HNX : Hid (nbL x (es.take (k + 1)) = nbL x (es.take k) ++ other x (e1, e2)) := by
          show nbL x (es.take (k + 1)) = _
          rw [nbL_take hkr, he1, he2]
        have q1 : (k : Int) < (N : Int) := by omega
        have hlen : (nbL x (es.take k)).length ≤ k := Nat.le_trans (nbL_len _ _) (by rw [List.length_take]; omega)
        obtain ⟨P, hP⟩ := ex_eq (nbL x (es.take k))
        rw [← hP] at hown HNX hlen
        obtain ⟨i1, i2, i3⟩ := hin
        clear hcs he1 he2 hP
        have HD : Hid (∀ W, Below (w.heap.size + 1) wr W → W.cell? ⟨w.heap.size, 1, none⟩ = some (.slice (some ⟨g, off, none⟩) N cap) ∧ W.cell? ⟨g, off + k * 2 + 1, none⟩ = some (.int .i64 e2) ∧ W.cell? ⟨g, off + k * 2, none⟩ = some (.int .i64 e1)) := fun W h => ⟨(h.cell (p := ⟨w.heap.size, 1, none⟩) (by simp)).trans c1r, (h.cell (p := ⟨g, off + k * 2 + 1, none⟩) (by simp; omega)).trans d1, (h.cell (p := ⟨g, off + k * 2, none⟩) (by simp; omega)).trans d0⟩
        by_cases t1 : e1 = x
        · subst t1
          have HO2 : Hid (nbL e1 (es.take (k + 1)) = P ++ [e2]) := by
            show nbL e1 (es.take (k + 1)) = _
            rw [HNX.out]; unfold other; rw [if_pos rfl]
          have t2 : (e2 == e1) = false := beq_eq_false_iff_ne.2 (by omega)
          go_wp2_with (at_builtin; refine wpList_append_own _ rfl _ _ 28 rfl (w.heap.size + 1) 3 i0 _ 1 8 Try.underlying28 hi hz0 hz1 hz2 rfl (by decide) _ _ _ rfl (hown.out.alloc _) _ 1 1 [.int .i64 e2] rfl rfl ?c1 ?c2 ?c3 ?c4 ?c5 ?_)
          case c1 => exact cells_one (heap_alloc_new _ _)
          case c2 => intro u hu; simp at hu; subst hu; rfl
          case c3 => unfold maxLen; omega
          case c4 => omega
          case c5 => simp; omega
          intro v' w4 hown4 hgrow _
          have hb4 : Below (w.heap.size + 1) wr w4 := Below.grown ((Below.refl _ _).alloc (by omega) _) hgrow (by simp; omega) (fun j hj => (hown.out.lt j hj).1)
          have HO4 : Hid (w4.ownsRow (w.heap.size + 1) 3 1 v' (nbL e1 (es.take (k + 1))).length ((nbL e1 (es.take (k + 1))).map (Value.int .i64))) := by
            show w4.ownsRow (w.heap.size + 1) 3 1 v' (nbL e1 (es.take (k + 1))).length ((nbL e1 (es.take (k + 1))).map (Value.int .i64))
            rw [HO2.out, List.length_append, List.map_append]; exact hown4
          obtain ⟨f1, f2, f3⟩ := HD.out w4 hb4
          have hb5 := hbr.trans hb4
          clear hown4 hgrow hown hb4
          go_wp2
          go_roundw
          case rel => exact ⟨k + 1, by omega, by go_num, HO4, hb5⟩
          case measure => simp [RowKit.intOf]; omega
        · have t1b : (e1 == x) = false := beq_eq_false_iff_ne.2 t1
          by_cases t2 : e2 = x
          · subst t2
            have HO2 : Hid (nbL e2 (es.take (k + 1)) = P ++ [e1]) := by
              show nbL e2 (es.take (k + 1)) = _
              rw [HNX.out]; unfold other; rw [if_neg t1, if_pos rfl]
            clear t1
            go_wp2_with (at_builtin; refine wpList_append_own _ rfl _ _ 28 rfl (w.heap.size + 1) 3 i0 _ 1 8 Try.underlying28 hi hz0 hz1 hz2 rfl (by decide) _ _ _ rfl (hown.out.alloc _) _ 1 1 [.int .i64 e1] rfl rfl ?c1 ?c2 ?c3 ?c4 ?c5 ?_)
            case c1 => exact cells_one (heap_alloc_new _ _)
            case c2 => intro u hu; simp at hu; subst hu; rfl
            case c3 => unfold maxLen; omega
            case c4 => omega
            case c5 => simp; omega
            intro v' w4 hown4 hgrow _
            have hb4 : Below (w.heap.size + 1) wr w4 := Below.grown ((Below.refl _ _).alloc (by omega) _) hgrow (by simp; omega) (fun j hj => (hown.out.lt j hj).1)
            have HO4 : Hid (w4.ownsRow (w.heap.size + 1) 3 1 v' (nbL e2 (es.take (k + 1))).length ((nbL e2 (es.take (k + 1))).map (Value.int .i64))) := by
              show w4.ownsRow (w.heap.size + 1) 3 1 v' (nbL e2 (es.take (k + 1))).length ((nbL e2 (es.take (k + 1))).map (Value.int .i64))
              rw [HO2.out, List.length_append, List.map_append]; exact hown4
            have hb5 := hbr.trans hb4
            clear hown4 hgrow hown hb4
            go_wp2
            go_roundw
            case rel => exact ⟨k + 1, by omega, by go_num, HO4, hb5⟩
            case measure => simp [RowKit.intOf]; omega
          · have t2b : (e2 == x) = false := beq_eq_false_iff_ne.2 t2
            have HO4 : Hid (wr.ownsRow (w.heap.size + 1) 3 1 u5 (nbL x (es.take (k + 1))).length ((nbL x (es.take (k + 1))).map (Value.int .i64))) := by
              show wr.ownsRow (w.heap.size + 1) 3 1 u5 (nbL x (es.take (k + 1))).length ((nbL x (es.take (k + 1))).map (Value.int .i64))
              rw [HNX.out]; unfold other; rw [if_neg t1, if_neg t2, List.append_nil]; exact hown.out
            clear t1 t2
            go_wp2
            go_roundw
            case rel => exact ⟨k + 1, by omega, by go_num, HO4, hbr⟩
            case measure => simp [RowKit.intOf]; omega
      · obtain rfl : k = N := by omega
        have htk : es.take k = es := by rw [HN.out, List.take_length]
        rw [htk, ← HL2.out] at hown
        obtain ⟨av, cv, rfl, hIv⟩ := iat_own hown.out
        have HLN : Hid (L.length ≤ 1000000) := by
          show L.length ≤ 1000000
          rw [HL2.out]; exact Nat.le_trans (nbL_len _ _) (by rw [← HN.out]; exact hN)
        have HS := sorted_any av cv L wr HLN.out hIv
        have hsr2 : srt [] L = L := by
          have := srt_same (acc := []) (xs := L) (by rw [List.nil_append, HL2.out]; exact up_lt (nbL_rises HRG.out))
          simpa using this
        rw [hsr2] at HS
        have HSS : Hid (Calls Try.prog 45 #[.slice av L.length cv] wr fun e w' => ∃ v, e = .returned v ∧ w'.ownsRow wr.heap.size 3 1 v L.length (L.map (Value.int .i64)) ∧ Below wr.heap.size wr w') := HS
        clear HS hIv hown hsr2 htk hi hz0 hz1 hz2
        go_wp2_with fail
        refine HSS.out.mono ?_
        rintro e w5 ⟨v5, rfl, hown5, hb5⟩
        have HO5 : Hid (w5.ownsRow wr.heap.size 3 1 v5 L.length (L.map (Value.int .i64))) := hown5
        have hbf : Below w.heap.size w w5 := (hbw.trans (hbr.mono (by omega))).trans (hb5.mono (by omega))
        clear hown5 HSS
        go_wp2
        go_ret
        exact ⟨v5, rfl, own_lower HO5.out (Nat.le_trans (Nat.le_trans hbw.size hbr.size) (Nat.le_refl _)), hbf⟩
end Go.Proofs.Ytlebimolgienkaa
namespace Go.Proofs.Ytlebimolgienkaa
open Go.RowKit Go.Lib

set_option maxHeartbeats 1000000 in
theorem in_any (a : Option Addr) (cap : Nat) (xs : List Int) (x : Int) (w : World) (hN : xs.length ≤ 1000000) (h : IAt w a xs) :
    Calls Try.prog 44 #[.slice a xs.length cap, .int .i64 x] w fun e w' => e = .returned (.bool (decide (x ∈ xs))) ∧ w' = w := by
  have H1 : Hid (IAt w a xs) := h
  obtain ⟨r, hr⟩ := ex_eq (decide (x ∈ xs))
  have HR : Hid (r = true ↔ x ∈ xs) := by
    show r = true ↔ x ∈ xs
    rw [hr, decide_eq_true_eq]
  rw [← hr]
  obtain ⟨N, hNe⟩ := ex_eq xs.length
  have HN : Hid (N = xs.length) := hNe
  rw [← hNe] at hN ⊢
  clear h hr hNe
  go_enter Try.func44, Try.ntmps44
  go_wp2
  go_loopw [5] (fun i wr => ∃ k : Nat, k ≤ N ∧ i = .int .i64 k ∧ Hid (x ∉ xs.take k) ∧ wr = w) (fun i _ => N - (RowKit.intOf i).toNat)
  case atStart => exact ⟨0, Nat.zero_le _, rfl, (by simp : x ∉ xs.take 0), rfl⟩
  case round =>
    obtain ⟨k, hk, rfl, hno, hw⟩ := hrel
    subst hw
    by_cases hlt : k < N
    · have hkr : k < xs.length := by rw [← HN.out]; exact hlt
      obtain ⟨g, off, rfl, hg, hc⟩ := H1.out (by omega)
      have d := hc k hkr
      obtain ⟨y, hy⟩ := ex_eq xs[k]
      rw [← hy] at d
      have HY : Hid (y = xs[k]) := hy
      have q1 : (k : Int) < (N : Int) := by omega
      clear hc hy
      by_cases hyx : y = x
      · obtain rfl : r = true := HR.out.2 (by rw [← hyx, HY.out]; exact List.getElem_mem _)
        subst hyx
        clear HR
        go_wp2
        go_ret
        exact ⟨rfl, rfl⟩
      · have hq : (y == x) = false := beq_eq_false_iff_ne.2 hyx
        have HNX : Hid (x ∉ xs.take (k + 1)) := by
          show x ∉ xs.take (k + 1)
          rw [List.take_succ_eq_append_getElem hkr, List.mem_append]
          rintro (h | h)
          · exact hno.out h
          · simp at h; exact hyx (by rw [HY.out]; exact h.symm)
        clear hyx
        go_wp2
        go_roundw
        case rel => exact ⟨k + 1, by omega, by go_num, HNX, by first | rfl | trivial⟩
        case measure => simp [RowKit.intOf]; omega
    · obtain rfl : k = N := by omega
      obtain rfl : r = false := b_false HR.out (fun h => hno.out (by rw [HN.out, List.take_length]; exact h))
      clear HR
      go_wp2
      go_ret
      exact ⟨rfl, rfl⟩
end Go.Proofs.Ytlebimolgienkaa
namespace Go.Proofs.Ytlebimolgienkaa
open Go.RowKit Go.Lib

theorem Try.info28 : (Try.prog.info? 28).map (fun i => (i.zero, i.size, i.bytes)) = some (some (.slice none 0 0), 1, 24) := by kernel_rfl

/-- The rows tell the pairs of the edges so far. -/
def RInv (n : Nat) (l : List (Int × Int)) (R : Nat → List Int) : Prop := ∀ v, v < n → (R v).Nodup ∧ (R v).length ≤ l.length ∧ ∀ x, x ∈ R v ↔ ((v : Int), x) ∈ prs l
theorem rinv_nil (n : Nat) : RInv n [] (fun _ => []) := fun v _ => ⟨List.nodup_nil, Nat.le_refl _, fun x => by simp [prs_nil]⟩
theorem rinv_skip {n : Nat} {l : List (Int × Int)} {R : Nat → List Int} {e : Int × Int} (h : RInv n l R) (he : e.1 = e.2) : RInv n (l ++ [e]) R := fun v hv => by
  obtain ⟨h1, h2, h3⟩ := h v hv
  exact ⟨h1, by simp; omega, fun x => by rw [prs_snoc, prs_same he, List.append_nil]; exact h3 x⟩
theorem rinv_has {n lo : Nat} {l : List (Int × Int)} {R : Nat → List Int} {e : Int × Int} (h : RInv n l R) (he : e.1 ≠ e.2) (hlo : (lo : Int) = min e.1 e.2) (hn : lo < n) (hm : max e.1 e.2 ∈ R lo) : RInv n (l ++ [e]) R := fun v hv => by
  obtain ⟨h1, h2, h3⟩ := h v hv
  refine ⟨h1, by simp; omega, fun x => ?_⟩
  rw [prs_snoc, prs_one he, List.mem_append, h3 x, List.mem_singleton]
  refine ⟨Or.inl, fun hx => hx.elim id fun hx => ?_⟩
  rw [hx, ← hlo]
  exact ((h lo hn).2.2 _).1 hm
theorem rinv_put {n lo : Nat} {l : List (Int × Int)} {R : Nat → List Int} {e : Int × Int} (h : RInv n l R) (he : e.1 ≠ e.2) (hlo : (lo : Int) = min e.1 e.2) (hn : lo < n) (hm : max e.1 e.2 ∉ R lo) : RInv n (l ++ [e]) (fun j => if j = lo then R lo ++ [max e.1 e.2] else R j) := fun v hv => by
  show (if v = lo then _ else _ : List Int).Nodup ∧ (if v = lo then _ else _ : List Int).length ≤ _ ∧ ∀ x, x ∈ (if v = lo then _ else _ : List Int) ↔ _
  by_cases e1 : v = lo
  · subst e1
    obtain ⟨h1, h2, h3⟩ := h v hv
    rw [if_pos rfl]
    refine ⟨?_, by simp; omega, fun x => ?_⟩
    · rw [List.nodup_append]
      refine ⟨h1, by simp, fun a ha b hb => ?_⟩
      simp at hb
      subst hb
      intro hab
      subst hab
      exact hm ha
    · rw [prs_snoc, prs_one he, List.mem_append, List.mem_append, h3 x, List.mem_singleton, List.mem_singleton, ← hlo]
      simp
  · obtain ⟨h1, h2, h3⟩ := h v hv
    rw [if_neg e1]
    refine ⟨h1, by simp; omega, fun x => ?_⟩
    rw [prs_snoc, prs_one he, List.mem_append, h3 x, List.mem_singleton, ← hlo]
    refine ⟨Or.inl, fun hx => hx.elim id fun hx => ?_⟩
    simp only [Prod.mk.injEq] at hx
    exact absurd (by omega) e1

/-- The edges out of the rows. -/
def ER (v : Nat) (R : Nat → List Int) : List (Int × Int) := (srt [] (R v)).map (fun x => ((v : Int), x))
def ES (n : Nat) (R : Nat → List Int) : List (Int × Int) := (List.range n).flatMap (fun v => ER v R)
theorem es_succ (n : Nat) (R : Nat → List Int) : ES (n + 1) R = ES n R ++ ER n R := by simp [ES, List.range_succ]
theorem er_len (v : Nat) (R : Nat → List Int) : (ER v R).length = (srt [] (R v)).length := by simp [ER]
theorem es_mem {n : Nat} {R : Nat → List Int} {e : Int × Int} : e ∈ ES n R ↔ ∃ v, v < n ∧ e.1 = (v : Int) ∧ e.2 ∈ R v := by
  unfold ES ER
  simp only [List.mem_flatMap, List.mem_range, List.mem_map]
  constructor
  · rintro ⟨v, hv, x, hx, rfl⟩
    exact ⟨v, hv, rfl, by simpa [srt_mem] using hx⟩
  · rintro ⟨v, hv, h1, h2⟩
    exact ⟨v, hv, e.2, by simpa [srt_mem] using h2, by rw [← h1]⟩
theorem up_strict {xs : List Int} (h : Up xs) (hn : xs.Nodup) : xs.Pairwise (· < ·) := by
  unfold Up at h
  have := h.and hn
  exact this.imp (fun ⟨h1, h2⟩ => by omega)
theorem ins_nodup {x : Int} {ys : List Int} (h : ys.Nodup) (hx : x ∉ ys) : (ins x ys).Nodup := by
  induction ys with
  | nil => simp [ins]
  | cons y ys ih =>
    rw [List.nodup_cons] at h
    simp only [List.mem_cons, not_or] at hx
    unfold ins
    split
    · rw [List.nodup_cons]
      refine ⟨fun hm => ?_, ih h.2 hx.2⟩
      rcases ins_mem.1 hm with hm | hm
      · exact hx.1 hm.symm
      · exact h.1 hm
    · rw [List.nodup_cons, List.nodup_cons]
      exact ⟨by simp [hx.1, hx.2], h⟩
theorem srt_nodup {acc xs : List Int} (h : (acc ++ xs).Nodup) : (srt acc xs).Nodup := by
  induction xs generalizing acc with
  | nil => simpa [srt] using h
  | cons y xs ih =>
    rw [List.nodup_append] at h
    obtain ⟨h1, h2, h3⟩ := h
    rw [List.nodup_cons] at h2
    refine ih ?_
    rw [List.nodup_append]
    refine ⟨ins_nodup h1 (fun hy => h3 y hy y (by simp) rfl), h2.2, fun a ha b hb => ?_⟩
    rcases ins_mem.1 ha with rfl | ha
    · intro e; subst e; exact h2.1 hb
    · exact h3 a ha b (by simp [hb])
theorem es_rises {n : Nat} {R : Nat → List Int} (h : ∀ v, v < n → (R v).Nodup) : Rises (ES n R) := by
  induction n with
  | zero => exact rises_nil
  | succ n ih =>
    rw [es_succ]
    unfold Rises
    rw [List.pairwise_append]
    refine ⟨ih (fun v hv => h v (by omega)), ?_, fun a ha b hb => ?_⟩
    · unfold ER
      rw [List.pairwise_map]
      refine (up_strict (srt_up (by unfold Up; simp)) (srt_nodup (by simpa using h n (by omega)))).imp (fun {a b} hab => ?_)
      rw [ltE_iff]; exact Or.inr ⟨rfl, hab⟩
    · obtain ⟨v, hv, h1, _⟩ := es_mem.1 ha
      unfold ER at hb
      obtain ⟨x, _, rfl⟩ := List.mem_map.1 hb
      rw [ltE_iff, h1]; exact Or.inl (by simpa using hv)
theorem es_norm {n : Nat} {l : List (Int × Int)} {R : Nat → List Int} (h : RInv n l R) (hl : AllIn n l) : IsNorm l (ES n R) := by
  refine ⟨es_rises (fun v hv => (h v hv).1), fun e => ?_⟩
  rw [es_mem]
  constructor
  · rintro ⟨v, hv, h1, h2⟩
    have := ((h v hv).2.2 e.2).1 h2
    rwa [← h1] at this
  · intro he
    obtain ⟨d, hd, hne, rfl⟩ := mem_prs.1 he
    have hd' := hl d hd
    refine ⟨(min d.1 d.2).toNat, by omega, by simp; omega, ?_⟩
    refine ((h _ (by omega)).2.2 _).2 ?_
    rwa [show ((min d.1 d.2).toNat : Int) = min d.1 d.2 by omega]
theorem es_le {n a : Nat} (R : Nat → List Int) (h : a ≤ n) : (ES a R).length ≤ (ES n R).length := by
  induction n with
  | zero => obtain rfl : a = 0 := by omega
            exact Nat.le_refl _
  | succ n ih =>
    by_cases e : a = n + 1
    · subst e; exact Nat.le_refl _
    · rw [es_succ, List.length_append]
      have := ih (by omega); omega
/-- Part of a row's edges. -/
theorem er_take {v : Nat} {R : Nat → List Int} {i : Nat} (h : i < (srt [] (R v)).length) : (ER v R).take (i + 1) = (ER v R).take i ++ [((v : Int), (srt [] (R v))[i])] := by
  rw [List.take_succ_eq_append_getElem (by rw [er_len]; exact h)]
  simp [ER]

/-- The rows in memory, each in a block of its own. -/
structure UpAt (w : World) (g base n : Nat) (u : Nat → Value) (R : Nat → List Int) : Prop where
  lt : g < base
  bs : base ≤ w.heap.size
  row : w.rowIs g 28 n u
  own : ∀ v, v < n → w.ownsRow base 3 1 (u v) (R v).length ((R v).map (Value.int .i64))
  apart : ∀ v v', v < n → v' < n → v ≠ v' → (u v).ownBlock = none ∨ (u v).ownBlock ≠ (u v').ownBlock
theorem own_set {w : World} {base e size n : Nat} {v : Value} {xs : List Value} {p : Addr} (h : w.ownsRow base e size v n xs) (hp : p.block < base) (x : Value) : (w.setCell p x).ownsRow base e size v n xs := by
  refine ⟨h.1, ?_⟩
  rcases h.2 with hn | ⟨g, cap, cur, rfl, hb, hgg, rest⟩
  · exact .inl hn
  · exact .inr ⟨g, cap, cur, rfl, hb, by rw [Deep.blk_setCell_other _ _ _ _ (by omega)]; exact hgg, rest⟩
theorem UpAt.below {w w' : World} {g base n : Nat} {u : Nat → Value} {R : Nat → List Int} (h : UpAt w g base n u R) (hb : Below w.heap.size w w') : UpAt w' g base n u R :=
  ⟨h.lt, Nat.le_trans h.bs hb.size, h.row.of_block (hb.block _ h.row.lt), fun v hv => own_below (h.own v hv) hb, h.apart⟩
theorem UpAt.put {w w4 : World} {g base n lo : Nat} {u : Nat → Value} {R : Nat → List Int} {x : Int} {o : Obj} {g' cap' : Nat} {v' : Value} (h : UpAt w g base n u R) (hlo : lo < n) (hv' : v' = .slice (some ⟨g', 0, none⟩) ((R lo).length + 1) cap')
    (hown : w4.ownsRow base 3 1 v' ((R lo).length + 1) ((R lo).map (Value.int .i64) ++ [.int .i64 x])) (hg : (w.alloc o).grownBy w4 (u lo).ownBlock) (hat : (u lo).ownBlock = some g' ∨ g' = w.heap.size + 1) :
    UpAt (w4.setCell ⟨g, lo, none⟩ v') g base n (fun j => if j = lo then v' else u j) (fun j => if j = lo then R lo ++ [x] else R j) := by
  have hs : (w.alloc o).heap.size = w.heap.size + 1 := by simp
  have hlt := h.lt
  have hbs := h.bs
  have hgl := h.row.lt
  have hob : v'.ownBlock = some g' := by rw [hv']; rfl
  have hub : ∀ j, j < n → ∀ b, (u j).ownBlock = some b → base ≤ b ∧ b < w.heap.size := fun j hj b hb => (h.own j hj).lt b hb
  have hne : some g ≠ (u lo).ownBlock := fun e => by
    have := (hub lo hlo g e.symm).1
    omega
  refine ⟨h.lt, ?_, ?_, fun v hv => ?_, fun v v2 hv hv2 hvv => ?_⟩
  · have h1 := hg.size
    have h2 : (w4.setCell ⟨g, lo, none⟩ v').heap.size = w4.heap.size := by simp
    omega
  · refine (((h.row.alloc o).of_block (hg.block g (by omega) hne)).set lo v').congr (fun i _ => rfl)
  · refine own_set ?_ (by simpa using hlt) _
    show w4.ownsRow base 3 1 (if v = lo then v' else u v) (if v = lo then R lo ++ [x] else R v).length ((if v = lo then R lo ++ [x] else R v).map (Value.int .i64))
    by_cases e : v = lo
    · subst e
      rw [if_pos rfl, if_pos rfl]
      simpa using hown
    · rw [if_neg e, if_neg e]
      exact ((h.own v hv).alloc o).kept hg (h.apart v lo hv hlo e)
  · show (if v = lo then v' else u v : Value).ownBlock = none ∨ (if v = lo then v' else u v : Value).ownBlock ≠ (if v2 = lo then v' else u v2 : Value).ownBlock
    by_cases e : v = lo
    · subst e
      rw [if_pos rfl, if_neg (fun e => hvv e.symm), hob]
      right
      rcases hat with hat | hat
      · rcases h.apart v v2 hv hv2 hvv with h1 | h1
        · rw [hat] at h1; cases h1
        · rw [← hat]; exact h1
      · intro e
        have := (hub v2 hv2 g' e.symm).2
        omega
    · rw [if_neg e]
      by_cases e2 : v2 = lo
      · subst e2
        rw [if_pos rfl, hob]
        rcases hat with hat | hat
        · rw [← hat]; exact h.apart v v2 hv hv2 hvv
        · right
          intro e3
          have := (hub v hv g' e3).2
          omega
      · rw [if_neg e2]; exact h.apart v v2 hv hv2 hvv
theorem up_made (w : World) (n : Nat) : UpAt (w.alloc (.cells (madeCells #[.slice none 0 0] n) 28)) w.heap.size (w.heap.size + 1) n (fun _ => .slice none 0 0) (fun _ => []) :=
  ⟨by omega, by simp, World.rowIs_made _ _ _ _, fun v _ => World.ownsRow_nil _ _ _ _, fun _ _ _ _ _ => Or.inl rfl⟩
theorem UpAt.iat {w : World} {g base n : Nat} {u : Nat → Value} {R : Nat → List Int} (h : UpAt w g base n u R) {v : Nat} (hv : v < n) : ∃ a cap, u v = .slice a (R v).length cap ∧ IAt w a (R v) := iat_own (h.own v hv)

/-- A graph's edges are put behind each other in its variable; a row of numbers lies elsewhere. -/
structure GAcc (w : World) (B : Nat) (m : Int) (sv : Value) (es : List (Int × Int)) (a5 : Option Addr) (S : List Int) : Prop where
  box : w.heap[B]? = some (.cells #[.int .i64 m, sv] 26 (0, 0))
  own : w.ownsRow (B + 1) 56 2 sv es.length (cellsE es)
  row : IAt w a5 S
  far : ∀ g off, 0 < S.length → a5 = some ⟨g, off, none⟩ → B < g ∧ ∀ b, sv.ownBlock = some b → b ≠ g
theorem box_put {w : World} {b : Nat} {x y v : Value} {T : TypeId} (h : w.heap[b]? = some (.cells #[x, y] T (0, 0))) : (w.setCell ⟨b, 1, none⟩ v).heap[b]? = some (.cells #[x, v] T (0, 0)) := by
  rw [heap_setCell_same w b 1 _ _ v h]; rfl
theorem GAcc.keep {w w4 : World} {B : Nat} {m : Int} {sv : Value} {es : List (Int × Int)} {a5 : Option Addr} {S : List Int} {o : Obj} (h : GAcc w B m sv es a5 S) (hg : (w.drew.alloc o).grownBy w4 sv.ownBlock) :
    w4.heap[B]? = some (.cells #[.int .i64 m, sv] 26 (0, 0)) := by
  have hB : B < w.heap.size := (Array.getElem?_eq_some_iff.1 h.box).1
  rw [hg.block B (by simp; omega) (fun e => by have := (h.own.lt B e.symm).1; omega), Below.heap_alloc w.drew _ _ hB]
  exact h.box
theorem GAcc.put {w w4 : World} {B g' cap' : Nat} {m p q : Int} {sv sv' : Value} {es : List (Int × Int)} {a5 : Option Addr} {S : List Int} {o : Obj} (h : GAcc w B m sv es a5 S) (hg : (w.drew.alloc o).grownBy w4 sv.ownBlock) (hsv : sv' = .slice (some ⟨g', 0, none⟩) (es.length + 1) cap')
    (hown : w4.ownsRow (B + 1) 56 2 sv' (es.length + 1) (cellsE es ++ [.int .i64 p, .int .i64 q])) (hat : sv.ownBlock = some g' ∨ g' = w.heap.size + 1) : GAcc (w4.setCell ⟨B, 1, none⟩ sv') B m sv' (es ++ [(p, q)]) a5 S := by
  have hs : (w.drew.alloc o).heap.size = w.heap.size + 1 := by simp
  refine ⟨box_put (h.keep hg), ?_, fun h0 => ?_, fun g off h0 ha => ⟨(h.far g off h0 ha).1, fun b hb => ?_⟩⟩
  · refine own_set ?_ (by simp) _
    rw [cellsE_append, List.length_append]
    exact hown
  · obtain ⟨g, off, ha, hlt, hc⟩ := h.row h0
    obtain ⟨h1, h2⟩ := h.far g off h0 ha
    refine ⟨g, off, ha, ?_, fun j hj => ?_⟩
    · have := hg.size
      have h3 : (w4.setCell ⟨B, 1, none⟩ sv').heap.size = w4.heap.size := by simp
      omega
    · rw [World.cell?_setCell_other _ _ _ _ (by first | (simp; done) | (simp; omega)), hg.cell_far _ (by first | (simp; done) | (simp; omega)) (fun e => h2 g e.symm rfl)]
      exact cell_alloc_old (w := w.drew) (hc j hj) _
  · obtain ⟨g1, off1, ha1, hlt, _⟩ := h.row h0
    rw [ha] at ha1
    simp only [Option.some.injEq, Addr.mk.injEq, and_true] at ha1
    rw [hsv] at hb
    simp only [Value.ownBlock, Option.some.injEq] at hb
    rcases hat with hat | hat
    · rw [← hb]; exact (h.far g off h0 ha).2 g' hat
    · omega
theorem GAcc.below {w w' : World} {B : Nat} {m : Int} {sv : Value} {es : List (Int × Int)} {a5 : Option Addr} {S : List Int} (h : GAcc w B m sv es a5 S) (hb : Below w.heap.size w w') {a6 : Option Addr} {S' : List Int} (h6 : IAt w' a6 S') (hn : ∀ g off, a6 = some ⟨g, off, none⟩ → w.heap.size ≤ g) : GAcc w' B m sv es a6 S' := by
  have hB : B < w.heap.size := (Array.getElem?_eq_some_iff.1 h.box).1
  exact ⟨(hb.block B hB).trans h.box, own_below h.own hb, h6, fun g off _ ha => ⟨by have := hn g off ha; omega, fun b hb' => by have := hn g off ha; have := (h.own.lt b hb').2; omega⟩⟩
end Go.Proofs.Ytlebimolgienkaa
namespace Go.Proofs.Ytlebimolgienkaa
open Go.RowKit Go.Lib

theorem grown_refl (w : World) (r : Option Nat) : w.grownBy w r := ⟨rfl, rfl, rfl, Nat.le_refl _, fun _ _ _ => rfl⟩

theorem wp_append_any {P : Program} (w : World) {o : Oper} {a : Act} {K : Act → World → Prop} {Q : Exit → Act → World → Prop} (s x : Operand) (t : TypeId)
    (ho : o.op = .call { callee := .builtin .append, args := #[s, x], argTypes := #[t, t] })
    (base : Nat) (e : TypeId) (i : TypeInfo) (z : Value) (size bytes : Nat) (ht : P.underlying t = some (.slice e)) (hi : P.info? e = some i) (hz : i.zero = some z)
    (hsize : i.size = size) (hby : i.bytes = bytes) (hzs : z.cells.size = size) (hsz : 0 < size)
    (v : Value) (n : Nat) (xs : List Value) (hs : a.eval s = v) (hown : w.ownsRow base e size v n xs)
    (ad : Option Addr) (m c : Nat) (news : List Value) (hx : a.eval x = .slice ad m c) (hnil : ad = none → m = 0 ∧ c = 0) (hl : news.length = m * size) (hnews : ∀ p, ad = some p → ∀ j u, news[j]? = some u → w.cell? (p.add j) = some u) (h1 : ∀ u ∈ news, u.oneCell' = true)
    (h63 : n + m ≤ maxLen) (hbytes : (n + m) * bytes ≤ 140737488355328) (hbase : base ≤ w.heap.size)
    (h : ∀ v' w', w'.ownsRow base e size v' (n + m) (xs ++ news) → w.grownBy w' v.ownBlock → (v'.ownBlock = v.ownBlock ∨ v'.ownBlock = some w.heap.size) → K (a.put o.dst v') w') : o.wp P a w K Q := by
  cases ad with
  | none =>
    obtain ⟨rfl, rfl⟩ := hnil rfl
    obtain rfl : news = [] := List.eq_nil_of_length_eq_zero (by omega)
    have hrun := run_append_owned_none (P := P) (w := w) base t o.type e i size ht hi v n xs hown
    unfold Oper.wp
    simp [execOp, ho, resolve, invoke, builtin, hs, hx, hrun, Result.andThen]
    exact h v w (by simpa using hown) (grown_refl _ _) (Or.inl rfl)
  | some p =>
    obtain ⟨v', w', hr, h2, h3, _, h5⟩ := run_append_own_at (P := P) w base t o.type e i z size bytes ht hi hz hsize hby hzs hsz v n xs hown p m c news hl (hnews p rfl) h1 h63 hbytes hbase
    unfold Oper.wp execOp
    simp only [ho, resolve, invoke, builtin, Sem.run_bind, Sem.run_pure, Result.andThen_ok, List.map_toArray, List.map_cons, List.map_nil, hs, hx, hr]
    exact h v' w' h2 h3 h5

theorem step_append_any {P : Program} (w : World) {ops : Array Oper} {o : Oper} {a : Act} {K : Act → World → Prop} {Q : Exit → Act → World → Prop} {E : Prop} (hgd : o.guard = none) (s x : Operand) (t : TypeId)
    (ho : o.op = .call { callee := .builtin .append, args := #[s, x], argTypes := #[t, t] })
    (base : Nat) (e : TypeId) (i : TypeInfo) (z : Value) (size bytes : Nat) (ht : P.underlying t = some (.slice e)) (hi : P.info? e = some i) (hz : i.zero = some z)
    (hsize : i.size = size) (hby : i.bytes = bytes) (hzs : z.cells.size = size) (hsz : 0 < size)
    (v : Value) (n : Nat) (xs : List Value) (hs : a.eval s = v) (hown : w.ownsRow base e size v n xs)
    (ad : Option Addr) (m c : Nat) (news : List Value) (hx : a.eval x = .slice ad m c) (hnil : ad = none → m = 0 ∧ c = 0) (hl : news.length = m * size) (hnews : ∀ p, ad = some p → ∀ j u, news[j]? = some u → w.cell? (p.add j) = some u) (h1 : ∀ u ∈ news, u.oneCell' = true)
    (h63 : n + m ≤ maxLen) (hbytes : (n + m) * bytes ≤ 140737488355328) (hbase : base ≤ w.heap.size)
    (h : ∀ v' w', w'.ownsRow base e size v' (n + m) (xs ++ news) → w.grownBy w' v.ownBlock → (v'.ownBlock = v.ownBlock ∨ v'.ownBlock = some w.heap.size) → K (a.put o.dst v') w') :
    if Region.wanted o (yielded ops a.tmps) = true then Oper.wp P o a w K Q else E := by
  have hw : Region.wanted o (yielded ops a.tmps) = true := by simp [Region.wanted, hgd]
  rw [if_pos hw]
  exact wp_append_any w s x t ho base e i z size bytes ht hi hz hsize hby hzs hsz v n xs hs hown ad m c news hx hnil hl hnews h1 h63 hbytes hbase h

theorem wpList_append_any {P : Program} (w : World) {ops : Array Oper} {rest : List Oper} {o : Oper} {a : Act} {Q : Exit → Act → World → Prop} (hgd : o.guard = none) (s x : Operand) (t : TypeId)
    (ho : o.op = .call { callee := .builtin .append, args := #[s, x], argTypes := #[t, t] })
    (base : Nat) (e : TypeId) (i : TypeInfo) (z : Value) (size bytes : Nat) (ht : P.underlying t = some (.slice e)) (hi : P.info? e = some i) (hz : i.zero = some z)
    (hsize : i.size = size) (hby : i.bytes = bytes) (hzs : z.cells.size = size) (hsz : 0 < size)
    (v : Value) (n : Nat) (xs : List Value) (hs : a.eval s = v) (hown : w.ownsRow base e size v n xs)
    (ad : Option Addr) (m c : Nat) (news : List Value) (hx : a.eval x = .slice ad m c) (hnil : ad = none → m = 0 ∧ c = 0) (hl : news.length = m * size) (hnews : ∀ p, ad = some p → ∀ j u, news[j]? = some u → w.cell? (p.add j) = some u) (h1 : ∀ u ∈ news, u.oneCell' = true)
    (h63 : n + m ≤ maxLen) (hbytes : (n + m) * bytes ≤ 140737488355328) (hbase : base ≤ w.heap.size)
    (h : ∀ v' w', w'.ownsRow base e size v' (n + m) (xs ++ news) → w.grownBy w' v.ownBlock → (v'.ownBlock = v.ownBlock ∨ v'.ownBlock = some w.heap.size) → wpList P ops Q rest (a.put o.dst v') w') : wpList P ops Q (o :: rest) a w :=
  wpList_plain hgd fun _ hK => wp_append_any w s x t ho base e i z size bytes ht hi hz hsize hby hzs hsz v n xs hs hown ad m c news hx hnil hl hnews h1 h63 hbytes hbase fun v' w' h2 h3 h4 => hK _ _ (h v' w' h2 h3 h4)

theorem EAt.newsO {w : World} {a : Option Addr} {es : List (Int × Int)} (h : EAt w a es) : ∀ p, a = some p → ∀ j u, (cellsE es)[j]? = some u → w.cell? (p.add j) = some u := fun p hp => by
  subst hp; exact h.news
/-- Edges do not lie in a graph's own variable. -/
theorem eat_off_box {w : World} {B : Nat} {n : Int} {sa : Option Addr} {sl sc : Nat} {T : TypeId} {fr : Nat × Nat} {a : Option Addr} {ys : List (Int × Int)} (hB : w.heap[B]? = some (.cells #[.int .i64 n, .slice sa sl sc] T fr)) (h : EAt w a ys) : ∀ g off, 0 < ys.length → a = some ⟨g, off, none⟩ → g ≠ B := fun g off h0 ha e => by
  subst e
  obtain ⟨g', off', ha', _, hc⟩ := h h0
  rw [ha] at ha'
  simp only [Option.some.injEq, Addr.mk.injEq, and_true] at ha'
  obtain ⟨rfl, rfl⟩ := ha'
  have h1 := (hc 0 h0).1
  have h2 := (hc 0 h0).2
  rw [cell_of_heap hB] at h1 h2
  match off, h1, h2 with
  | 0, h1, h2 => simp at h2
  | 1, h1, h2 => simp at h1
  | k + 2, h1, h2 => simp at h1
theorem hid2 {p q : Prop} (h : p) (h' : q) : p ∧ q := ⟨h, h'⟩
end Go.Proofs.Ytlebimolgienkaa
