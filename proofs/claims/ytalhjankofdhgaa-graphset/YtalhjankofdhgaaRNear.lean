/-
  The document's Near: the neighbours of a vertex.
-/
import Derived.Test.YtalhjankofdhgaaRRight
import Derived.Test.YtalhjankofdhgaaRSort2
namespace Go.Proofs.Ytalhjankofdhgaa
open Go.RowKit Go.Lib

theorem up_lt {xs : List Int} (h : xs.Pairwise (· < ·)) : Up xs := by
  unfold Up
  exact h.imp (fun h => by omega)
/-- A rising row that is put in order stays as it is. -/
theorem ins_last {x : Int} {ys : List Int} (h : ∀ y ∈ ys, y ≤ x) : ins x ys = ys ++ [x] := by
  induction ys with
  | nil => rfl
  | cons y ys ih =>
    unfold ins
    rw [if_pos (h y (by simp)), ih (fun z hz => h z (by simp [hz]))]
    rfl
theorem srt_same {acc xs : List Int} (h : Up (acc ++ xs)) : srt acc xs = acc ++ xs := by
  induction xs generalizing acc with
  | nil => simp [srt]
  | cons x xs ih =>
    show srt (ins x acc) xs = _
    unfold Up at h
    have h1 : ∀ y ∈ acc, y ≤ x := fun y hy => (List.pairwise_append.1 h).2.2 y hy x (by simp)
    rw [ins_last h1, ih (by unfold Up; rw [List.append_assoc]; exact h), List.append_assoc]
    rfl

set_option maxHeartbeats 2000000 in
set_option maxRecDepth 100000 in
theorem rnear_any (n : Int) (a : Option Addr) (cap : Nat) (es : List (Int × Int)) (x : Int) (b : Bool) (L : List Int) (w : World) (hN : es.length ≤ 1000000) (hE : EAt w a es) (hb : b = true ↔ RightG n es) (hL : L = if b = true then nbL x es else []) :
    Calls Try.prog 20 #[.agg #[.int .i64 n, .slice a es.length cap], .int .i64 x] w fun e w' => ∃ a' cap', e = .returned (.slice a' L.length cap') ∧ IAt w' a' L ∧ Below w.heap.size w w' := by
  obtain ⟨i0, hi, hz0, hz1, hz2⟩ := info_parts Try.info3
  obtain ⟨N, hNe⟩ : ∃ N, N = es.length := ⟨_, rfl⟩
  have HRI : Hid (∀ W, EAt W a es → Calls Try.prog 15 #[.agg #[.int .i64 n, .slice a N cap]] W fun e w' => e = .returned (.bool b) ∧ Below W.heap.size W w') := fun W h => by rw [hNe]; exact rright_any n a cap es b W hN h hb
  rw [← hNe] at hN ⊢
  have HN : Hid (N = es.length) := hNe
  have HE : Hid (EAt w a es) := hE
  have HB : Hid (b = true ↔ RightG n es) := hb
  have HL : Hid (L = if b = true then nbL x es else []) := hL
  clear hNe hE hb hL
  obtain ⟨W0, hW0, hsz, o1, o2, hB0⟩ := new_two w (.cells #[.int .i64 n, .slice a N cap] 25) (.cells #[] 3)
  have HW0 : Hid (W0 = (w.alloc (.cells #[.int .i64 n, .slice a N cap] 25)).alloc (.cells #[] 3)) := hW0
  have HO1 : Hid (W0.heap[w.heap.size]? = some (.cells #[.int .i64 n, .slice a N cap] 25)) := o1
  have HOW : Hid (W0.ownsRow (w.heap.size + 1) 3 1 (.slice (some ⟨w.heap.size + 1, 0, none⟩) 0 0) 0 []) := ⟨rfl, Or.inr ⟨w.heap.size + 1, 0, #[], rfl, Nat.le_refl _, o2, Nat.le_refl _, Nat.zero_le _, rfl, rfl⟩⟩
  clear hW0 o1 o2
  go_enter Try.func20, Try.ntmps20
  go_wp2_with fail
  rw [← HW0.out]
  refine (HRI.out _ (HE.out.below hB0)).mono ?_
  rintro e w1 ⟨rfl, hb1⟩
  have hbw : Below w.heap.size w w1 := hB0.trans (hb1.mono (by omega))
  have hs1 := hb1.size
  rw [hsz] at hs1
  have p1 : w1.heap[w.heap.size]? = some (.cells #[.int .i64 n, .slice a N cap] 25) := (hb1.block w.heap.size (by omega)).trans HO1.out
  have c1 : w1.cell? ⟨w.heap.size, 1, none⟩ = some (.slice a N cap) := cell_of_heap p1 1
  have HE1 : Hid (EAt w1 a es) := HE.out.below hbw
  have HO : Hid (w1.ownsRow (w.heap.size + 1) 3 1 (.slice (some ⟨w.heap.size + 1, 0, none⟩) 0 0) 0 []) := own_below HOW.out hb1
  have HP1 : Hid (w1.heap[w.heap.size]? = some (.cells #[.int .i64 n, .slice a N cap] 25)) := p1
  clear hb1 HRI HO1 HOW HW0 hB0 p1
  cases b with
  | false =>
    obtain rfl : L = [] := HL.out
    go_wp2
    go_ret
    exact ⟨some ⟨w.heap.size + 1, 0, none⟩, 0, rfl, iat_nil _ _, hbw⟩
  | true =>
    have HRG : Hid (RightG n es) := HB.out.1 rfl
    have HL2 : Hid (L = nbL x es) := HL.out
    clear HB HL
    go_wp2
    go_loopw [5, 6] (fun v i wr => ∃ k : Nat, k ≤ N ∧ i = .int .i64 k ∧ Hid (wr.ownsRow (w.heap.size + 1) 3 1 v (nbL x (es.take k)).length ((nbL x (es.take k)).map (Value.int .i64))) ∧ Below (w.heap.size + 1) w1 wr) (fun _ i _ => N - (RowKit.intOf i).toNat)
    case atStart => exact ⟨0, Nat.zero_le _, rfl, HO, Below.refl _ _⟩
    case round =>
      obtain ⟨k, hk, rfl, hown, hbr⟩ := hrel
      have hsr := hbr.size
      have c1r : wr.cell? ⟨w.heap.size, 1, none⟩ = some (.slice a N cap) := (hbr.cell (p := ⟨w.heap.size, 1, none⟩) (by simp)).trans c1
      by_cases hlt : k < N
      · have hkr : k < es.length := by rw [← HN.out]; exact hlt
        obtain ⟨g, off, rfl, hg, hcs⟩ := HE.out (by omega)
        have hbwr : Below w.heap.size w wr := hbw.trans (hbr.mono (by omega))
        have d0 := (hbwr.cell (p := ⟨g, off + k * 2, none⟩) hg).trans (hcs k hkr).1
        have d1 := (hbwr.cell (p := ⟨g, off + k * 2 + 1, none⟩) hg).trans (hcs k hkr).2
        obtain ⟨e1, he1⟩ := ex_eq es[k].1
        obtain ⟨e2, he2⟩ := ex_eq es[k].2
        rw [← he1] at d0
        rw [← he2] at d1
        have hin := (HRG.out.at k hkr).1
        rw [← he1, ← he2] at hin
        have HNX : Hid (nbL x (es.take (k + 1)) = nbL x (es.take k) ++ other x (e1, e2)) := by
          show nbL x (es.take (k + 1)) = _
          rw [nbL_take hkr, he1, he2]
        have q1 : (k : Int) < (N : Int) := by omega
        have hlen : (nbL x (es.take k)).length ≤ k := Nat.le_trans (nbL_len _ _) (by rw [List.length_take]; omega)
        obtain ⟨P, hP⟩ := ex_eq (nbL x (es.take k))
        rw [← hP] at hown HNX hlen
        obtain ⟨i1, i2, i3⟩ := hin
        clear hcs he1 he2 hP
        have HD : Hid (∀ W, Below (w.heap.size + 1) wr W → W.cell? ⟨w.heap.size, 1, none⟩ = some (.slice (some ⟨g, off, none⟩) N cap) ∧ W.cell? ⟨g, off + k * 2 + 1, none⟩ = some (.int .i64 e2) ∧ W.cell? ⟨g, off + k * 2, none⟩ = some (.int .i64 e1)) := fun W h => ⟨(h.cell (p := ⟨w.heap.size, 1, none⟩) (by simp)).trans c1r, (h.cell (p := ⟨g, off + k * 2 + 1, none⟩) (by simp; omega)).trans d1, (h.cell (p := ⟨g, off + k * 2, none⟩) (by simp; omega)).trans d0⟩
        by_cases t1 : e1 = x
        · subst t1
          have HO2 : Hid (nbL e1 (es.take (k + 1)) = P ++ [e2]) := by
            show nbL e1 (es.take (k + 1)) = _
            rw [HNX.out]; unfold other; rw [if_pos rfl]
          have t2 : (e2 == e1) = false := beq_eq_false_iff_ne.2 (by omega)
          go_wp2_with (at_builtin; refine wpList_append_own _ rfl _ _ 34 rfl (w.heap.size + 1) 3 i0 _ 1 8 Try.underlying34 hi hz0 hz1 hz2 rfl (by decide) _ _ _ rfl (hown.out.alloc _) _ 1 1 [.int .i64 e2] rfl rfl ?c1 ?c2 ?c3 ?c4 ?c5 ?_)
          case c1 => exact cells_one (heap_alloc_new _ _)
          case c2 => intro u hu; simp at hu; subst hu; rfl
          case c3 => unfold maxLen; omega
          case c4 => omega
          case c5 => simp; omega
          intro v' w4 hown4 hgrow _
          have hb4 : Below (w.heap.size + 1) wr w4 := Below.grown ((Below.refl _ _).alloc (by omega) _) hgrow (by simp; omega) (fun j hj => (hown.out.lt j hj).1)
          have HO4 : Hid (w4.ownsRow (w.heap.size + 1) 3 1 v' (nbL e1 (es.take (k + 1))).length ((nbL e1 (es.take (k + 1))).map (Value.int .i64))) := by
            show w4.ownsRow (w.heap.size + 1) 3 1 v' (nbL e1 (es.take (k + 1))).length ((nbL e1 (es.take (k + 1))).map (Value.int .i64))
            rw [HO2.out, List.length_append, List.map_append]; exact hown4
          obtain ⟨f1, f2, f3⟩ := HD.out w4 hb4
          have hb5 := hbr.trans hb4
          clear hown4 hgrow hown hb4
          go_wp2
          go_roundw
          case rel => exact ⟨k + 1, by omega, by go_num, HO4, hb5⟩
          case measure => simp [RowKit.intOf]; omega
        · have t1b : (e1 == x) = false := beq_eq_false_iff_ne.2 t1
          by_cases t2 : e2 = x
          · subst t2
            have HO2 : Hid (nbL e2 (es.take (k + 1)) = P ++ [e1]) := by
              show nbL e2 (es.take (k + 1)) = _
              rw [HNX.out]; unfold other; rw [if_neg t1, if_pos rfl]
            clear t1
            go_wp2_with (at_builtin; refine wpList_append_own _ rfl _ _ 34 rfl (w.heap.size + 1) 3 i0 _ 1 8 Try.underlying34 hi hz0 hz1 hz2 rfl (by decide) _ _ _ rfl (hown.out.alloc _) _ 1 1 [.int .i64 e1] rfl rfl ?c1 ?c2 ?c3 ?c4 ?c5 ?_)
            case c1 => exact cells_one (heap_alloc_new _ _)
            case c2 => intro u hu; simp at hu; subst hu; rfl
            case c3 => unfold maxLen; omega
            case c4 => omega
            case c5 => simp; omega
            intro v' w4 hown4 hgrow _
            have hb4 : Below (w.heap.size + 1) wr w4 := Below.grown ((Below.refl _ _).alloc (by omega) _) hgrow (by simp; omega) (fun j hj => (hown.out.lt j hj).1)
            have HO4 : Hid (w4.ownsRow (w.heap.size + 1) 3 1 v' (nbL e2 (es.take (k + 1))).length ((nbL e2 (es.take (k + 1))).map (Value.int .i64))) := by
              show w4.ownsRow (w.heap.size + 1) 3 1 v' (nbL e2 (es.take (k + 1))).length ((nbL e2 (es.take (k + 1))).map (Value.int .i64))
              rw [HO2.out, List.length_append, List.map_append]; exact hown4
            have hb5 := hbr.trans hb4
            clear hown4 hgrow hown hb4
            go_wp2
            go_roundw
            case rel => exact ⟨k + 1, by omega, by go_num, HO4, hb5⟩
            case measure => simp [RowKit.intOf]; omega
          · have t2b : (e2 == x) = false := beq_eq_false_iff_ne.2 t2
            have HO4 : Hid (wr.ownsRow (w.heap.size + 1) 3 1 u5 (nbL x (es.take (k + 1))).length ((nbL x (es.take (k + 1))).map (Value.int .i64))) := by
              show wr.ownsRow (w.heap.size + 1) 3 1 u5 (nbL x (es.take (k + 1))).length ((nbL x (es.take (k + 1))).map (Value.int .i64))
              rw [HNX.out]; unfold other; rw [if_neg t1, if_neg t2, List.append_nil]; exact hown.out
            clear t1 t2
            go_wp2
            go_roundw
            case rel => exact ⟨k + 1, by omega, by go_num, HO4, hbr⟩
            case measure => simp [RowKit.intOf]; omega
      · obtain rfl : k = N := by omega
        have htk : es.take k = es := by rw [HN.out, List.take_length]
        rw [htk, ← HL2.out] at hown
        obtain ⟨av, cv, rfl, hIv⟩ := iat_own hown.out
        have HLN : Hid (L.length ≤ 1000000) := by
          show L.length ≤ 1000000
          rw [HL2.out]; exact Nat.le_trans (nbL_len _ _) (by rw [← HN.out]; exact hN)
        have HS := sorted_any av cv L wr HLN.out hIv
        have hsr2 : srt [] L = L := by
          have := srt_same (acc := []) (xs := L) (by rw [List.nil_append, HL2.out]; exact up_lt (nbL_rises HRG.out))
          simpa using this
        rw [hsr2] at HS
        have HSS : Hid (Calls Try.prog 33 #[.slice av L.length cv] wr fun e w' => ∃ v, e = .returned v ∧ w'.ownsRow wr.heap.size 3 1 v L.length (L.map (Value.int .i64)) ∧ Below wr.heap.size wr w') := HS
        clear HS hIv hown hsr2 htk hi hz0 hz1 hz2
        go_wp2_with fail
        refine HSS.out.mono ?_
        rintro e w5 ⟨v5, rfl, hown5, hb5⟩
        have HO5 : Hid (w5.ownsRow wr.heap.size 3 1 v5 L.length (L.map (Value.int .i64))) := hown5
        have hbf : Below w.heap.size w w5 := (hbw.trans (hbr.mono (by omega))).trans (hb5.mono (by omega))
        clear hown5 HSS
        go_wp2
        go_ret
        obtain ⟨a5, c5, rfl, hI5⟩ := iat_own HO5.out
        exact ⟨a5, c5, rfl, hI5, hbf⟩
end Go.Proofs.Ytalhjankofdhgaa
