/-
  The document's Degrees; carcanetlaw03.GraphRight answers true.
-/
import Derived.Test.YtalhjankofdhgaaRNear
import Derived.Test.YtalhjankofdhgaaRHas
import Derived.Test.YtalhjankofdhgaaRCmp
import Derived.Test.YtalhjankofdhgaaGShown2
namespace Go.Proofs.Ytalhjankofdhgaa
open Go.RowKit Go.Lib

def degs (m : Nat) (es : List (Int × Int)) : List Int := (List.range m).map (fun v : Nat => ((nbL v es).length : Int))
theorem degs_succ (m : Nat) (es : List (Int × Int)) : degs (m + 1) es = degs m es ++ [((nbL m es).length : Int)] := by simp [degs, List.range_succ]
theorem degs_len (m : Nat) (es : List (Int × Int)) : (degs m es).length = m := by simp [degs]

set_option maxHeartbeats 2000000 in
set_option maxRecDepth 100000 in
theorem rdegrees_any (n : Int) (a : Option Addr) (cap : Nat) (es : List (Int × Int)) (b : Bool) (w : World) (hN : es.length ≤ 1000000) (hE : EAt w a es) (hb : b = true ↔ RightG n es) :
    Calls Try.prog 22 #[.agg #[.int .i64 n, .slice a es.length cap]] w fun e w' => ∃ a' cap' D, e = .returned (.slice a' D.length cap') ∧ D = (if b = true then (List.range n.toNat).map (fun v : Nat => ((nbL v es).length : Int)) else []) ∧ IAt w' a' D ∧ Below w.heap.size w w' := by
  obtain ⟨i0, hi, hz0, hz1, hz2⟩ := info_parts Try.info3
  obtain ⟨N, hNe⟩ : ∃ N, N = es.length := ⟨_, rfl⟩
  have HRI : Hid (∀ W, EAt W a es → Calls Try.prog 15 #[.agg #[.int .i64 n, .slice a N cap]] W fun e w' => e = .returned (.bool b) ∧ Below W.heap.size W w') := fun W h => by rw [hNe]; exact rright_any n a cap es b W hN h hb
  have HNR : Hid (b = true → ∀ W (v : Int), EAt W a es → Calls Try.prog 20 #[.agg #[.int .i64 n, .slice a N cap], .int .i64 v] W fun e w' => ∃ a' cap', e = .returned (.slice a' (nbL v es).length cap') ∧ Below W.heap.size W w') := fun hbt W v h => by
    rw [hNe]
    exact (rnear_any n a cap es v b (nbL v es) W hN h hb (by rw [if_pos hbt])).mono fun _ _ ⟨a', c', he, _, hw⟩ => ⟨a', c', he, hw⟩
  rw [← hNe] at hN ⊢
  have HN : Hid (N = es.length) := hNe
  have HE : Hid (EAt w a es) := hE
  have HB : Hid (b = true ↔ RightG n es) := hb
  clear hNe hE hb
  obtain ⟨W0, hW0, hsz, o1, o2, hB0⟩ := new_two w (.cells #[.int .i64 n, .slice a N cap] 25) (.cells #[] 3)
  have HW0 : Hid (W0 = (w.alloc (.cells #[.int .i64 n, .slice a N cap] 25)).alloc (.cells #[] 3)) := hW0
  have HO1 : Hid (W0.heap[w.heap.size]? = some (.cells #[.int .i64 n, .slice a N cap] 25)) := o1
  have HOW : Hid (W0.ownsRow (w.heap.size + 1) 3 1 (.slice (some ⟨w.heap.size + 1, 0, none⟩) 0 0) 0 []) := ⟨rfl, Or.inr ⟨w.heap.size + 1, 0, #[], rfl, Nat.le_refl _, o2, Nat.le_refl _, Nat.zero_le _, rfl, rfl⟩⟩
  clear hW0 o1 o2
  go_enter Try.func22, Try.ntmps22
  go_wp2_with fail
  rw [← HW0.out]
  refine (HRI.out _ (HE.out.below hB0)).mono ?_
  rintro e w1 ⟨rfl, hb1⟩
  have hbw : Below w.heap.size w w1 := hB0.trans (hb1.mono (by omega))
  have hs1 := hb1.size
  rw [hsz] at hs1
  have HP1 : Hid (w1.heap[w.heap.size]? = some (.cells #[.int .i64 n, .slice a N cap] 25)) := (hb1.block w.heap.size (by omega)).trans HO1.out
  have HO : Hid (w1.ownsRow (w.heap.size + 1) 3 1 (.slice (some ⟨w.heap.size + 1, 0, none⟩) 0 0) 0 []) := own_below HOW.out hb1
  clear hb1 HRI HO1 HOW HW0 hB0
  cases b with
  | false =>
    go_wp2
    go_ret
    exact ⟨some ⟨w.heap.size + 1, 0, none⟩, 0, [], rfl, rfl, iat_nil _ _, hbw⟩
  | true =>
    have HRG : Hid (RightG n es) := HB.out.1 rfl
    clear HB
    obtain ⟨m, rfl⟩ : ∃ m : Nat, n = m := ⟨n.toNat, by have := HRG.out.1; omega⟩
    have hm : m ≤ 1000 := by have := HRG.out.2.1; omega
    go_wp2
    go_loopw [3, 4] (fun v i wr => ∃ k : Nat, k ≤ m ∧ i = .int .i64 k ∧ Hid (wr.ownsRow (w.heap.size + 1) 3 1 v (degs k es).length ((degs k es).map (Value.int .i64))) ∧ Below (w.heap.size + 1) w1 wr) (fun _ i _ => m - (RowKit.intOf i).toNat)
    case atStart => exact ⟨0, Nat.zero_le _, rfl, HO, Below.refl _ _⟩
    case round =>
      obtain ⟨k, hk, rfl, hown, hbr⟩ := hrel
      have hsr := hbr.size
      have pr : wr.heap[w.heap.size]? = some (.cells #[.int .i64 m, .slice a N cap] 25) := (hbr.block w.heap.size (by omega)).trans HP1.out
      have c0 : wr.cell? ⟨w.heap.size, 0, none⟩ = some (.int .i64 m) := cell_of_heap pr 0
      have c1 : wr.cell? ⟨w.heap.size, 1, none⟩ = some (.slice a N cap) := cell_of_heap pr 1
      clear pr
      by_cases hlt : k < m
      · have hbwr : Below w.heap.size w wr := hbw.trans (hbr.mono (by omega))
        have hx : (nbL (k : Int) es).length ≤ 1000000 := Nat.le_trans (nbL_len _ _) (by rw [← HN.out]; exact hN)
        have HD : Hid (degs (k + 1) es = degs k es ++ [((nbL k es).length : Int)]) := degs_succ k es
        have hlen : (degs k es).length = k := degs_len k es
        have HCN := HNR.out (by trivial) wr k (HE.out.below hbwr)
        obtain ⟨y, hy⟩ := ex_eq (nbL (k : Int) es).length
        rw [← hy] at HCN HD hx
        have HCC : Hid (Calls Try.prog 20 #[.agg #[.int .i64 m, .slice a N cap], .int .i64 k] wr fun e w' => ∃ a' cap', e = .returned (.slice a' y cap') ∧ Below wr.heap.size wr w') := HCN
        obtain ⟨D, hD⟩ := ex_eq (degs k es)
        rw [← hD] at hown HD hlen
        clear HCN hy hD
        go_wp2_with fail
        refine HCC.out.mono ?_
        rintro e w2 ⟨a2, c2, rfl, hb2⟩
        have hown2 := own_below hown.out hb2
        have hb12 : Below (w.heap.size + 1) w1 w2 := hbr.trans (hb2.mono (by omega))
        have hs2 := hb12.size
        clear hown c0 c1 HCC
        go_wp2_with (at_builtin; refine wpList_append_own _ rfl _ _ 34 rfl (w.heap.size + 1) 3 i0 _ 1 8 Try.underlying34 hi hz0 hz1 hz2 rfl (by decide) _ _ _ rfl (hown2.alloc _) _ 1 1 [.int .i64 y] rfl rfl ?c1 ?c2 ?c3 ?c4 ?c5 ?_)
        case c1 => exact cells_one (heap_alloc_new _ _)
        case c2 => intro u hu; simp at hu; subst hu; rfl
        case c3 => unfold maxLen; omega
        case c4 => omega
        case c5 => simp; omega
        intro v' w4 hown4 hgrow _
        have hb4 : Below (w.heap.size + 1) w1 w4 := Below.grown (hb12.alloc (by omega) _) hgrow (by simp; omega) (fun j hj => (hown2.lt j hj).1)
        have HO4 : Hid (w4.ownsRow (w.heap.size + 1) 3 1 v' (degs (k + 1) es).length ((degs (k + 1) es).map (Value.int .i64))) := by
          show w4.ownsRow (w.heap.size + 1) 3 1 v' (degs (k + 1) es).length ((degs (k + 1) es).map (Value.int .i64))
          rw [HD.out, List.length_append, List.map_append, hlen]; exact hown4
        clear hown4 hgrow hown2
        go_wp2
        go_roundw
        case rel => exact ⟨k + 1, by omega, by go_num, HO4, hb4⟩
        case measure => simp [RowKit.intOf]; omega
      · obtain rfl : k = m := by omega
        clear hi hz0 hz1 hz2
        go_wp2
        go_ret
        obtain ⟨a5, c5, rfl, hI5⟩ := iat_own hown.out
        exact ⟨a5, c5, degs k es, rfl, by simp [degs], hI5, hbw.trans (hbr.mono (by omega))⟩
end Go.Proofs.Ytalhjankofdhgaa
