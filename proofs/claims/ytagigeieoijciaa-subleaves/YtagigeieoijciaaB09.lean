/-
  The document's Induced (layer 6).
-/
import Derived.Test.YtagigeieoijciaaB05
import Derived.Test.YtagigeieoijciaaB06
import Derived.Test.YtagigeieoijciaaB08
import Derived.Test.YtagigeieoijciaaB04
import Derived.BigQuiet
namespace Go.Proofs.Ytagigeieoijciaa
open Go.RowKit Go.Lib

/-- What a call of layer 6 tells. -/
def SubTold (S : Int → Int → List (Int × Int) → Prop) (w w' : World) (v : Value) : Prop := ∃ er N E a' cap', v = .tuple #[.agg #[.int .i64 N, .slice a' E.length cap'], .int .i64 er] ∧ S er N E ∧ Sl a' cap' E.length ∧ EAt w' a' E ∧ Below w.heap.size w w'
theorem subTold_none {S : Int → Int → List (Int × Int) → Prop} {w w' : World} {er : Int} (h : S er 0 []) (hb : Below w.heap.size w w') : SubTold S w w' (.tuple #[.agg #[.int .i64 0, .slice none 0 0], .int .i64 er]) := ⟨er, 0, [], none, 0, rfl, h, sl_nil, eat_nil _ _, hb⟩
/-- A graph's edges are put behind each other in its variable. -/
structure EAcc (w : World) (B : Nat) (m : Int) (sv : Value) (es : List (Int × Int)) : Prop where
  box : w.heap[B]? = some (.cells #[.int .i64 m, sv] 27 (0, 0))
  own : w.ownsRow (B + 1) 40 2 sv es.length (cellsE es)
theorem EAcc.below {w w' : World} {B : Nat} {m : Int} {sv : Value} {es : List (Int × Int)} (h : EAcc w B m sv es) (hb : Below w.heap.size w w') : EAcc w' B m sv es :=
  ⟨(hb.block B (Array.getElem?_eq_some_iff.1 h.box).1).trans h.box, own_below h.own hb⟩
theorem EAcc.put {w w4 : World} {B : Nat} {m p q : Int} {sv sv' : Value} {es : List (Int × Int)} {o : Obj} (h : EAcc w B m sv es) (hg : (w.alloc o).grownBy w4 sv.ownBlock) (hown : w4.ownsRow (B + 1) 40 2 sv' (es.length + 1) (cellsE es ++ [.int .i64 p, .int .i64 q])) : EAcc (w4.setCell ⟨B, 1, none⟩ sv') B m sv' (es ++ [(p, q)]) ∧ w4.cell? ⟨B, 1, none⟩ = some sv ∧ w4.frozen? ⟨B, 1, none⟩ = false := by
  have hB : B < w.heap.size := (Array.getElem?_eq_some_iff.1 h.box).1
  have hb4 : w4.heap[B]? = some (.cells #[.int .i64 m, sv] 27 (0, 0)) := by
    rw [hg.block B (by simp; omega) (fun e => by have := (h.own.lt B e.symm).1; omega), Below.heap_alloc w _ _ hB]
    exact h.box
  refine ⟨⟨box_put hb4, ?_⟩, cell_of_heap hb4 1, frozen_of_heap hb4 1⟩
  refine own_set ?_ (by simp) _
  rw [cellsE_append, List.length_append]
  exact hown

set_option maxHeartbeats 4000000 in
set_option maxRecDepth 100000 in
theorem rind_any (n : Int) (a : Option Addr) (cap : Nat) (es : List (Int × Int)) (la : Option Addr) (lc : Nat) (l : List Int) (b : Bool) (w : World) (hN : es.length ≤ 1000000) (hL : l.length ≤ 1000000) (hE : EAt w a es) (hI : IAt w la l) (hb : b = true ↔ RightG n es) :
    Calls Try.prog 13 #[.agg #[.int .i64 n, .slice a es.length cap], .slice la l.length lc] w fun e w' => ∃ v, e = .returned v ∧ SubTold (IndS n es l) w w' v := by
  obtain ⟨N, hNe⟩ := ex_eq es.length
  obtain ⟨M, hMe⟩ := ex_eq l.length
  obtain ⟨W, hW, hsW, hO0, hO1, hbW⟩ := new_two w (.cells #[.int .i64 n, .slice a N cap] 27) (.cells #[.int .i64 0, .slice none 0 0] 27)
  have HGC : Hid (∀ X, Below W.heap.size W X → GC X w.heap.size n a N cap es ∧ IAt X la l ∧ Below w.heap.size w X ∧ X.heap[w.heap.size + 1]? = some (.cells #[.int .i64 0, .slice none 0 0] 27 (0, 0))) := fun X hX => by
    have o := (hX.block _ (by omega)).trans hO0
    have o1 := (hX.block (w.heap.size + 1) (by omega)).trans hO1
    have hbx : Below w.heap.size w X := hbW.trans (hX.mono (by omega))
    exact ⟨⟨cell_of_heap o 0, cell_of_heap o 1, hE.below hbx⟩, hI.below hbx, hbx, o1⟩
  have CR : Hid (∀ X, Below W.heap.size W X → Calls Try.prog 19 #[.agg #[.int .i64 n, .slice a N cap]] X fun e w' => e = .returned (.bool b) ∧ Below X.heap.size X w') := fun X hX => by
    rw [hNe]; exact rright_any n a cap es b X hN (HGC.out X hX).1.at_ hb
  obtain ⟨u, hu⟩ := boolR_of (l.Nodup)
  have CU : Hid (∀ X, IAt X la l → Calls Try.prog 33 #[.slice la M lc] X fun e w' => e = .returned (.bool u) ∧ Below X.heap.size X w') := fun X hX => by
    rw [hMe]; exact unlike_any la lc l u X hL hX hu
  have CHH : Hid (∀ (h : Bool) (x y : Int), (h = true ↔ (RightG n es ∧ Adj es x y)) → ∀ X, GC X w.heap.size n a N cap es → Calls Try.prog 20 #[.agg #[.int .i64 n, .slice a N cap], .int .i64 x, .int .i64 y] X fun e w' => e = .returned (.bool h) ∧ Below X.heap.size X w') := fun h x y hh X hX => by
    rw [hNe]; exact rhas_any n a cap es x y b h X hN hX.at_ hb hh
  have HBB := hid hb
  have HM := hid hMe
  have HU := hid hu
  have HW := hid hW
  have HZ : Hid (∀ X, Below w.heap.size w X → Below w.heap.size w ((X.setCell ⟨w.heap.size + 1, 0, none⟩ (.int .i64 0)).setCell ⟨w.heap.size + 1, 1, none⟩ (.slice none 0 0))) := fun X hX => (hX.setCell (p := ⟨w.heap.size + 1, 0, none⟩) (by simp) _).setCell (p := ⟨w.heap.size + 1, 1, none⟩) (by simp) _
  rw [← hMe] at hL ⊢
  rw [← hNe]
  clear hNe hMe hW hO0 hO1 hbW hE hI hb hu hN
  go_enter Try.func13, Try.ntmps13
  go_wp2_with fail
  rw [← HW.out]
  refine (CR.out W (Below.refl _ _)).mono ?_
  rintro e w1 ⟨rfl, hb1⟩
  obtain ⟨hg1, hi1, hbw1, ho1⟩ := HGC.out w1 hb1
  have HB1 := hid hb1
  have HBw1 := hid hbw1
  have z0 := cell_of_heap ho1 0
  have z1 := cell_of_heap ho1 1
  have zf0 := frozen_of_heap ho1 0
  have zf1 := frozen_of_heap ho1 1
  clear CR hb1 hi1 hbw1 HW
  cases b with
  | false =>
    have HNR : Hid (IndS n es l 1 0 []) := Or.inl ⟨(fun h => by have := HBB.out.2 h; cases this), rfl, rfl, rfl⟩
    clear HBB HU hg1 ho1
    go_wp2
    refine bodyPost_ret (v := .tuple #[.agg #[.int .i64 0, .slice none 0 0], .int .i64 1]) ?_ rfl ⟨_, rfl, subTold_none HNR.out (HZ.out w1 HBw1.out)⟩
    rw [results_cell_tmp rfl]
    go_simp
  | true =>
    have HRG := hid (HBB.out.1 rfl)
    have HQZ : Hid (∀ q, (w1.drewN q).heap[w.heap.size + 1]? = some (.cells #[.int .i64 0, .slice none 0 0] 27 (0, 0))) := fun q => by simpa using ho1
    clear HBB hg1 ho1 z0 z1 zf0 zf1
    go_wp2
    go_loopg [6] M (fun Gh i wz => ∃ k : Nat, k ≤ M ∧ M - k ≤ Gh ∧ i = .int .i64 k ∧ Hid (InL n (l.take k)) ∧ Hid (∃ q, wz = w1.drewN q))
    case atStart => exact ⟨0, Nat.zero_le _, by omega, rfl, (fun x hx => by simp at hx), ⟨0, rfl⟩⟩
    case round =>
      obtain ⟨k, hk, hGh, rfl, hin, hq⟩ := hrel
      have hbq : Below W.heap.size W wr := by
        obtain ⟨q, e⟩ := hq.out
        rw [e]; exact below_drewN HB1.out q
      obtain ⟨hg, hi, hbw, ho⟩ := HGC.out wr hbq
      by_cases hlt : k < M
      · have hkr : k < l.length := by rw [← HM.out]; exact hlt
        obtain ⟨g, off, rfl, hgl, hcs⟩ := hi (by omega)
        have d0 := hcs k hkr
        obtain ⟨x, hx⟩ := ex_eq l[k]
        rw [← hx] at d0
        obtain ⟨g0, g1⟩ := hg.cells
        have q1 : (k : Int) < (M : Int) := by omega
        have HQ : Hid (∀ q, ∃ q', wr.drewN q = w1.drewN q') := fun q => by
          obtain ⟨q', e⟩ := hq.out
          exact ⟨q' + q, by rw [e, World.drewN_drewN]⟩
        have HBD : Hid (∀ q, Below w.heap.size w (wr.drewN q)) := fun q => below_drewN hbw q
        have y0 := cell_of_heap ho 0
        have y1 := cell_of_heap ho 1
        have yf0 := frozen_of_heap ho 0
        have yf1 := frozen_of_heap ho 1
        have HX := hid hx
        have HKR : Hid (k < l.length) := hkr
        clear hcs hx hq hbq hg ho hbw
        by_cases h0 : x < 0
        · have e1 : decide (x < 0) = true := decide_eq_true h0
          have HNR : Hid (IndS n es l 4 0 []) := Or.inr (Or.inl ⟨HRG.out, (fun h => by have := h _ (List.getElem_mem hkr); rw [← HX.out] at this; omega), rfl, rfl, rfl⟩)
          clear hin HX HU
          go_wp2_with fail
          go_quiet (fail)
          go_wp2
          refine bodyPost_ret (v := .tuple #[.agg #[.int .i64 0, .slice none 0 0], .int .i64 4]) ?_ rfl ⟨_, rfl, subTold_none HNR.out (HZ.out _ (HBD.out _))⟩
          rw [results_cell_tmp rfl]
          go_simp
        · have e1 : decide (x < 0) = false := decide_eq_false h0
          by_cases h1 : n ≤ x
          · have e2 : decide (n ≤ x) = true := decide_eq_true h1
            have e3 : decide (x ≥ n) = true := decide_eq_true h1
            have HNR : Hid (IndS n es l 4 0 []) := Or.inr (Or.inl ⟨HRG.out, (fun h => by have := h _ (List.getElem_mem hkr); rw [← HX.out] at this; omega), rfl, rfl, rfl⟩)
            clear hin HX HU
            go_wp2_with fail
            go_quiet (fail)
            go_wp2
            refine bodyPost_ret (v := .tuple #[.agg #[.int .i64 0, .slice none 0 0], .int .i64 4]) ?_ rfl ⟨_, rfl, subTold_none HNR.out (HZ.out _ (HBD.out _))⟩
            rw [results_cell_tmp rfl]
            go_simp
          · have e2 : decide (n ≤ x) = false := decide_eq_false h1
            have e3 : decide (x ≥ n) = false := decide_eq_false h1
            have HNX : Hid (InL n (l.take (k + 1))) := fun z hz => by
              rw [List.take_append_getElem HKR.out |>.symm] at hz
              rcases List.mem_append.1 hz with hz | hz
              · exact hin.out z hz
              · simp at hz; subst hz; rw [← HX.out]; omega
            clear hin HX
            go_wp2_with fail
            go_quiet (fail)
            go_wp2
            go_roundg (M - (k + 1))
            case measure => omega
            case rel => exact ⟨k + 1, by omega, Nat.le_refl _, by go_num, HNX, HQ.out _⟩
      · obtain rfl : k = M := by omega
        have HIN : Hid (InL n l) := by
          have := hin.out
          rw [HM.out, List.take_length] at this
          exact this
        have HBR := hid hbq
        clear hin hq hbq hg ho hbw
        go_wp2_with fail
        refine (CU.out wr hi).mono ?_
        rintro e w2 ⟨rfl, hb2⟩
        have hbW2 : Below W.heap.size W w2 := HBR.out.trans (hb2.mono HBR.out.size)
        obtain ⟨hg2, hi2, hbw2, ho2⟩ := HGC.out w2 hbW2
        have HBW2 := hid hbW2
        have HBw2 := hid hbw2
        clear hb2 CU HBR hi
        cases u with
        | false =>
          have HNR : Hid (IndS n es l 1 0 []) := Or.inr (Or.inr (Or.inl ⟨HRG.out, HIN.out, (fun h => by have := HU.out.2 h; cases this), rfl, rfl, rfl⟩))
          have y0 := cell_of_heap ho2 0
          have y1 := cell_of_heap ho2 1
          have yf0 := frozen_of_heap ho2 0
          have yf1 := frozen_of_heap ho2 1
          clear HU hg2 hi2 ho2 hbw2 hbW2
          go_wp2
          refine bodyPost_ret (v := .tuple #[.agg #[.int .i64 0, .slice none 0 0], .int .i64 1]) ?_ rfl ⟨_, rfl, subTold_none HNR.out (HZ.out _ HBw2.out)⟩
          rw [results_cell_tmp rfl]
          go_simp
        | true =>
          have HND := hid (HU.out.1 rfl)
          have hM1 : k ≤ 1000 := by
            have h1 := len_le_subI (a := l) (b := (List.range n.toNat).map (fun j : Nat => (j : Int))) HND.out (fun x hx => by
              have := HIN.out x hx
              exact List.mem_map.2 ⟨x.toNat, by simp; omega, by omega⟩)
            have h2 := HRG.out.2.1
            have h3 := HM.out
            simp at h1
            omega
          obtain ⟨i1, hj, hy0, hy1, hy2⟩ := info_parts Try.info40
          obtain ⟨W3, hW3⟩ := ex_eq (w2.alloc (.cells #[.int .i64 k, .slice none 0 0] 27))
          have hbW3 : Below w2.heap.size w2 W3 := by rw [hW3]; exact (Below.refl _ _).alloc (Nat.le_refl _) _
          have HA0 : Hid (EAcc W3 w2.heap.size k (.slice none 0 0) (indTo es l 0 0)) := by
            refine ⟨by rw [hW3]; exact heap_alloc_new _ _, ?_⟩
            have : indTo es l 0 0 = [] := by unfold indTo; rw [rowI_none es l (by omega)]; rfl
            rw [this]
            exact World.ownsRow_nil _ _ _ _
          have HW3 := hid hW3
          clear HU hg2 hi2 ho2 hbw2 hbW2 hW3
          go_wp2
          rw [← HW3.out]
          clear HW3
          go_loopg [8] k (fun Gh i wz => ∃ (p : Nat) (sv : Value), p ≤ k ∧ k - p ≤ Gh ∧ i = .int .i64 p ∧ Hid (EAcc wz w2.heap.size k sv (indTo es l p 0)) ∧ Hid (Below w2.heap.size w2 wz))
          case atStart => exact ⟨0, _, Nat.zero_le _, by omega, rfl, HA0, hbW3⟩
          case round =>
            obtain ⟨p, sv, hp, hGp, rfl, hacc, hbp⟩ := hrel
            by_cases hlp : p < k
            · have q1 : (p : Int) < (k : Int) := by omega
              have HA1 : Hid (∃ sv, EAcc wr w2.heap.size k sv (indTo es l p (p + 1))) := by
                have e : indTo es l p (p + 1) = indTo es l p 0 := by unfold indTo; rw [rowI_none es l (show p + 1 ≤ p + 1 by omega), rowI_none es l (show 0 ≤ p + 1 by omega)]
                rw [Hid, e]; exact ⟨sv, hacc.out⟩
              clear hacc
              go_wp2
              go_loopg [9] k (fun Gj i wz => ∃ (q : Nat), p < q ∧ q ≤ k ∧ k - q ≤ Gj ∧ i = .int .i64 q ∧ Hid (∃ sv, EAcc wz w2.heap.size k sv (indTo es l p q)) ∧ Hid (Below w2.heap.size w2 wz))
              case atStart => exact ⟨p + 1, by omega, by omega, by omega, by go_num, HA1, hbp⟩
              case round =>
                obtain ⟨q, hpq, hq, hGq, rfl, haq, hbq⟩ := hrel
                by_cases hlq : q < k
                · have hbWr : Below W.heap.size W wr := HBW2.out.trans (hbq.out.mono HBW2.out.size)
                  obtain ⟨hg, hi, hbw, _⟩ := HGC.out wr hbWr
                  have hpr : p < l.length := by rw [← HM.out]; exact hlp
                  have hqr : q < l.length := by rw [← HM.out]; exact hlq
                  obtain ⟨g, off, rfl, hgl, hcs⟩ := hi (by omega)
                  have d0 := hcs p hpr
                  have d1 := hcs q hqr
                  obtain ⟨x, hx⟩ := ex_eq l[p]
                  obtain ⟨y, hy⟩ := ex_eq l[q]
                  rw [← hx] at d0
                  rw [← hy] at d1
                  obtain ⟨h, hh⟩ := boolR_of (RightG n es ∧ Adj es x y)
                  have CH := hid (CHH.out h x y hh)
                  have HGd : Hid (GC wr.drew w.heap.size n a N cap es) := hg.on (Below.refl _ _).drew
                  have HS5 : Hid (∀ w5, Below wr.drew.heap.size wr.drew w5 → w5.cell? ⟨w.heap.size, 0, none⟩ = some (.int .i64 n) ∧ w5.cell? ⟨w.heap.size, 1, none⟩ = some (.slice a N cap) ∧ w5.cell? ⟨g, off + p, none⟩ = some (.int .i64 x) ∧ w5.cell? ⟨g, off + q, none⟩ = some (.int .i64 y)) := fun w5 h5 =>
                    ⟨(HGd.out.on h5).n0, (HGd.out.on h5).e0, (h5.cell (p := ⟨g, off + p, none⟩) hgl).trans d0, (h5.cell (p := ⟨g, off + q, none⟩) hgl).trans d1⟩
                  obtain ⟨sv, hacc⟩ := haq.out
                  have HACC : Hid (∀ w5, Below wr.drew.heap.size wr.drew w5 → EAcc w5 w2.heap.size k sv (indTo es l p q)) := fun w5 h5 => (hacc.below (Below.refl _ _).drew).below h5
                  have HB5 : Hid (∀ w5, Below wr.drew.heap.size wr.drew w5 → Below w2.heap.size w2 w5) := fun w5 h5 => hbq.out.drew.trans (h5.mono (by simpa using hbq.out.size))
                  have hlen := indTo_len es l p q
                  have hle2 : p * l.length + q ≤ 1001000 := by
                    rw [← HM.out]
                    have : p * k ≤ 1000 * 1000 := Nat.mul_le_mul (by omega) hM1
                    omega
                  have HNX : Hid (indTo es l p (q + 1) = indTo es l p q ++ (if h = true then [((p : Int), (q : Int))] else [])) := by
                    show _ = _
                    rw [indTo_next]
                    congr 1
                    have e1 : l.getD p 0 = x := by rw [hx]; simp [List.getD, hpr]
                    have e2 : l.getD q 0 = y := by rw [hy]; simp [List.getD, hqr]
                    rw [e1, e2]
                    have : (decide (p < q) && adjB es x y) = h := by
                      rw [Bool.eq_iff_iff, Bool.and_eq_true, decide_eq_true_eq, adjB_iff, hh]
                      exact ⟨fun e => ⟨HRG.out, e.2⟩, fun e => ⟨hpq, e.2⟩⟩
                    rw [this]
                  obtain ⟨E, hEe⟩ := ex_eq (indTo es l p q)
                  rw [← hEe] at HACC HNX hlen hacc
                  have q2 : (q : Int) < (k : Int) := by omega
                  have q3 : (p : Int) < (k : Int) := by omega
                  obtain ⟨aS, cs, hsv, _, _⟩ := eat_own hacc.own
                  subst hsv
                  obtain ⟨K, hK⟩ := ex_eq E.length
                  have HK := hid hK
                  have hKl : K ≤ 1001000 := by omega
                  clear hcs d0 d1 hx hy hh hg hi hbw hbWr haq hbq hlen hle2 hEe hacc hpr hqr
                  go_wp2_with fail
                  refine wp_region_held_drew (S := (fun X => X.cell? ⟨w.heap.size, 0, none⟩ = some (.int .i64 n) ∧ X.cell? ⟨w.heap.size, 1, none⟩ = some (.slice a N cap) ∧ X.cell? ⟨g, off + p, none⟩ = some (.int .i64 x) ∧ X.cell? ⟨g, off + q, none⟩ = some (.int .i64 y))) (by kernel_rfl) (HS5.out wr.drew (Below.refl _ _)) (fun hHeld => ?_)
                  (refine takeW (i := 0) (dst := some 56) (v := ?_) rfl rfl (by kernel_rfl) (by kernel_rfl) (by kernel_rfl) (fun _ _ _ h => h) (Or.inl ⟨by rfl, ?_⟩) hHeld ?_; rotate_left; focus (intro w hSw; (try dsimp only at hSw); go_simp; (try with_reducible rfl); done))
                  try simp only [Act.put, List.setIfInBounds_toArray, List.set_cons_zero, List.set_cons_succ]
                  (refine takeW (i := 1) (dst := some 57) (v := ?_) rfl rfl (by kernel_rfl) (by kernel_rfl) (by kernel_rfl) (fun _ _ _ h => h) (Or.inl ⟨by rfl, ?_⟩) hHeld ?_; rotate_left; focus (intro w hSw; (try dsimp only at hSw); go_simp; (try with_reducible rfl); done))
                  try simp only [Act.put, List.setIfInBounds_toArray, List.set_cons_zero, List.set_cons_succ]
                  (refine takeW (i := 2) (dst := some 58) (v := ?_) rfl rfl (by kernel_rfl) (by kernel_rfl) (by kernel_rfl) (fun _ _ _ h => h) (Or.inl ⟨by rfl, ?_⟩) hHeld ?_; rotate_left; focus (intro w hSw; (try dsimp only at hSw); go_simp; (try with_reducible rfl); done))
                  try simp only [Act.put, List.setIfInBounds_toArray, List.set_cons_zero, List.set_cons_succ]
                  (refine takeW (i := 3) (dst := some 59) (v := ?_) rfl rfl (by kernel_rfl) (by kernel_rfl) (by kernel_rfl) (fun _ _ _ h => h) (Or.inl ⟨by rfl, ?_⟩) hHeld ?_; rotate_left; focus (intro w hSw; (try dsimp only at hSw); go_simp; (try with_reducible rfl); done))
                  try simp only [Act.put, List.setIfInBounds_toArray, List.set_cons_zero, List.set_cons_succ]
                  (refine takeW (i := 4) (dst := some 60) (v := ?_) rfl rfl (by kernel_rfl) (by kernel_rfl) (by kernel_rfl) (fun _ _ _ h => h) (Or.inl ⟨by rfl, ?_⟩) hHeld ?_; rotate_left; focus (intro w hSw; (try dsimp only at hSw); go_simp; (try with_reducible rfl); done))
                  try simp only [Act.put, List.setIfInBounds_toArray, List.set_cons_zero, List.set_cons_succ]
                  (refine takeW (i := 5) (dst := some 61) (v := ?_) rfl rfl (by kernel_rfl) (by kernel_rfl) (by kernel_rfl) (fun _ _ _ h => h) (Or.inl ⟨by rfl, ?_⟩) hHeld ?_; rotate_left; focus (intro w hSw; (try dsimp only at hSw); go_simp; (try with_reducible rfl); done))
                  try simp only [Act.put, List.setIfInBounds_toArray, List.set_cons_zero, List.set_cons_succ]
                  (refine takeW (i := 6) (dst := some 62) (v := ?_) rfl rfl (by kernel_rfl) (by kernel_rfl) (by kernel_rfl) (fun _ _ _ h => h) (Or.inl ⟨by rfl, ?_⟩) hHeld ?_; rotate_left; focus (intro w hSw; (try dsimp only at hSw); go_simp; (try with_reducible rfl); done))
                  try simp only [Act.put, List.setIfInBounds_toArray, List.set_cons_zero, List.set_cons_succ]
                  (refine takeW (i := 7) (dst := some 63) (v := ?_) rfl rfl (by kernel_rfl) (by kernel_rfl) (by kernel_rfl) (fun _ _ _ h => h) (Or.inl ⟨by rfl, ?_⟩) hHeld ?_; rotate_left; focus (intro w hSw; (try dsimp only at hSw); go_simp; (try with_reducible rfl); done))
                  try simp only [Act.put, List.setIfInBounds_toArray, List.set_cons_zero, List.set_cons_succ]
                  (refine takeW (i := 8) (dst := some 64) (v := ?_) rfl rfl (by kernel_rfl) (by kernel_rfl) (by kernel_rfl) (fun _ _ _ h => h) (Or.inl ⟨by rfl, ?_⟩) hHeld ?_; rotate_left; focus (intro w hSw; (try dsimp only at hSw); go_simp; (try with_reducible rfl); done))
                  try simp only [Act.put, List.setIfInBounds_toArray, List.set_cons_zero, List.set_cons_succ]
                  refine wpAnyH_ready (rs := [9]) (by kernel_rfl) (by simp) ?_
                  refine AllReadyH.cons (o := _) rfl (fun KK hK => ?_) AllReadyH.nil
                  go_simp
                  refine (CH.out _ HGd.out).mono ?_
                  rintro e w5 ⟨rfl, hb5⟩
                  have hS5 := HS5.out w5 hb5
                  refine hK.out _ _ hS5 (fun hHeld => ?_)
                  clear hK KK
                  try simp only [Act.put]
                  try simp only [List.setIfInBounds_toArray]
                  try simp only [List.set_cons_succ]
                  try simp only [List.set_cons_zero]
                  refine wpAnyH_done (by kernel_rfl) ?_ _
                  have HA5 := hid (HACC.out w5 hb5)
                  have HBx := hid (HB5.out w5 hb5)
                  clear hHeld hS5 hb5 HS5 HGd CH HACC HB5
                  cases h with
                  | false =>
                    have HNY : Hid (∃ sv, EAcc w5 w2.heap.size k sv (indTo es l p (q + 1))) := by
                      rw [Hid, HNX.out]
                      simp only [Bool.false_eq_true, if_false, List.append_nil]
                      exact ⟨_, HA5.out⟩
                    clear HA5 HNX
                    go_wp2
                    go_roundg (k - (q + 1))
                    case measure => omega
                    case rel => exact ⟨q + 1, by omega, by omega, Nat.le_refl _, by go_num, HNY, HBx⟩
                  | true =>
                    have b1 : w5.cell? ⟨w2.heap.size, 1, none⟩ = some (.slice aS K cs) := by rw [hK]; exact cell_of_heap HA5.out.box 1
                    have HOW : Hid ((w5.alloc (.cells #[.int .i64 p, .int .i64 q] 40)).ownsRow (w2.heap.size + 1) 40 2 (.slice aS K cs) K (cellsE E)) := by
                      show World.ownsRow _ _ _ _ _ _ _
                      rw [hK]; exact HA5.out.own.alloc _
                    have HNW : Hid (∀ p', some (⟨w5.heap.size, 0, none⟩ : Addr) = some p' → ∀ i v, [Value.int .i64 (p : Int), .int .i64 (q : Int)][i]? = some v → (w5.alloc (.cells #[.int .i64 p, .int .i64 q] 40)).cell? (p'.add i) = some v) := fun p' hp' => by cases hp'; exact cells_two (heap_alloc_new w5 _)
                    have HON : Hid (∀ v ∈ [Value.int .i64 (p : Int), .int .i64 (q : Int)], v.oneCell' = true) := fun v hv => by simp at hv; rcases hv with rfl | rfl <;> rfl
                    have H63 : Hid (K + 1 ≤ maxLen) := by show K + 1 ≤ maxLen; unfold maxLen; omega
                    have hB7 : w2.heap.size < w5.heap.size := (Array.getElem?_eq_some_iff.1 HA5.out.box).1
                    have HBS : Hid (w2.heap.size + 1 ≤ (w5.alloc (.cells #[.int .i64 p, .int .i64 q] 40)).heap.size) := by show w2.heap.size + 1 ≤ _; simp; omega
                    have HPUT : Hid (∀ v4 w4, w4.ownsRow (w2.heap.size + 1) 40 2 v4 (K + 1) (cellsE E ++ [.int .i64 (p : Int), .int .i64 (q : Int)]) → (w5.alloc (.cells #[.int .i64 p, .int .i64 q] 40)).grownBy w4 (Value.slice aS K cs).ownBlock → EAcc (w4.setCell ⟨w2.heap.size, 1, none⟩ v4) w2.heap.size k v4 (indTo es l p (q + 1)) ∧ w4.cell? ⟨w2.heap.size, 1, none⟩ = some (.slice aS K cs) ∧ w4.frozen? ⟨w2.heap.size, 1, none⟩ = false ∧ Below w2.heap.size w2 (w4.setCell ⟨w2.heap.size, 1, none⟩ v4)) := fun v4 w4 h1 h2 => by
                      rw [hK] at h1 h2
                      obtain ⟨e1, e2, e3⟩ := HA5.out.put h2 h1
                      rw [HNX.out, if_pos rfl]
                      refine ⟨e1, by rw [hK]; exact e2, e3, ?_⟩
                      refine (Below.grown (HBx.out.alloc (by omega) _) h2 (by simp; omega) (fun j hj => ?_)).setCell (p := ⟨w2.heap.size, 1, none⟩) (Nat.le_refl _) _
                      have := (HA5.out.own.lt j hj).1
                      omega
                    clear HA5 HNX HBx hB7 hK
                    go_wp2_with (at_builtin; refine wpList_append_any _ rfl _ _ 22 rfl (w2.heap.size + 1) 40 i1 _ 2 16 Try.underlying22 hj hy0 hy1 hy2 rfl (by decide) _ _ _ rfl HOW.out (some ⟨w5.heap.size, 0, none⟩) 1 1 [.int .i64 p, .int .i64 q] rfl (fun h => by cases h) rfl HNW.out HON.out H63.out (by omega) HBS.out ?_; intro v4 w4 hown4 hgrow4 _; obtain ⟨e1, e2, e3, e4⟩ := HPUT.out v4 w4 hown4 hgrow4; obtain ⟨g', cap', rfl⟩ := ownsRow_succ hown4; have HE1 := hid e1; have HE4 := hid e4; clear hown4 hgrow4 e1 e4)
                    try go_wp2
                    go_roundg (k - (q + 1))
                    case measure => omega
                    case rel => exact ⟨q + 1, by omega, by omega, Nat.le_refl _, by go_num, ⟨_, HE1.out⟩, HE4⟩
                · obtain rfl : q = k := by omega
                  obtain ⟨sv, hacc⟩ := haq.out
                  have HNY : Hid (EAcc wr w2.heap.size q sv (indTo es l (p + 1) 0)) := by
                    rw [Hid, ← indTo_row es l (i := p) (j := q) (j' := 0) HM.out (by omega)]
                    exact hacc
                  clear haq hacc
                  go_wp2
                  go_roundg (q - (p + 1))
                  case measure => omega
                  case rel => exact ⟨p + 1, sv, by omega, Nat.le_refl _, by go_num, HNY, hbq⟩
            · obtain rfl : p = k := by omega
              have HIE : Hid (IndE es l (indTo es l l.length 0)) := indTo_all es l (by omega)
              have hacc2 := hacc.out
              rw [HM.out] at hacc2
              obtain ⟨E, hEe⟩ := ex_eq (indTo es l l.length 0)
              rw [← hEe] at HIE hacc2
              rw [← HM.out] at hacc2
              obtain ⟨aS, cs, hsv, hsl, hea⟩ := eat_own hacc2.own
              subst hsv
              have hge := own_ge hacc2.own
              have b0 := cell_of_heap hacc2.box 0
              have b1 := cell_of_heap hacc2.box 1
              have hbWr : Below W.heap.size W wr := HBW2.out.trans (hbp.out.mono HBW2.out.size)
              obtain ⟨_, _, hbw, ho⟩ := HGC.out wr hbWr
              have y0 := cell_of_heap ho 0
              have y1 := cell_of_heap ho 1
              have yf0 := frozen_of_heap ho 0
              have yf1 := frozen_of_heap ho 1
              obtain ⟨K, hK⟩ := ex_eq E.length
              have HK := hid hK
              rw [← hK] at b1
              have HSL := hid hsl
              have HEA := hid hea
              have HGE := hid hge
              have HBwr := hid hbw
              have hw2s := HBW2.out.size
              have HIS : Hid (IndS n es l 0 p E) := Or.inr (Or.inr (Or.inr ⟨HRG.out, HIN.out, HND.out, rfl, by rw [← HM.out], HIE.out⟩))
              clear hacc hacc2 hEe hsl hea hge ho hbw hbWr HIE hK hj hy0 hy1 hy2
              go_wp2
              refine bodyPost_ret (v := .tuple #[.agg #[.int .i64 p, .slice aS K cs], .int .i64 0]) ?_ rfl ⟨_, rfl, 0, p, E, aS, cs, by rw [← HK.out], HIS.out, HSL.out, ?_, ?_⟩
              · rw [results_cell_tmp rfl]
                go_simp
              · have hne : ∀ g off, 0 < E.length → aS = some ⟨g, off, none⟩ → g ≠ w.heap.size + 1 := fun g off _ ha => by have := HGE.out g off ha; omega
                exact (HEA.out.set (p := ⟨w.heap.size + 1, 0, none⟩) hne _).set (p := ⟨w.heap.size + 1, 1, none⟩) hne _
              · exact (HBwr.out.setCell (p := ⟨w.heap.size + 1, 0, none⟩) (by simp) _).setCell (p := ⟨w.heap.size + 1, 1, none⟩) (by simp) _
end Go.Proofs.Ytagigeieoijciaa
