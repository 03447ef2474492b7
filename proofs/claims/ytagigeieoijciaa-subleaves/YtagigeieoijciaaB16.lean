/-
  The program's Induced keeps its contract.
  The document's Of of layer 3: a graph of a Net.
  The document's Contract (layer 6): what its loops keep. No program is named here.
  The document's Contract (layer 6): its codes. (The way behind Has is not walked yet.)
-/
import Derived.Test.YtagigeieoijciaaB15
import Derived.Test.YtagigeieoijciaaB12
import Derived.Test.YtagigeieoijciaaB11
import Derived.Test.YtagigeieoijciaaB05
import Derived.Test.YtagigeieoijciaaB03
import Derived.Test.YtagigeieoijciaaB14
import Derived.Lib.Walk
namespace Go.Proofs.Ytagigeieoijciaa
open Go.RowKit Go.Lib

theorem ind_of_ren {m : Nat} {l : List Int} {F : Nat → Int} {es : List (Int × Int)} {er N : Int} {E : List (Int × Int)} (hR : RightG m es) (hi : InL m l) (hn : l.Nodup) (hF : PlOK m l l.length F) (h : RenS (l.length : Int) (fun v => F v.toNat) es er N E) : IndS m es l er N E := by
  have hl := inl_len hi hn
  have hP := hF.is
  have := hR.2.1
  obtain ⟨rfl, rfl, h3⟩ := ren_ok hR (by omega) (by omega) (fun v h0 h1 => by
    rcases hP v h0 h1 with ⟨h2, _⟩ | ⟨i, hi, _, h2⟩
    · exact Or.inl h2
    · have h3 : F v.toNat = i := h2
      exact Or.inr (show 0 ≤ F v.toNat ∧ F v.toNat < _ by omega)) h
  exact Or.inr (Or.inr (Or.inr ⟨hR, hi, hn, rfl, rfl, ren_ind hR hn hP h3⟩))

set_option maxHeartbeats 4000000 in
set_option maxRecDepth 100000 in
theorem sub_ind_any (n : Int) (a : Option Addr) (cap : Nat) (es : List (Int × Int)) (la : Option Addr) (lc : Nat) (l : List Int) (b : Bool) (w : World) (hN : es.length ≤ 1000000) (hL : l.length ≤ 1000000) (hE : EAt w a es) (hI : IAt w la l) (hb : b = true ↔ RightG n es) :
    Calls Try.prog 12 #[.agg #[.int .i64 n, .slice a es.length cap], .slice la l.length lc] w fun e w' => ∃ v, e = .returned v ∧ SubTold (IndS n es l) w w' v := by
  obtain ⟨N, hNe⟩ := ex_eq es.length
  obtain ⟨M, hMe⟩ := ex_eq l.length
  obtain ⟨W, hW, hsW, hO0, hO1, hbW⟩ := new_two w (.cells #[.int .i64 n, .slice a N cap] 27) (.cells #[.int .i64 0, .slice none 0 0] 27)
  have HGC : Hid (∀ X, Below W.heap.size W X → GC X w.heap.size n a N cap es ∧ IAt X la l ∧ Below w.heap.size w X ∧ X.heap[w.heap.size + 1]? = some (.cells #[.int .i64 0, .slice none 0 0] 27 (0, 0))) := fun X hX => by
    have o := (hX.block _ (by omega)).trans hO0
    have o1 := (hX.block (w.heap.size + 1) (by omega)).trans hO1
    have hbx : Below w.heap.size w X := hbW.trans (hX.mono (by omega))
    exact ⟨⟨cell_of_heap o 0, cell_of_heap o 1, hE.below hbx⟩, hI.below hbx, hbx, o1⟩
  have CR : Hid (∀ X, Below W.heap.size W X → Calls Try.prog 23 #[.agg #[.int .i64 n, .slice a N cap]] X fun e w' => e = .returned (.bool b) ∧ Below X.heap.size X w') := fun X hX => by
    rw [hNe]; exact right_any n a cap es b X hN (HGC.out X hX).1.at_ hb
  obtain ⟨u, hu⟩ := boolR_of (InL n l)
  have CU : Hid (∀ X, GC X w.heap.size n a N cap es → IAt X la l → Calls Try.prog 27 #[.slice la M lc, .func (.func 28) #[] #[.pointer (some ⟨w.heap.size, 0, none⟩)]] X fun e w' => e = .returned (.bool (!u)) ∧ Below X.heap.size X w') := fun X hG hX => by
    rw [hMe]; exact noContains_any n a N cap w.heap.size la lc l u X hG.n0 hG.e0 hL hX hu
  have CRN : Hid (∀ (m : Nat) (g P : Nat) (F : Nat → Int) X, n = m → RightG n es → GC X w.heap.size n a N cap es → X.cell? ⟨P, 0, none⟩ = some (.slice (some ⟨g, 0, none⟩) m m) → Row1 X g m F → Calls Try.prog 31 #[.agg #[.int .i64 m, .slice a N cap], .agg #[.int .i64 M, .func (.func 32) #[] #[.pointer (some ⟨P, 0, none⟩)]]] X fun e w' => ∃ v, e = .returned v ∧ SubTold (RenS (l.length : Int) (fun v => F v.toNat) es) X w' v) := fun m g P F X hm hR hX hP hF => by
    rw [hNe, hMe]; subst hm
    refine ren_place m (l.length : Int) a cap es (fun v => F v.toNat) P X hN hX.at_ (fun e he => by have := hR.2.2.2.1 e he; omega) (fun X' x h0 h1 hX' => ?_)
    obtain ⟨k, rfl⟩ : ∃ k : Nat, x = k := ⟨x.toNat, by omega⟩
    exact placed_any m g P k F X' (by omega) ((hX'.cell (p := ⟨P, 0, none⟩) (block_lt_of_cell hP)).trans hP) (hF.belowW hX')
  have HBB := hid hb
  have HM := hid hMe
  have HU := hid hu
  have HW := hid hW
  have HZ : Hid (∀ X, Below w.heap.size w X → Below w.heap.size w ((X.setCell ⟨w.heap.size + 1, 0, none⟩ (.int .i64 0)).setCell ⟨w.heap.size + 1, 1, none⟩ (.slice none 0 0))) := fun X hX => (hX.setCell (p := ⟨w.heap.size + 1, 0, none⟩) (by simp) _).setCell (p := ⟨w.heap.size + 1, 1, none⟩) (by simp) _
  rw [← hMe] at hL ⊢
  rw [← hNe]
  clear hNe hMe hW hO0 hO1 hbW hE hI hb hu hN
  go_enter Try.func12, Try.ntmps12
  go_wp2_with fail
  rw [← HW.out]
  refine (CR.out W (Below.refl _ _)).mono ?_
  rintro e w1 ⟨rfl, hb1⟩
  obtain ⟨hg1, hi1, hbw1, ho1⟩ := HGC.out w1 hb1
  have HB1 := hid hb1
  have HBw1 := hid hbw1
  have z0 := cell_of_heap ho1 0
  have z1 := cell_of_heap ho1 1
  have zf0 := frozen_of_heap ho1 0
  have zf1 := frozen_of_heap ho1 1
  clear CR hb1 hbw1 HW
  cases b with
  | false =>
    have HNR : Hid (IndS n es l 1 0 []) := Or.inl ⟨(fun h => by have := HBB.out.2 h; cases this), rfl, rfl, rfl⟩
    clear HBB HU hg1 ho1 hi1
    go_wp2
    refine bodyPost_ret (v := .tuple #[.agg #[.int .i64 0, .slice none 0 0], .int .i64 1]) ?_ rfl ⟨_, rfl, subTold_none HNR.out (HZ.out w1 HBw1.out)⟩
    rw [results_cell_tmp rfl]
    go_simp
  | true =>
    have HRG := hid (HBB.out.1 rfl)
    have C2 := hid (CU.out w1 hg1 hi1)
    clear HBB hg1 ho1 z0 z1 zf0 zf1 CU hi1
    go_wp2_with fail
    refine C2.out.mono ?_
    rintro e w2 ⟨rfl, hb2⟩
    have hbW2 : Below W.heap.size W w2 := HB1.out.trans (hb2.mono HB1.out.size)
    obtain ⟨hg2, _, hbw2, ho2⟩ := HGC.out w2 hbW2
    have HB2 := hid hbW2
    have HBw2 := hid hbw2
    clear C2 hb2 hbW2 hbw2 HB1 HBw1
    cases u with
    | false =>
      have z0 := cell_of_heap ho2 0
      have z1 := cell_of_heap ho2 1
      have zf0 := frozen_of_heap ho2 0
      have zf1 := frozen_of_heap ho2 1
      have HNR : Hid (IndS n es l 4 0 []) := Or.inr (Or.inl ⟨HRG.out, (fun h => by have := HU.out.2 h; cases this), rfl, rfl, rfl⟩)
      clear ho2 hg2 HU
      go_wp2
      refine bodyPost_ret (v := .tuple #[.agg #[.int .i64 0, .slice none 0 0], .int .i64 4]) ?_ rfl ⟨_, rfl, subTold_none HNR.out (HZ.out w2 HBw2.out)⟩
      rw [results_cell_tmp rfl]
      go_simp
    | true =>
      have HIN := hid (HU.out.1 rfl)
      obtain ⟨m, rfl⟩ : ∃ m : Nat, n = m := ⟨n.toNat, by have := HRG.out.1; omega⟩
      have hm : m ≤ 1000 := by have := HRG.out.2.1; omega
      obtain ⟨V3, hV3⟩ := ex_eq (w2.alloc (.cells #[.int .i64 (-1)] 3))
      have hbV3 : Below W.heap.size W V3 := by rw [hV3]; exact HB2.out.alloc HB2.out.size _
      have hc3 : V3.cell? ⟨w2.heap.size, 0, none⟩ = some (.int .i64 (-1)) := by rw [hV3]; exact cell_of_heap (heap_alloc_new w2 _) 0
      obtain ⟨hg3, _, _, _⟩ := HGC.out V3 hbV3
      have g0 : (w2.alloc (Obj.cells #[.int .i64 (-1)] 3 (0, 0))).cell? ⟨w.heap.size, 0, none⟩ = some (.int .i64 m) := by rw [← hV3]; exact hg3.n0
      have C3 := hid (rep_int w2.heap.size 0 1 (-1) m V3 hm hc3)
      have HV3 := hid hV3
      have HB3 := hid hbV3
      clear hg2 ho2 HU hV3 hbV3 hc3 hg3 HB2 HBw2
      go_wp2_with fail
      rw [← HV3.out]
      clear HV3
      refine C3.out.mono ?_
      rintro e w4 ⟨g, rfl, hge4, hrow4, hb4⟩
      obtain ⟨V5, hV5⟩ := ex_eq (w4.alloc (.cells #[.slice (some ⟨g, 0, none⟩) m m] 25))
      have HB5 : Hid (Below W.heap.size W V5) := by
        show Below _ _ _
        have h4 : Below W.heap.size W w4 := HB3.out.trans (hb4.mono HB3.out.size)
        rw [hV5]; exact h4.alloc h4.size _
      have HP5 : Hid (V5.heap[w4.heap.size]? = some (.cells #[.slice (some ⟨g, 0, none⟩) m m] 25 (0, 0))) := by
        show _ = _
        rw [hV5]; exact heap_alloc_new _ _
      have HR5 : Hid (Row1 V5 g m (fun _ => -1)) := by
        show Row1 _ _ _ _
        rw [hV5]; exact hrow4.alloc _
      have hgW : W.heap.size ≤ g := Nat.le_trans HB3.out.size hge4
      have hgP : g < w4.heap.size := hrow4.1
      have HV5 := hid hV5
      clear C3 g0 hb4 hrow4 hge4 hV5 HB3
      go_wp2
      rw [← HV5.out]
      clear HV5
      go_loopg [23] M (fun Gh i wz => ∃ (k : Nat) (F : Nat → Int), k ≤ M ∧ M - k ≤ Gh ∧ i = .int .i64 k ∧ Hid ((l.take k).Nodup) ∧ Hid (PlOK m l k F) ∧ Hid (Row1 wz g m F) ∧ Hid (wz.heap[w4.heap.size]? = some (.cells #[.slice (some ⟨g, 0, none⟩) m m] 25 (0, 0))) ∧ Hid (Below W.heap.size W wz))
      case atStart => exact ⟨0, _, Nat.zero_le _, by omega, rfl, List.nodup_nil, PlOK.zero m l, HR5, HP5, HB5⟩
      case round =>
        obtain ⟨k, F, hk, hGh, rfl, hnd, hpl, hrow, hP, hbr⟩ := hrel
        obtain ⟨hg, hi, hbw, ho⟩ := HGC.out wr hbr.out
        by_cases hlt : k < M
        · have hkr : k < l.length := by rw [← HM.out]; exact hlt
          obtain ⟨gl, off, rfl, hgl, hcs⟩ := hi (by omega)
          have d0 := hcs k hkr
          have hin := HIN.out _ (List.getElem_mem hkr)
          obtain ⟨x, hx⟩ : ∃ x : Nat, l[k] = (x : Int) := ⟨(l[k]).toNat, by omega⟩
          rw [hx] at d0 hin
          have hxm : x < m := by omega
          obtain ⟨f1, f2⟩ := hrow.out.2 x hxm
          obtain ⟨d, hd⟩ := ex_eq (F x)
          rw [← hd] at f1
          have p0 := cell_of_heap hP.out 0
          have q1 : (k : Int) < (M : Int) := by omega
          have q2 : (x : Int) < (m : Int) := by omega
          have HX := hid hx
          have HD := hid hd
          have HHO := hid ho
          have HBW := hid hbw
          have HG := hid hg
          have HKR : Hid (k < l.length) := hkr
          clear hcs hx hd hg ho hbw hi hin
          by_cases hd1 : d = -1
          · subst hd1
            have HND : Hid ((l.take (k + 1)).Nodup) := nodup_more HKR.out hnd.out (by rw [HX.out]; exact hpl.out.fresh hxm HD.out.symm)
            have HPL : Hid (PlOK m l (k + 1) (fun j => if j = x then (k : Int) else F j)) := hpl.out.next HKR.out HX.out
            have HRW : Hid (Row1 (wr.setCell ⟨g, x, none⟩ (.int .i64 k)) g m (fun j => if j = x then (k : Int) else F j)) := hrow.out.put hxm _
            have HPW : Hid ((wr.setCell ⟨g, x, none⟩ (.int .i64 k)).heap[w4.heap.size]? = some (.cells #[.slice (some ⟨g, 0, none⟩) m m] 25 (0, 0))) := by
              show _ = _
              rw [Below.heap_setCell _ _ _ _ (by simp; omega)]
              exact hP.out
            have HBR : Hid (Below W.heap.size W (wr.setCell ⟨g, x, none⟩ (.int .i64 k))) := hbr.out.setCell (p := ⟨g, x, none⟩) hgW _
            clear hnd hpl hrow hP hbr HHO HBW HG HD HX
            go_wp2
            go_roundg (M - (k + 1))
            case measure => omega
            case rel => exact ⟨k + 1, _, by omega, Nat.le_refl _, by go_num, HND, HPL, HRW, HPW, HBR⟩
          · have HNR : Hid (IndS m es l 1 0 []) := Or.inr (Or.inr (Or.inl ⟨HRG.out, HIN.out, hpl.out.twice HKR.out hxm HX.out (by rw [← HD.out]; exact hd1), rfl, rfl, rfl⟩))
            have b1 : (d == -1) = false := beq_eq_false_iff_ne.2 hd1
            have b2 : (d != -1) = true := by simp [hd1]
            have z0 := cell_of_heap HHO.out 0
            have z1 := cell_of_heap HHO.out 1
            have zf0 := frozen_of_heap HHO.out 0
            have zf1 := frozen_of_heap HHO.out 1
            clear hnd hpl hrow hP hbr HG HD HX HHO
            go_wp2
            refine bodyPost_ret (v := .tuple #[.agg #[.int .i64 0, .slice none 0 0], .int .i64 1]) ?_ rfl ⟨_, rfl, subTold_none HNR.out (HZ.out wr HBW.out)⟩
            rw [results_cell_tmp rfl]
            go_simp
        · obtain rfl : k = M := by omega
          have HND : Hid (l.Nodup) := by
            have := hnd.out
            rw [HM.out, List.take_length] at this
            exact this
          have HPL : Hid (PlOK m l l.length F) := by
            have := hpl.out
            rw [HM.out] at this
            exact this
          have p0 := cell_of_heap hP.out 0
          have CI := hid (CRN.out m g w4.heap.size F wr rfl HRG.out hg p0 hrow.out)
          obtain ⟨g0, g1⟩ := hg.cells
          have HBR := hid hbr.out
          have HBW := hid hbw
          clear hnd hpl hg ho hbw hi hrow hP p0 CRN
          go_wp2_with fail
          refine CI.out.mono ?_
          rintro e w6 ⟨v6, rfl, ht6⟩
          obtain ⟨er, N6, E6, a6, c6, rfl, hs6, hsl6, hea6, hb6⟩ := ht6
          have hbW6 : Below W.heap.size W w6 := HBR.out.trans (hb6.mono HBR.out.size)
          obtain ⟨_, _, hbw6, ho6⟩ := HGC.out w6 hbW6
          have HDS : Hid (IndS m es l er N6 E6) := ind_of_ren HRG.out HIN.out HND.out HPL.out hs6
          have HSL6 := hid hsl6
          have HEA6 := hid hea6
          have HBw6 := hid hbw6
          have HNE6 := hid (eat_off_box ho6 hea6)
          have z0 := cell_of_heap ho6 0
          have z1 := cell_of_heap ho6 1
          have zf0 := frozen_of_heap ho6 0
          have zf1 := frozen_of_heap ho6 1
          clear CI hs6 hsl6 hea6 hb6 hbW6 hbw6 ho6 g0 g1
          go_wp2
          refine bodyPost_ret (v := .tuple #[.agg #[.int .i64 N6, .slice a6 E6.length c6], .int .i64 er]) ?_ rfl ⟨_, rfl, er, N6, E6, a6, c6, rfl, HDS.out, HSL6.out, ?_, ?_⟩
          · rw [results_cell_tmp rfl]
            go_simp
          · have hne : ∀ g off, 0 < E6.length → a6 = some ⟨g, off, none⟩ → g ≠ w.heap.size + 1 := HNE6.out
            exact (HEA6.out.set (p := ⟨w.heap.size + 1, 0, none⟩) hne _).set (p := ⟨w.heap.size + 1, 1, none⟩) hne _
          · exact (HBw6.out.setCell (p := ⟨w.heap.size + 1, 0, none⟩) (by simp) _).setCell (p := ⟨w.heap.size + 1, 1, none⟩) (by simp) _
end Go.Proofs.Ytagigeieoijciaa
namespace Go.Proofs.Ytagigeieoijciaa
open Go.RowKit Go.Lib

set_option maxHeartbeats 1000000 in
set_option maxRecDepth 100000 in
theorem net_any (n0 : Int) (a : Option Addr) (N cap : Nat) (l : List (Int × Int)) (most : Nat) (w : World) (hmost : most ≤ 1000) (hl : N = l.length) (hE : EAt w a l) :
    Calls Try.prog 11 #[.agg #[.int .i64 n0, .slice a N cap], .int .i64 most] w fun e w' => ∃ (m : Nat) (ys : List (Int × Int)) (a' : Option Addr) (cap' : Nat), e = .returned (.agg #[.int .i64 m, .slice a' ys.length cap']) ∧ m ≤ most ∧ RightG m ys ∧ ys.length ≤ 300 ∧ Sl a' cap' ys.length ∧ EAt w' a' ys ∧ Below w.heap.size w w' := by
  obtain ⟨W0, hW0, hsz, o1, o2, hB0⟩ := new_two' w (.cells #[.int .i64 n0, .slice a N cap] 24) (.cells #[.int .i64 0, .slice none 0 0] 27)
  have CA := hid (any_any n0 a N cap l most W0 hmost hl (hE.below hB0))
  have HW0 := hid hW0
  have HO2 := hid o2
  have HB0 := hid hB0
  clear hl hE hmost hW0 o1 o2 hB0
  go_enter Try.func11, Try.ntmps11
  go_wp2_with fail
  rw [← HW0.out]
  refine CA.out.mono ?_
  rintro e w3 ⟨m, ys, a3, c3, rfl, hm, hR, hys, hsl, hE3, hb3⟩
  obtain ⟨M, hM⟩ := ex_eq ys.length
  have HM := hid hM
  rw [← hM]
  have o3 : w3.heap[w.heap.size + 1]? = some (.cells #[.int .i64 0, .slice none 0 0] 27) := (hb3.block _ (by omega)).trans HO2.out
  have HNE := hid (eat_off_box o3 hE3)
  obtain ⟨x0, x1⟩ := two_cells o3
  have xf := frozen_of_heap o3
  have HB3 : Hid (Below w.heap.size w w3) := HB0.out.trans (hb3.mono HB0.out.size)
  have HE3 := hid hE3
  have HR := hid hR
  have HSL := hid hsl
  clear hM hE3 hb3 hR hsl o3 CA HW0 HO2 HB0
  go_wp2
  refine bodyPost_ret (v := .agg #[.int .i64 m, .slice a3 M c3]) ?_ rfl ⟨m, ys, a3, c3, by rw [← HM.out], hm, HR.out, hys, HSL.out, (HE3.out.set (p := ⟨w.heap.size + 1, 0, none⟩) HNE.out _).set (p := ⟨w.heap.size + 1, 1, none⟩) HNE.out _, (HB3.out.setCell (p := ⟨w.heap.size + 1, 0, none⟩) (by simp) _).setCell (p := ⟨w.heap.size + 1, 1, none⟩) (by simp) _⟩
  rw [results_cell1 rfl]
  go_simp
end Go.Proofs.Ytagigeieoijciaa
namespace Go.Proofs.Ytagigeieoijciaa

/-- The edges, and those of hi's first k neighbours with lo. -/
def allTo (es : List (Int × Int)) (lo : Int) (L : List Int) (k : Nat) : List (Int × Int) := es ++ ((L.take k).filter (fun y => decide (y ≠ lo))).map (fun y => (lo, y))
theorem allTo_zero (es : List (Int × Int)) (lo : Int) (L : List Int) : allTo es lo L 0 = es := by simp [allTo]
theorem allTo_next {es : List (Int × Int)} {lo : Int} {L : List Int} {k : Nat} (hk : k < L.length) : allTo es lo L (k + 1) = allTo es lo L k ++ (if L[k] = lo then [] else [(lo, L[k])]) := by
  unfold allTo
  rw [(List.take_append_getElem hk).symm, List.filter_append, List.map_append, List.append_assoc]
  congr 2
  by_cases e : L[k] = lo
  · rw [if_pos e]; simp [e]
  · rw [if_neg e]; simp [e]
theorem allTo_len (es : List (Int × Int)) (lo : Int) (L : List Int) (k : Nat) : (allTo es lo L k).length ≤ es.length + L.length := by
  unfold allTo
  rw [List.length_append, List.length_map]
  have h1 := List.length_filter_le (fun y : Int => decide (y ≠ lo)) (L.take k)
  rw [List.length_take] at h1
  omega
/-- A pair that stands in them, either way round. -/
def Meets (es : List (Int × Int)) (x y : Int) : Prop := ∃ e ∈ es, (e.1 = x ∧ e.2 = y) ∨ (e.1 = y ∧ e.2 = x)
theorem meets_adj {es : List (Int × Int)} {x y : Int} : Meets es x y ↔ Adj es x y := by
  unfold Meets Adj
  constructor
  · rintro ⟨⟨p, q⟩, he, h⟩
    simp only at h
    rcases h with ⟨rfl, rfl⟩ | ⟨rfl, rfl⟩
    · exact Or.inl he
    · exact Or.inr he
  · rintro (h | h)
    · exact ⟨_, h, Or.inl ⟨rfl, rfl⟩⟩
    · exact ⟨_, h, Or.inr ⟨rfl, rfl⟩⟩
theorem meets_all {n : Int} {es : List (Int × Int)} {lo hi x y : Int} (hR : RightG n es) : Meets (allTo es lo (nbL hi es) (nbL hi es).length) x y ↔ MAdj es lo hi x y := by
  rw [meets_adj]
  unfold allTo MAdj
  rw [List.take_length]
  have hm : ∀ p q : Int, (p, q) ∈ ((nbL hi es).filter (fun y => decide (y ≠ lo))).map (fun y => (lo, y)) ↔ p = lo ∧ q ≠ lo ∧ Adj es hi q := fun p q => by
    simp only [List.mem_map, List.mem_filter, decide_eq_true_eq, Prod.mk.injEq, nbL_right hR]
    constructor
    · rintro ⟨z, ⟨h1, h2⟩, rfl, rfl⟩; exact ⟨rfl, h2, h1⟩
    · rintro ⟨rfl, h2, h3⟩; exact ⟨q, ⟨h3, h2⟩, rfl, rfl⟩
  show ((x, y) ∈ es ++ _ ∨ (y, x) ∈ es ++ _) ↔ _
  rw [List.mem_append, List.mem_append, hm, hm]
  constructor
  · rintro ((h | h) | (h | h))
    · exact Or.inl (Or.inl h)
    · exact Or.inr (Or.inl h)
    · exact Or.inl (Or.inr h)
    · exact Or.inr (Or.inr h)
  · rintro ((h | h) | h | h)
    · exact Or.inl (Or.inl h)
    · exact Or.inr (Or.inl h)
    · exact Or.inl (Or.inr h)
    · exact Or.inr (Or.inr h)
theorem Meets.next {es : List (Int × Int)} {x y : Int} {k : Nat} (hk : k < es.length) : Meets (es.take (k + 1)) x y ↔ Meets (es.take k) x y ∨ ((es[k].1 = x ∧ es[k].2 = y) ∨ (es[k].1 = y ∧ es[k].2 = x)) := by
  unfold Meets
  rw [(List.take_append_getElem hk).symm]
  constructor
  · rintro ⟨e, he, h⟩
    rcases List.mem_append.1 he with he | he
    · exact Or.inl ⟨e, he, h⟩
    · simp at he; subst he; exact Or.inr h
  · rintro (⟨e, he, h⟩ | h)
    · exact ⟨e, List.mem_append_left _ he, h⟩
    · exact ⟨_, List.mem_append_right _ (by simp), h⟩
theorem Meets.sub {es : List (Int × Int)} {x y : Int} {k : Nat} (h : Meets (es.take k) x y) : Meets es x y := by
  obtain ⟨e, he, h⟩ := h
  exact ⟨e, List.mem_of_mem_take he, h⟩
/-- What is merged is right, if there is room. -/
theorem merged_right {n lo hi : Nat} {es : List (Int × Int)} (hR : RightG n es) (hlen : es.length + n ≤ 4000) : RightG n (allP (fun i j => mAdjB es lo hi i j) n) := by
  refine ⟨by omega, hR.2.1, ?_, fun e he => ?_, allP_rises _ _⟩
  · have hs := len_le_of_sub (a := allP (fun i j => mAdjB es lo hi i j) n) (b := es ++ (List.range n).map (fun i : Nat => ((min lo i : Nat), (max lo i : Nat)) : Nat → Int × Int)) (rises_nodup (allP_rises _ _)) (fun e he => by
      obtain ⟨x, y⟩ := e
      obtain ⟨i, j, rfl, rfl, h1, h2, h3⟩ := mem_allP.1 he
      rw [List.mem_append]
      rcases mAdjB_iff.1 h3 with h | ⟨h, _⟩ | ⟨h, _⟩
      · rcases h with h | h
        · exact Or.inl h
        · have := hR.2.2.2.1 _ h
          simp only at this
          omega
      · right
        rw [List.mem_map]
        obtain rfl : i = lo := by omega
        refine ⟨j, by simpa using h2, ?_⟩
        rw [Nat.min_eq_left (by omega), Nat.max_eq_right (by omega)]
      · right
        rw [List.mem_map]
        obtain rfl : j = lo := by omega
        refine ⟨i, by simp; omega, ?_⟩
        rw [Nat.min_eq_right (by omega), Nat.max_eq_left (by omega)])
    rw [List.length_append, List.length_map, List.length_range] at hs
    omega
  · obtain ⟨x, y⟩ := e
    obtain ⟨i, j, rfl, rfl, h1, h2, _⟩ := mem_allP.1 he
    simp only
    omega
end Go.Proofs.Ytagigeieoijciaa
namespace Go.Proofs.Ytagigeieoijciaa
open Go.RowKit Go.Lib

/-- Merged, then deleted: two are one. -/
theorem con_of_del {m : Nat} {es : List (Int × Int)} {x y : Nat} {er N : Int} {E : List (Int × Int)} (hR : RightG m es) (hx : x < m) (hy : y < m) (hadj : Adj es x y) (hlen : es.length + m ≤ 4000) (h : DelS m (allP (fun i j => mAdjB es (min x y : Nat) (max x y : Nat) i j) m) (max x y : Nat) er N E) : ConS m es x y er N E := by
  have hR2 := merged_right (lo := min x y) (hi := max x y) hR hlen
  rcases h with ⟨h1, _⟩ | ⟨_, h2, _⟩ | ⟨_, _, rfl, rfl, h4⟩
  · exact absurd hR2 h1
  · exact absurd (by omega) h2
  · refine Or.inr (Or.inr (Or.inr ⟨hR, by omega, hadj, rfl, rfl, ?_⟩))
    have h5 := con_of_ind (n := m) (lo := min x y) (hi := max x y) (es := es) (E := E) (by omega) (by simpa using h4)
    have e1 : (min (x : Int) (y : Int)).toNat = min x y := by omega
    have e2 : (max (x : Int) (y : Int)).toNat = max x y := by omega
    rw [e1, e2]
    simpa using h5

set_option maxHeartbeats 4000000 in
set_option maxRecDepth 100000 in
theorem rcon_codes (n : Int) (a : Option Addr) (cap : Nat) (es : List (Int × Int)) (x y : Int) (b : Bool) (w : World) (hN : es.length ≤ 2000) (hE : EAt w a es) (hb : b = true ↔ RightG n es) (hno : ¬ (RightG n es ∧ ((0 ≤ x ∧ x < n) ∧ (0 ≤ y ∧ y < n)) ∧ Adj es x y)) :
    Calls Try.prog 18 #[.agg #[.int .i64 n, .slice a es.length cap], .int .i64 x, .int .i64 y] w fun e w' => ∃ u, e = .returned u ∧ SubTold (ConS n es x y) w w' u := by
  obtain ⟨N, hNe⟩ := ex_eq es.length
  obtain ⟨W, hW, hsW, hO0, hO1, hbW⟩ := new_two w (.cells #[.int .i64 n, .slice a N cap] 27) (.cells #[.int .i64 0, .slice none 0 0] 27)
  have HGC : Hid (∀ X, Below W.heap.size W X → GC X w.heap.size n a N cap es ∧ Below w.heap.size w X ∧ X.heap[w.heap.size + 1]? = some (.cells #[.int .i64 0, .slice none 0 0] 27 (0, 0))) := fun X hX => by
    have o := (hX.block _ (by omega)).trans hO0
    have o1 := (hX.block (w.heap.size + 1) (by omega)).trans hO1
    have hbx : Below w.heap.size w X := hbW.trans (hX.mono (by omega))
    exact ⟨⟨cell_of_heap o 0, cell_of_heap o 1, hE.below hbx⟩, hbx, o1⟩
  have CR : Hid (∀ X, Below W.heap.size W X → Calls Try.prog 19 #[.agg #[.int .i64 n, .slice a N cap]] X fun e w' => e = .returned (.bool b) ∧ Below X.heap.size X w') := fun X hX => by
    rw [hNe]; exact rright_any n a cap es b X (by omega) (HGC.out X hX).1.at_ hb
  have CHH : Hid (∀ (h : Bool) (x y : Int), (h = true ↔ (RightG n es ∧ Adj es x y)) → ∀ X, GC X w.heap.size n a N cap es → Calls Try.prog 20 #[.agg #[.int .i64 n, .slice a N cap], .int .i64 x, .int .i64 y] X fun e w' => e = .returned (.bool h) ∧ Below X.heap.size X w') := fun h x y hh X hX => by
    rw [hNe]; exact rhas_any n a cap es x y b h X (by omega) hX.at_ hb hh
  have HBB := hid hb
  have HNO := hid hno
  have HW := hid hW
  have HN := hid hNe
  have HZ : Hid (∀ X, Below w.heap.size w X → Below w.heap.size w ((X.setCell ⟨w.heap.size + 1, 0, none⟩ (.int .i64 0)).setCell ⟨w.heap.size + 1, 1, none⟩ (.slice none 0 0))) := fun X hX => (hX.setCell (p := ⟨w.heap.size + 1, 0, none⟩) (by simp) _).setCell (p := ⟨w.heap.size + 1, 1, none⟩) (by simp) _
  rw [← hNe] at hN ⊢
  clear hNe hW hO0 hO1 hbW hE hb hno
  go_enter Try.func18, Try.ntmps18
  go_wp2_with fail
  rw [← HW.out]
  refine (CR.out W (Below.refl _ _)).mono ?_
  rintro e w1 ⟨rfl, hb1⟩
  obtain ⟨hg1, hbw1, ho1⟩ := HGC.out w1 hb1
  have HB1 := hid hb1
  have HBw1 := hid hbw1
  have z0 := cell_of_heap ho1 0
  have z1 := cell_of_heap ho1 1
  have zf0 := frozen_of_heap ho1 0
  have zf1 := frozen_of_heap ho1 1
  obtain ⟨g0, g1⟩ := hg1.cells
  have HG1 := hid hg1
  clear CR hb1 hbw1 HW hg1 ho1
  cases b with
  | false =>
    have HNR : Hid (ConS n es x y 1 0 []) := Or.inl ⟨(fun h => by have := HBB.out.2 h; cases this), rfl, rfl, rfl⟩
    clear HBB
    go_wp2
    refine bodyPost_ret (v := .tuple #[.agg #[.int .i64 0, .slice none 0 0], .int .i64 1]) ?_ rfl ⟨_, rfl, subTold_none HNR.out (HZ.out w1 HBw1.out)⟩
    rw [results_cell_tmp rfl]
    go_simp
  | true =>
    have HRG := hid (HBB.out.1 rfl)
    clear HBB
    by_cases hin : (0 ≤ x ∧ x < n) ∧ (0 ≤ y ∧ y < n)
    · obtain ⟨m, rfl⟩ : ∃ m : Nat, n = m := ⟨n.toNat, by have := HRG.out.1; omega⟩
      obtain ⟨X, rfl⟩ : ∃ X : Nat, x = X := ⟨x.toNat, by omega⟩
      obtain ⟨Y, rfl⟩ : ∃ Y : Nat, y = Y := ⟨y.toNat, by omega⟩
      have hXm : X < m := by omega
      have hYm : Y < m := by omega
      have hm : m ≤ 1000 := by have := HRG.out.2.1; omega
      have e1 : decide ((X : Int) < 0) = false := decide_eq_false (by omega)
      have e2 : decide ((Y : Int) < 0) = false := decide_eq_false (by omega)
      have e3 : decide ((m : Int) ≤ (X : Int)) = false := decide_eq_false (by omega)
      have e4 : decide ((m : Int) ≤ (Y : Int)) = false := decide_eq_false (by omega)
      have e5 : decide ((X : Int) ≥ (m : Int)) = false := decide_eq_false (by omega)
      have e6 : decide ((Y : Int) ≥ (m : Int)) = false := decide_eq_false (by omega)
      have e7 : ¬ (X : Int) < 0 := by omega
      have e8 : ¬ (Y : Int) < 0 := by omega
      have e9 : ¬ (m : Int) ≤ (X : Int) := by omega
      have e10 : ¬ (m : Int) ≤ (Y : Int) := by omega
      obtain ⟨h, hh⟩ := boolR_of (RightG m es ∧ Adj es X Y)
      have CH := hid (CHH.out h X Y hh w1 HG1.out)
      have HH := hid hh
      clear hh CHH hin
      go_wp2_with fail
      refine CH.out.mono ?_
      rintro e w2 ⟨rfl, hb2⟩
      have hbW2 : Below W.heap.size W w2 := HB1.out.trans (hb2.mono HB1.out.size)
      obtain ⟨hg2, hbw2, ho2⟩ := HGC.out w2 hbW2
      have HBW2 := hid hbW2
      have HBw2 := hid hbw2
      have y0 := cell_of_heap ho2 0
      have y1 := cell_of_heap ho2 1
      have yf0 := frozen_of_heap ho2 0
      have yf1 := frozen_of_heap ho2 1
      obtain ⟨k0, k1⟩ := hg2.cells
      clear hb2 hbW2 hbw2 ho2 CH z0 z1 zf0 zf1 g0 g1
      cases h with
      | false =>
        have HNR : Hid (ConS m es X Y 6 0 []) := Or.inr (Or.inr (Or.inl ⟨HRG.out, by omega, (fun h => by have := HH.out.2 ⟨HRG.out, h⟩; cases this), rfl, rfl, rfl⟩))
        clear HH hg2
        go_wp2
        refine bodyPost_ret (v := .tuple #[.agg #[.int .i64 0, .slice none 0 0], .int .i64 6]) ?_ rfl ⟨_, rfl, subTold_none HNR.out (HZ.out w2 HBw2.out)⟩
        rw [results_cell_tmp rfl]
        go_simp
      | true =>
        exact absurd ⟨(HH.out.1 rfl).1, by omega, (HH.out.1 rfl).2⟩ HNO.out
    · have HNR : Hid (ConS n es x y 4 0 []) := Or.inr (Or.inl ⟨HRG.out, hin, rfl, rfl, rfl⟩)
      have fin : ∀ {K : Prop}, K → K := fun h => h
      clear fin
      by_cases h0 : x < 0
      · have e1 : decide (x < 0) = true := decide_eq_true h0
        go_wp2
        refine bodyPost_ret (v := .tuple #[.agg #[.int .i64 0, .slice none 0 0], .int .i64 4]) ?_ rfl ⟨_, rfl, subTold_none HNR.out (HZ.out _ HBw1.out)⟩
        rw [results_cell_tmp rfl]
        go_simp
      · have e1 : decide (x < 0) = false := decide_eq_false h0
        by_cases h1 : y < 0
        · have e2 : decide (y < 0) = true := decide_eq_true h1
          go_wp2
          refine bodyPost_ret (v := .tuple #[.agg #[.int .i64 0, .slice none 0 0], .int .i64 4]) ?_ rfl ⟨_, rfl, subTold_none HNR.out (HZ.out _ HBw1.out)⟩
          rw [results_cell_tmp rfl]
          go_simp
        · have e2 : decide (y < 0) = false := decide_eq_false h1
          by_cases h2 : n ≤ x
          · have e3 : decide (n ≤ x) = true := decide_eq_true h2
            have e5 : decide (x ≥ n) = true := decide_eq_true h2
            go_wp2
            refine bodyPost_ret (v := .tuple #[.agg #[.int .i64 0, .slice none 0 0], .int .i64 4]) ?_ rfl ⟨_, rfl, subTold_none HNR.out (HZ.out _ HBw1.out)⟩
            rw [results_cell_tmp rfl]
            go_simp
          · have e3 : decide (n ≤ x) = false := decide_eq_false h2
            have e5 : decide (x ≥ n) = false := decide_eq_false h2
            have e4 : decide (n ≤ y) = true := decide_eq_true (by omega)
            have e6 : decide (y ≥ n) = true := decide_eq_true (by omega)
            have e8 : n ≤ y := by omega
            go_wp2
            refine bodyPost_ret (v := .tuple #[.agg #[.int .i64 0, .slice none 0 0], .int .i64 4]) ?_ rfl ⟨_, rfl, subTold_none HNR.out (HZ.out _ HBw1.out)⟩
            rw [results_cell_tmp rfl]
            go_simp
end Go.Proofs.Ytagigeieoijciaa
