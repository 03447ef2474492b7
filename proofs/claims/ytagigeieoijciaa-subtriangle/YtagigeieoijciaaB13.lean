/-
  The program's Induced keeps its contract.
  The document's Of of layer 3: a graph of a Net.
  How many edges a deletion and a contraction leave. No program is named here.
  Contractions as images; three that are neighbours, made one. No program is named here.
  Three numbers in order. No program is named here.
-/
import Derived.Test.YtagigeieoijciaaB12
import Derived.Test.YtagigeieoijciaaB09
import Derived.Test.YtagigeieoijciaaB08
import Derived.Test.YtagigeieoijciaaB05
import Derived.Test.YtagigeieoijciaaB03
namespace Go.Proofs.Ytagigeieoijciaa
open Go.RowKit Go.Lib

theorem ind_of_ren {m : Nat} {l : List Int} {F : Nat → Int} {es : List (Int × Int)} {er N : Int} {E : List (Int × Int)} (hR : RightG m es) (hi : InL m l) (hn : l.Nodup) (hF : PlOK m l l.length F) (h : RenS (l.length : Int) (fun v => F v.toNat) es er N E) : IndS m es l er N E := by
  have hl := inl_len hi hn
  have hP := hF.is
  have := hR.2.1
  obtain ⟨rfl, rfl, h3⟩ := ren_ok hR (by omega) (by omega) (fun v h0 h1 => by
    rcases hP v h0 h1 with ⟨h2, _⟩ | ⟨i, hi, _, h2⟩
    · exact Or.inl h2
    · have h3 : F v.toNat = i := h2
      exact Or.inr (show 0 ≤ F v.toNat ∧ F v.toNat < _ by omega)) h
  exact Or.inr (Or.inr (Or.inr ⟨hR, hi, hn, rfl, rfl, ren_ind hR hn hP h3⟩))

set_option maxHeartbeats 4000000 in
set_option maxRecDepth 100000 in
theorem sub_ind_any (n : Int) (a : Option Addr) (cap : Nat) (es : List (Int × Int)) (la : Option Addr) (lc : Nat) (l : List Int) (b : Bool) (w : World) (hN : es.length ≤ 1000000) (hL : l.length ≤ 1000000) (hE : EAt w a es) (hI : IAt w la l) (hb : b = true ↔ RightG n es) :
    Calls Try.prog 12 #[.agg #[.int .i64 n, .slice a es.length cap], .slice la l.length lc] w fun e w' => ∃ v, e = .returned v ∧ SubTold (IndS n es l) w w' v := by
  obtain ⟨N, hNe⟩ := ex_eq es.length
  obtain ⟨M, hMe⟩ := ex_eq l.length
  obtain ⟨W, hW, hsW, hO0, hO1, hbW⟩ := new_two w (.cells #[.int .i64 n, .slice a N cap] 27) (.cells #[.int .i64 0, .slice none 0 0] 27)
  have HGC : Hid (∀ X, Below W.heap.size W X → GC X w.heap.size n a N cap es ∧ IAt X la l ∧ Below w.heap.size w X ∧ X.heap[w.heap.size + 1]? = some (.cells #[.int .i64 0, .slice none 0 0] 27 (0, 0))) := fun X hX => by
    have o := (hX.block _ (by omega)).trans hO0
    have o1 := (hX.block (w.heap.size + 1) (by omega)).trans hO1
    have hbx : Below w.heap.size w X := hbW.trans (hX.mono (by omega))
    exact ⟨⟨cell_of_heap o 0, cell_of_heap o 1, hE.below hbx⟩, hI.below hbx, hbx, o1⟩
  have CR : Hid (∀ X, Below W.heap.size W X → Calls Try.prog 23 #[.agg #[.int .i64 n, .slice a N cap]] X fun e w' => e = .returned (.bool b) ∧ Below X.heap.size X w') := fun X hX => by
    rw [hNe]; exact right_any n a cap es b X hN (HGC.out X hX).1.at_ hb
  obtain ⟨u, hu⟩ := boolR_of (InL n l)
  have CU : Hid (∀ X, GC X w.heap.size n a N cap es → IAt X la l → Calls Try.prog 27 #[.slice la M lc, .func (.func 28) #[] #[.pointer (some ⟨w.heap.size, 0, none⟩)]] X fun e w' => e = .returned (.bool (!u)) ∧ Below X.heap.size X w') := fun X hG hX => by
    rw [hMe]; exact noContains_any n a N cap w.heap.size la lc l u X hG.n0 hG.e0 hL hX hu
  have CRN : Hid (∀ (m : Nat) (g P : Nat) (F : Nat → Int) X, n = m → RightG n es → GC X w.heap.size n a N cap es → X.cell? ⟨P, 0, none⟩ = some (.slice (some ⟨g, 0, none⟩) m m) → Row1 X g m F → Calls Try.prog 31 #[.agg #[.int .i64 m, .slice a N cap], .agg #[.int .i64 M, .func (.func 32) #[] #[.pointer (some ⟨P, 0, none⟩)]]] X fun e w' => ∃ v, e = .returned v ∧ SubTold (RenS (l.length : Int) (fun v => F v.toNat) es) X w' v) := fun m g P F X hm hR hX hP hF => by
    rw [hNe, hMe]; subst hm
    refine ren_place m (l.length : Int) a cap es (fun v => F v.toNat) P X hN hX.at_ (fun e he => by have := hR.2.2.2.1 e he; omega) (fun X' x h0 h1 hX' => ?_)
    obtain ⟨k, rfl⟩ : ∃ k : Nat, x = k := ⟨x.toNat, by omega⟩
    exact placed_any m g P k F X' (by omega) ((hX'.cell (p := ⟨P, 0, none⟩) (block_lt_of_cell hP)).trans hP) (hF.belowW hX')
  have HBB := hid hb
  have HM := hid hMe
  have HU := hid hu
  have HW := hid hW
  have HZ : Hid (∀ X, Below w.heap.size w X → Below w.heap.size w ((X.setCell ⟨w.heap.size + 1, 0, none⟩ (.int .i64 0)).setCell ⟨w.heap.size + 1, 1, none⟩ (.slice none 0 0))) := fun X hX => (hX.setCell (p := ⟨w.heap.size + 1, 0, none⟩) (by simp) _).setCell (p := ⟨w.heap.size + 1, 1, none⟩) (by simp) _
  rw [← hMe] at hL ⊢
  rw [← hNe]
  clear hNe hMe hW hO0 hO1 hbW hE hI hb hu hN
  go_enter Try.func12, Try.ntmps12
  go_wp2_with fail
  rw [← HW.out]
  refine (CR.out W (Below.refl _ _)).mono ?_
  rintro e w1 ⟨rfl, hb1⟩
  obtain ⟨hg1, hi1, hbw1, ho1⟩ := HGC.out w1 hb1
  have HB1 := hid hb1
  have HBw1 := hid hbw1
  have z0 := cell_of_heap ho1 0
  have z1 := cell_of_heap ho1 1
  have zf0 := frozen_of_heap ho1 0
  have zf1 := frozen_of_heap ho1 1
  clear CR hb1 hbw1 HW
  cases b with
  | false =>
    have HNR : Hid (IndS n es l 1 0 []) := Or.inl ⟨(fun h => by have := HBB.out.2 h; cases this), rfl, rfl, rfl⟩
    clear HBB HU hg1 ho1 hi1
    go_wp2
    refine bodyPost_ret (v := .tuple #[.agg #[.int .i64 0, .slice none 0 0], .int .i64 1]) ?_ rfl ⟨_, rfl, subTold_none HNR.out (HZ.out w1 HBw1.out)⟩
    rw [results_cell_tmp rfl]
    go_simp
  | true =>
    have HRG := hid (HBB.out.1 rfl)
    have C2 := hid (CU.out w1 hg1 hi1)
    clear HBB hg1 ho1 z0 z1 zf0 zf1 CU hi1
    go_wp2_with fail
    refine C2.out.mono ?_
    rintro e w2 ⟨rfl, hb2⟩
    have hbW2 : Below W.heap.size W w2 := HB1.out.trans (hb2.mono HB1.out.size)
    obtain ⟨hg2, _, hbw2, ho2⟩ := HGC.out w2 hbW2
    have HB2 := hid hbW2
    have HBw2 := hid hbw2
    clear C2 hb2 hbW2 hbw2 HB1 HBw1
    cases u with
    | false =>
      have z0 := cell_of_heap ho2 0
      have z1 := cell_of_heap ho2 1
      have zf0 := frozen_of_heap ho2 0
      have zf1 := frozen_of_heap ho2 1
      have HNR : Hid (IndS n es l 4 0 []) := Or.inr (Or.inl ⟨HRG.out, (fun h => by have := HU.out.2 h; cases this), rfl, rfl, rfl⟩)
      clear ho2 hg2 HU
      go_wp2
      refine bodyPost_ret (v := .tuple #[.agg #[.int .i64 0, .slice none 0 0], .int .i64 4]) ?_ rfl ⟨_, rfl, subTold_none HNR.out (HZ.out w2 HBw2.out)⟩
      rw [results_cell_tmp rfl]
      go_simp
    | true =>
      have HIN := hid (HU.out.1 rfl)
      obtain ⟨m, rfl⟩ : ∃ m : Nat, n = m := ⟨n.toNat, by have := HRG.out.1; omega⟩
      have hm : m ≤ 1000 := by have := HRG.out.2.1; omega
      obtain ⟨V3, hV3⟩ := ex_eq (w2.alloc (.cells #[.int .i64 (-1)] 3))
      have hbV3 : Below W.heap.size W V3 := by rw [hV3]; exact HB2.out.alloc HB2.out.size _
      have hc3 : V3.cell? ⟨w2.heap.size, 0, none⟩ = some (.int .i64 (-1)) := by rw [hV3]; exact cell_of_heap (heap_alloc_new w2 _) 0
      obtain ⟨hg3, _, _, _⟩ := HGC.out V3 hbV3
      have g0 : (w2.alloc (Obj.cells #[.int .i64 (-1)] 3 (0, 0))).cell? ⟨w.heap.size, 0, none⟩ = some (.int .i64 m) := by rw [← hV3]; exact hg3.n0
      have C3 := hid (rep_int w2.heap.size 0 1 (-1) m V3 hm hc3)
      have HV3 := hid hV3
      have HB3 := hid hbV3
      clear hg2 ho2 HU hV3 hbV3 hc3 hg3 HB2 HBw2
      go_wp2_with fail
      rw [← HV3.out]
      clear HV3
      refine C3.out.mono ?_
      rintro e w4 ⟨g, rfl, hge4, hrow4, hb4⟩
      obtain ⟨V5, hV5⟩ := ex_eq (w4.alloc (.cells #[.slice (some ⟨g, 0, none⟩) m m] 25))
      have HB5 : Hid (Below W.heap.size W V5) := by
        show Below _ _ _
        have h4 : Below W.heap.size W w4 := HB3.out.trans (hb4.mono HB3.out.size)
        rw [hV5]; exact h4.alloc h4.size _
      have HP5 : Hid (V5.heap[w4.heap.size]? = some (.cells #[.slice (some ⟨g, 0, none⟩) m m] 25 (0, 0))) := by
        show _ = _
        rw [hV5]; exact heap_alloc_new _ _
      have HR5 : Hid (Row1 V5 g m (fun _ => -1)) := by
        show Row1 _ _ _ _
        rw [hV5]; exact hrow4.alloc _
      have hgW : W.heap.size ≤ g := Nat.le_trans HB3.out.size hge4
      have hgP : g < w4.heap.size := hrow4.1
      have HV5 := hid hV5
      clear C3 g0 hb4 hrow4 hge4 hV5 HB3
      go_wp2
      rw [← HV5.out]
      clear HV5
      go_loopg [23] M (fun Gh i wz => ∃ (k : Nat) (F : Nat → Int), k ≤ M ∧ M - k ≤ Gh ∧ i = .int .i64 k ∧ Hid ((l.take k).Nodup) ∧ Hid (PlOK m l k F) ∧ Hid (Row1 wz g m F) ∧ Hid (wz.heap[w4.heap.size]? = some (.cells #[.slice (some ⟨g, 0, none⟩) m m] 25 (0, 0))) ∧ Hid (Below W.heap.size W wz))
      case atStart => exact ⟨0, _, Nat.zero_le _, by omega, rfl, List.nodup_nil, PlOK.zero m l, HR5, HP5, HB5⟩
      case round =>
        obtain ⟨k, F, hk, hGh, rfl, hnd, hpl, hrow, hP, hbr⟩ := hrel
        obtain ⟨hg, hi, hbw, ho⟩ := HGC.out wr hbr.out
        by_cases hlt : k < M
        · have hkr : k < l.length := by rw [← HM.out]; exact hlt
          obtain ⟨gl, off, rfl, hgl, hcs⟩ := hi (by omega)
          have d0 := hcs k hkr
          have hin := HIN.out _ (List.getElem_mem hkr)
          obtain ⟨x, hx⟩ : ∃ x : Nat, l[k] = (x : Int) := ⟨(l[k]).toNat, by omega⟩
          rw [hx] at d0 hin
          have hxm : x < m := by omega
          obtain ⟨f1, f2⟩ := hrow.out.2 x hxm
          obtain ⟨d, hd⟩ := ex_eq (F x)
          rw [← hd] at f1
          have p0 := cell_of_heap hP.out 0
          have q1 : (k : Int) < (M : Int) := by omega
          have q2 : (x : Int) < (m : Int) := by omega
          have HX := hid hx
          have HD := hid hd
          have HHO := hid ho
          have HBW := hid hbw
          have HG := hid hg
          have HKR : Hid (k < l.length) := hkr
          clear hcs hx hd hg ho hbw hi hin
          by_cases hd1 : d = -1
          · subst hd1
            have HND : Hid ((l.take (k + 1)).Nodup) := nodup_more HKR.out hnd.out (by rw [HX.out]; exact hpl.out.fresh hxm HD.out.symm)
            have HPL : Hid (PlOK m l (k + 1) (fun j => if j = x then (k : Int) else F j)) := hpl.out.next HKR.out HX.out
            have HRW : Hid (Row1 (wr.setCell ⟨g, x, none⟩ (.int .i64 k)) g m (fun j => if j = x then (k : Int) else F j)) := hrow.out.put hxm _
            have HPW : Hid ((wr.setCell ⟨g, x, none⟩ (.int .i64 k)).heap[w4.heap.size]? = some (.cells #[.slice (some ⟨g, 0, none⟩) m m] 25 (0, 0))) := by
              show _ = _
              rw [Below.heap_setCell _ _ _ _ (by simp; omega)]
              exact hP.out
            have HBR : Hid (Below W.heap.size W (wr.setCell ⟨g, x, none⟩ (.int .i64 k))) := hbr.out.setCell (p := ⟨g, x, none⟩) hgW _
            clear hnd hpl hrow hP hbr HHO HBW HG HD HX
            go_wp2
            go_roundg (M - (k + 1))
            case measure => omega
            case rel => exact ⟨k + 1, _, by omega, Nat.le_refl _, by go_num, HND, HPL, HRW, HPW, HBR⟩
          · have HNR : Hid (IndS m es l 1 0 []) := Or.inr (Or.inr (Or.inl ⟨HRG.out, HIN.out, hpl.out.twice HKR.out hxm HX.out (by rw [← HD.out]; exact hd1), rfl, rfl, rfl⟩))
            have b1 : (d == -1) = false := beq_eq_false_iff_ne.2 hd1
            have b2 : (d != -1) = true := by simp [hd1]
            have z0 := cell_of_heap HHO.out 0
            have z1 := cell_of_heap HHO.out 1
            have zf0 := frozen_of_heap HHO.out 0
            have zf1 := frozen_of_heap HHO.out 1
            clear hnd hpl hrow hP hbr HG HD HX HHO
            go_wp2
            refine bodyPost_ret (v := .tuple #[.agg #[.int .i64 0, .slice none 0 0], .int .i64 1]) ?_ rfl ⟨_, rfl, subTold_none HNR.out (HZ.out wr HBW.out)⟩
            rw [results_cell_tmp rfl]
            go_simp
        · obtain rfl : k = M := by omega
          have HND : Hid (l.Nodup) := by
            have := hnd.out
            rw [HM.out, List.take_length] at this
            exact this
          have HPL : Hid (PlOK m l l.length F) := by
            have := hpl.out
            rw [HM.out] at this
            exact this
          have p0 := cell_of_heap hP.out 0
          have CI := hid (CRN.out m g w4.heap.size F wr rfl HRG.out hg p0 hrow.out)
          obtain ⟨g0, g1⟩ := hg.cells
          have HBR := hid hbr.out
          have HBW := hid hbw
          clear hnd hpl hg ho hbw hi hrow hP p0 CRN
          go_wp2_with fail
          refine CI.out.mono ?_
          rintro e w6 ⟨v6, rfl, ht6⟩
          obtain ⟨er, N6, E6, a6, c6, rfl, hs6, hsl6, hea6, hb6⟩ := ht6
          have hbW6 : Below W.heap.size W w6 := HBR.out.trans (hb6.mono HBR.out.size)
          obtain ⟨_, _, hbw6, ho6⟩ := HGC.out w6 hbW6
          have HDS : Hid (IndS m es l er N6 E6) := ind_of_ren HRG.out HIN.out HND.out HPL.out hs6
          have HSL6 := hid hsl6
          have HEA6 := hid hea6
          have HBw6 := hid hbw6
          have HNE6 := hid (eat_off_box ho6 hea6)
          have z0 := cell_of_heap ho6 0
          have z1 := cell_of_heap ho6 1
          have zf0 := frozen_of_heap ho6 0
          have zf1 := frozen_of_heap ho6 1
          clear CI hs6 hsl6 hea6 hb6 hbW6 hbw6 ho6 g0 g1
          go_wp2
          refine bodyPost_ret (v := .tuple #[.agg #[.int .i64 N6, .slice a6 E6.length c6], .int .i64 er]) ?_ rfl ⟨_, rfl, er, N6, E6, a6, c6, rfl, HDS.out, HSL6.out, ?_, ?_⟩
          · rw [results_cell_tmp rfl]
            go_simp
          · have hne : ∀ g off, 0 < E6.length → a6 = some ⟨g, off, none⟩ → g ≠ w.heap.size + 1 := HNE6.out
            exact (HEA6.out.set (p := ⟨w.heap.size + 1, 0, none⟩) hne _).set (p := ⟨w.heap.size + 1, 1, none⟩) hne _
          · exact (HBw6.out.setCell (p := ⟨w.heap.size + 1, 0, none⟩) (by simp) _).setCell (p := ⟨w.heap.size + 1, 1, none⟩) (by simp) _
end Go.Proofs.Ytagigeieoijciaa
namespace Go.Proofs.Ytagigeieoijciaa
open Go.RowKit Go.Lib

set_option maxHeartbeats 1000000 in
set_option maxRecDepth 100000 in
theorem net_any (n0 : Int) (a : Option Addr) (N cap : Nat) (l : List (Int × Int)) (most : Nat) (w : World) (hmost : most ≤ 1000) (hl : N = l.length) (hE : EAt w a l) :
    Calls Try.prog 11 #[.agg #[.int .i64 n0, .slice a N cap], .int .i64 most] w fun e w' => ∃ (m : Nat) (ys : List (Int × Int)) (a' : Option Addr) (cap' : Nat), e = .returned (.agg #[.int .i64 m, .slice a' ys.length cap']) ∧ m ≤ most ∧ RightG m ys ∧ ys.length ≤ 300 ∧ Sl a' cap' ys.length ∧ EAt w' a' ys ∧ Below w.heap.size w w' := by
  obtain ⟨W0, hW0, hsz, o1, o2, hB0⟩ := new_two' w (.cells #[.int .i64 n0, .slice a N cap] 24) (.cells #[.int .i64 0, .slice none 0 0] 27)
  have CA := hid (any_any n0 a N cap l most W0 hmost hl (hE.below hB0))
  have HW0 := hid hW0
  have HO2 := hid o2
  have HB0 := hid hB0
  clear hl hE hmost hW0 o1 o2 hB0
  go_enter Try.func11, Try.ntmps11
  go_wp2_with fail
  rw [← HW0.out]
  refine CA.out.mono ?_
  rintro e w3 ⟨m, ys, a3, c3, rfl, hm, hR, hys, hsl, hE3, hb3⟩
  obtain ⟨M, hM⟩ := ex_eq ys.length
  have HM := hid hM
  rw [← hM]
  have o3 : w3.heap[w.heap.size + 1]? = some (.cells #[.int .i64 0, .slice none 0 0] 27) := (hb3.block _ (by omega)).trans HO2.out
  have HNE := hid (eat_off_box o3 hE3)
  obtain ⟨x0, x1⟩ := two_cells o3
  have xf := frozen_of_heap o3
  have HB3 : Hid (Below w.heap.size w w3) := HB0.out.trans (hb3.mono HB0.out.size)
  have HE3 := hid hE3
  have HR := hid hR
  have HSL := hid hsl
  clear hM hE3 hb3 hR hsl o3 CA HW0 HO2 HB0
  go_wp2
  refine bodyPost_ret (v := .agg #[.int .i64 m, .slice a3 M c3]) ?_ rfl ⟨m, ys, a3, c3, by rw [← HM.out], hm, HR.out, hys, HSL.out, (HE3.out.set (p := ⟨w.heap.size + 1, 0, none⟩) HNE.out _).set (p := ⟨w.heap.size + 1, 1, none⟩) HNE.out _, (HB3.out.setCell (p := ⟨w.heap.size + 1, 0, none⟩) (by simp) _).setCell (p := ⟨w.heap.size + 1, 1, none⟩) (by simp) _⟩
  rw [results_cell1 rfl]
  go_simp
end Go.Proofs.Ytagigeieoijciaa
namespace Go.Proofs.Ytagigeieoijciaa

theorem nbL_nodup {n v : Int} {es : List (Int × Int)} (h : RightG n es) : (nbL v es).Nodup := by
  rw [List.nodup_iff_pairwise_ne]
  exact (nbL_rises h).imp (fun h => by omega)
theorem nb_adj {n v y : Int} {es : List (Int × Int)} (h : RightG n es) : y ∈ nbL v es ↔ Adj es v y := nbL_right h
theorem len_same {a b : List Int} (ha : a.Nodup) (hb : b.Nodup) (h : ∀ x, x ∈ a ↔ x ∈ b) : a.length = b.length :=
  Nat.le_antisymm (len_le_subI ha (fun x hx => (h x).1 hx)) (len_le_subI hb (fun x hx => (h x).2 hx))
theorem len_sameE {a b : List (Int × Int)} (ha : a.Nodup) (hb : b.Nodup) (h : ∀ x, x ∈ a ↔ x ∈ b) : a.length = b.length :=
  Nat.le_antisymm (len_le_of_sub ha (fun x hx => (h x).1 hx)) (len_le_of_sub hb (fun x hx => (h x).2 hx))
/-- Edges that do not meet v. -/
def offL (v : Int) (es : List (Int × Int)) : List (Int × Int) := es.filter (fun e => !(e.1 == v) && !(e.2 == v))
theorem mem_offL {v : Int} {es : List (Int × Int)} {e : Int × Int} : e ∈ offL v es ↔ e ∈ es ∧ e.1 ≠ v ∧ e.2 ≠ v := by
  unfold offL
  simp [List.mem_filter]
theorem off_len (v : Int) : ∀ es : List (Int × Int), (offL v es).length + (nbL v es).length = es.length
  | [] => rfl
  | e :: es => by
    have ih := off_len v es
    unfold offL at ih ⊢
    rw [List.filter_cons, nbL, List.length_append]
    unfold other
    by_cases h1 : e.1 = v
    · simp [h1]; omega
    · by_cases h2 : e.2 = v
      · simp [h1, h2]; omega
      · simp [h1, h2]; omega
/-- The edges, when hi goes to lo, ahead of the new numbers. -/
def conPre (lo hi : Int) (es : List (Int × Int)) : List (Int × Int) := offL hi es ++ ((nbL hi es).filter (fun w : Int => decide (w ≠ lo) && !adjB es lo w)).map (fun w => (min lo w, max lo w))
theorem fC_inj {hi : Nat} {lo x y : Int} (hx : x ≠ hi) (hy : y ≠ hi) (h : fC hi lo x = fC hi lo y) : x = y := by
  unfold fC at h
  split at h <;> split at h
  all_goals first | omega | (split at h <;> omega) | (split at h <;> split at h <;> omega)
theorem con_count {m lo hi : Nat} {es E : List (Int × Int)} (hR : RightG m es) (hlt : lo < hi) (hh : hi < m) (hadj : Adj es lo hi) (h : ConE m es lo hi E) : E.length + 1 + ((nbL (lo : Int) es).filter (fun w : Int => decide ((hi : Int) ∈ nbL w es))).length = es.length := by
  have hadjN : ∀ {x y : Int}, Adj es x y → (0 ≤ x ∧ x < m) ∧ (0 ≤ y ∧ y < m) ∧ x ≠ y := fun h => h.in hR
  have hnd := rises_nodup hR.2.2.2.2
  -- the edges under their new numbers
  have hpn : (conPre lo hi es).Nodup := by
    unfold conPre
    rw [List.nodup_append]
    refine ⟨hnd.filter _, ?_, fun a ha b hb e => ?_⟩
    · rw [List.nodup_iff_pairwise_ne, List.pairwise_map]
      refine ((nbL_nodup hR).filter _).imp (fun {x y} hxy e => hxy ?_)
      have e1 := congrArg Prod.fst e
      have e2 := congrArg Prod.snd e
      simp only at e1 e2
      omega
    · subst e
      obtain ⟨w, hw, rfl⟩ := List.mem_map.1 hb
      simp only [List.mem_filter, Bool.and_eq_true, decide_eq_true_eq, Bool.not_eq_true'] at hw
      obtain ⟨_, _, hw2⟩ := hw
      have hm := (mem_offL.1 ha).1
      have : adjB es lo w = true := by
        rw [adjB_iff]
        by_cases hlw : (lo : Int) ≤ w
        · rw [Int.min_eq_left hlw, Int.max_eq_right hlw] at hm; exact Or.inl hm
        · rw [Int.min_eq_right (by omega), Int.max_eq_left (by omega)] at hm; exact Or.inr hm
      rw [this] at hw2
      cases hw2
  have hpo : ∀ e ∈ conPre lo hi es, e.1 ≠ hi ∧ e.2 ≠ hi ∧ e.1 < e.2 ∧ MAdj es lo hi e.1 e.2 := fun e he => by
    unfold conPre at he
    rcases List.mem_append.1 he with he | he
    · obtain ⟨h1, h2, h3⟩ := mem_offL.1 he
      have := hR.2.2.2.1 e h1
      exact ⟨h2, h3, by omega, Or.inl (Or.inl h1)⟩
    · obtain ⟨w, hw, rfl⟩ := List.mem_map.1 he
      simp only [List.mem_filter, Bool.and_eq_true, decide_eq_true_eq, Bool.not_eq_true'] at hw
      obtain ⟨hw0, hw1, hw2⟩ := hw
      have ha := (nb_adj hR).1 hw0
      have hn := (hadjN ha).2.2
      refine ⟨by simp only; omega, by simp only; omega, by simp only; omega, ?_⟩
      by_cases hlw : (lo : Int) ≤ w
      · rw [Int.min_eq_left hlw, Int.max_eq_right hlw]; exact Or.inr (Or.inl ⟨rfl, hw1, ha⟩)
      · rw [Int.min_eq_right (by omega), Int.max_eq_left (by omega)]; exact Or.inr (Or.inr ⟨rfl, hw1, ha⟩)
  have hlen : E.length = (conPre lo hi es).length := by
    have hmn : ((conPre lo hi es).map (fun e => (fC hi lo e.1, fC hi lo e.2))).Nodup := by
      rw [List.nodup_iff_pairwise_ne, List.pairwise_map]
      refine hpn.imp_of_mem (fun {x y} hx hy hxy e => hxy ?_)
      have e1 := fC_inj (hpo x hx).1 (hpo y hy).1 (congrArg Prod.fst e)
      have e2 := fC_inj (hpo x hx).2.1 (hpo y hy).2.1 (congrArg Prod.snd e)
      exact Prod.ext e1 e2
    have hl2 : E.length = ((conPre lo hi es).map (fun e => (fC hi lo e.1, fC hi lo e.2))).length := by
     refine len_sameE (rises_nodup h.1) hmn (fun e => ?_)
     obtain ⟨x, y⟩ := e
     rw [h.2, List.mem_map]
     constructor
     · rintro ⟨i, j, rfl, rfl, hij, hj, hm⟩
       have hne : ∀ k : Nat, (upN hi k : Int) ≠ hi := fun k => by unfold upN; split <;> omega
       have hup : (upN hi i : Int) < upN hi j := by unfold upN; split <;> split <;> omega
       refine ⟨((upN hi i : Nat), (upN hi j : Nat)), ?_, by rw [Prod.mk.injEq]; exact ⟨fC_up, fC_up⟩⟩
       unfold conPre
       rw [List.mem_append]
       by_cases ha : Adj es (upN hi i : Nat) (upN hi j : Nat)
       · left
         rw [mem_offL]
         refine ⟨?_, hne i, hne j⟩
         rcases ha with ha | ha
         · exact ha
         · have := hR.2.2.2.1 _ ha
           simp only at this
           omega
       · right
         rw [List.mem_map]
         rcases hm with hm | ⟨e1, e2, hm⟩ | ⟨e1, e2, hm⟩
         · exact absurd hm ha
         · refine ⟨(upN hi j : Nat), ?_, by rw [← e1, Int.min_eq_left (by omega), Int.max_eq_right (by omega)]⟩
           simp only [List.mem_filter, Bool.and_eq_true, decide_eq_true_eq, Bool.not_eq_true']
           refine ⟨(nb_adj hR).2 hm, e2, ?_⟩
           rw [Bool.eq_false_iff, Ne, adjB_iff, ← e1]
           exact ha
         · refine ⟨(upN hi i : Nat), ?_, by rw [← e1, Int.min_eq_right (by omega), Int.max_eq_left (by omega)]⟩
           simp only [List.mem_filter, Bool.and_eq_true, decide_eq_true_eq, Bool.not_eq_true']
           refine ⟨(nb_adj hR).2 hm, e2, ?_⟩
           rw [Bool.eq_false_iff, Ne, adjB_iff, ← e1]
           exact fun k => ha k.symm
     · rintro ⟨⟨p, q⟩, he, e⟩
       obtain ⟨h1, h2, h3, h4⟩ := hpo _ he
       simp only at h1 h2 h3 h4
       have e1 : fC hi lo p = x := congrArg Prod.fst e
       have e2 : fC hi lo q = y := congrArg Prod.snd e
       have hr : (0 ≤ p ∧ p < m) ∧ (0 ≤ q ∧ q < m) := by
         rcases h4 with h4 | ⟨e3, _, h4⟩ | ⟨e3, _, h4⟩
         · exact ⟨(hadjN h4).1, (hadjN h4).2.1⟩
         · exact ⟨by omega, (hadjN h4).2.1⟩
         · exact ⟨(hadjN h4).2.1, by omega⟩
       have hfp : 0 ≤ fC hi lo p ∧ (fC hi lo p = p ∧ p < hi ∨ fC hi lo p = p - 1 ∧ hi < p) := by unfold fC; split <;> first | omega | (split <;> omega)
       have hfq : 0 ≤ fC hi lo q ∧ (fC hi lo q = q ∧ q < hi ∨ fC hi lo q = q - 1 ∧ hi < q) := by unfold fC; split <;> first | omega | (split <;> omega)
       have u1 : (upN hi (fC hi lo p).toNat : Int) = p := by unfold upN; split <;> omega
       have u2 : (upN hi (fC hi lo q).toNat : Int) = q := by unfold upN; split <;> omega
       refine ⟨(fC hi lo p).toNat, (fC hi lo q).toNat, by omega, by omega, by omega, by omega, ?_⟩
       rw [u1, u2]; exact h4
    rw [hl2, List.length_map]
  -- who is counted
  have hoff := off_len hi es
  have hone : ((nbL (hi : Int) es).filter (fun w : Int => !(decide (w ≠ (lo : Int)) && !adjB es lo w))).length = 1 + ((nbL (lo : Int) es).filter (fun w : Int => decide ((hi : Int) ∈ nbL w es))).length := by
    rw [Nat.add_comm, ← List.length_cons (a := (lo : Int))]
    refine len_same ((nbL_nodup hR).filter _) ?_ (fun x => ?_)
    · rw [List.nodup_cons]
      refine ⟨fun hm => ?_, (nbL_nodup hR).filter _⟩
      have := (nb_adj hR).1 (List.mem_filter.1 hm).1
      exact (hadjN this).2.2 rfl
    · rw [List.mem_cons, List.mem_filter, List.mem_filter, nb_adj hR, nb_adj hR]
      simp only [Bool.not_eq_true', Bool.and_eq_false_iff, decide_eq_false_iff_not, Bool.not_eq_false', adjB_iff, decide_eq_true_eq, nb_adj hR, Decidable.not_not, ne_eq]
      constructor
      · rintro ⟨h1, h2 | h2⟩
        · exact Or.inl h2
        · exact Or.inr ⟨h2, h1.symm⟩
      · rintro (rfl | ⟨h1, h2⟩)
        · exact ⟨hadj.symm, Or.inl rfl⟩
        · exact ⟨h2.symm, Or.inr h1⟩
  have hsplit : ∀ (p : Int → Bool) (l : List Int), (l.filter p).length + (l.filter (fun w => !p w)).length = l.length := fun p l => by
    induction l with
    | nil => rfl
    | cons a l ih =>
      rw [List.filter_cons, List.filter_cons]
      cases p a <;> simp <;> omega
  have h9 := hsplit (fun w : Int => decide (w ≠ (lo : Int)) && !adjB es lo w) (nbL hi es)
  rw [hlen]
  unfold conPre
  rw [List.length_append, List.length_map]
  omega
end Go.Proofs.Ytagigeieoijciaa
namespace Go.Proofs.Ytagigeieoijciaa

/-- The edges under new numbers, in order. -/
def Img (es : List (Int × Int)) (f : Int → Int) (E : List (Int × Int)) : Prop := Rises E ∧ ∀ a b : Int, (a, b) ∈ E ↔ a < b ∧ ∃ x y, Adj es x y ∧ f x = a ∧ f y = b
theorem Img.one {es E E' : List (Int × Int)} {f g : Int → Int} (h : Img es f E) (k : Img es g E') (e : ∀ x y, Adj es x y → f x = g x) : E = E' := rises_one h.1 k.1 (fun z => by
  obtain ⟨a, b⟩ := z
  rw [h.2, k.2]
  constructor
  · rintro ⟨h0, x, y, h1, h2, h3⟩; exact ⟨h0, x, y, h1, by rw [← e x y h1]; exact h2, by rw [← e y x h1.symm]; exact h3⟩
  · rintro ⟨h0, x, y, h1, h2, h3⟩; exact ⟨h0, x, y, h1, by rw [e x y h1]; exact h2, by rw [e y x h1.symm]; exact h3⟩)
theorem Img.adj {es E : List (Int × Int)} {f : Int → Int} (h : Img es f E) {a b : Int} : Adj E a b ↔ a ≠ b ∧ ∃ x y, Adj es x y ∧ f x = a ∧ f y = b := by
  unfold Adj
  rw [h.2, h.2]
  constructor
  · rintro (⟨h0, x, y, h1, h2, h3⟩ | ⟨h0, x, y, h1, h2, h3⟩)
    · exact ⟨by omega, x, y, h1, h2, h3⟩
    · exact ⟨by omega, y, x, Adj.symm h1, h3, h2⟩
  · rintro ⟨h0, x, y, h1, h2, h3⟩
    by_cases e : a < b
    · exact Or.inl ⟨e, x, y, h1, h2, h3⟩
    · exact Or.inr ⟨by omega, y, x, Adj.symm h1, h3, h2⟩
theorem Img.comp {es E E2 : List (Int × Int)} {f g : Int → Int} (h : Img es f E) (k : Img E g E2) : Img es (fun x => g (f x)) E2 := by
  refine ⟨k.1, fun a b => ?_⟩
  rw [k.2]
  constructor
  · rintro ⟨h0, p, q, hpq, rfl, rfl⟩
    obtain ⟨_, x, y, h1, rfl, rfl⟩ := h.adj.1 hpq
    exact ⟨h0, x, y, h1, rfl, rfl⟩
  · rintro ⟨h0, x, y, h1, h2, h3⟩
    refine ⟨h0, f x, f y, h.adj.2 ⟨fun e => ?_, x, y, h1, rfl, rfl⟩, h2, h3⟩
    simp only at h2 h3
    rw [e] at h2
    omega
theorem norm_ex {n : Nat} {l : List (Int × Int)} (h : AllIn n l) : ∃ N, IsNorm l N := by
  refine ⟨allP (fun i j => decide (((i : Int), (j : Int)) ∈ prs l)) n, allP_rises _ _, fun e => ?_⟩
  obtain ⟨x, y⟩ := e
  rw [mem_allP]
  constructor
  · rintro ⟨i, j, rfl, rfl, _, _, h3⟩; exact of_decide_eq_true h3
  · intro hm
    have hm' := hm
    rw [mem_prs] at hm'
    obtain ⟨⟨p, q⟩, hp, hne, e⟩ := hm'
    have hr := h _ hp
    have e1 : x = min p q := congrArg Prod.fst e
    have e2 : y = max p q := congrArg Prod.snd e
    simp only at hr hne
    have hx : ((x.toNat : Nat) : Int) = x := by omega
    have hy : ((y.toNat : Nat) : Int) = y := by omega
    exact ⟨x.toNat, y.toNat, hx.symm, hy.symm, by omega, by omega, by rw [hx, hy]; exact decide_eq_true hm⟩
theorem con_img {m lo hi : Nat} {es E : List (Int × Int)} (hR : RightG m es) (hlt : lo < hi) (hh : hi < m) (h : ConE m es lo hi E) : Img es (fC hi lo) E := by
  obtain ⟨N, hN⟩ := norm_ex (n := m - 1) (renL_all (f := fC hi lo) hR (N := ((m - 1 : Nat) : Int)) (fun v h0 h1 => by
    have := fC_in (n := m) (v := hi) (heir := (lo : Int)) (Or.inr ⟨by omega, by omega⟩) hh v h0 h1
    omega))
  rw [h.one (ren_con hR hlt hh hN)]
  have hpos : ∀ x y, Adj es x y → fC hi lo x ≠ -1 := fun x y ha => by
    have := (ha.in hR).1
    unfold fC
    split <;> first | omega | (split <;> omega)
  refine ⟨hN.1, fun a b => ?_⟩
  rw [ren_norm hN]
  constructor
  · rintro ⟨h0, _, _, x, y, h1, h2, h3⟩; exact ⟨h0, x, y, h1, h2, h3⟩
  · rintro ⟨h0, x, y, h1, rfl, rfl⟩; exact ⟨h0, hpos x y h1, hpos y x h1.symm, x, y, h1, rfl, rfl⟩
theorem con_right {m lo hi : Nat} {es E : List (Int × Int)} (hR : RightG m es) (hlt : lo < hi) (hh : hi < m) (hadj : Adj es lo hi) (h : ConE m es lo hi E) : RightG ((m - 1 : Nat) : Int) E :=
  ⟨by omega, by have := hR.2.1; omega, by have h1 := con_count hR hlt hh hadj h; have h2 := hR.2.2.1; omega, fun e he => by
    obtain ⟨a, b⟩ := e
    obtain ⟨i, j, rfl, rfl, h1, h2, _⟩ := (h.2 a b).1 he
    simp only
    omega, h.1⟩
/-- Three that are neighbours: whichever edge goes first. -/
theorem three_one {m a b c : Nat} {es E1 E2 D1 D2 M1 M2 : List (Int × Int)} (hR : RightG m es) (hab : a < b) (hbc : b < c) (hc : c < m) (kab : Adj es a b) (kac : Adj es a c) (kbc : Adj es b c)
    (h1 : ConE m es a b E1) (h3 : ConE m es a c D1) (h5 : ConE m es b c M1) (h2 : ConE (m - 1) E1 a (c - 1) E2) (h4 : ConE (m - 1) D1 a b D2) (h6 : ConE (m - 1) M1 a b M2) : E2 = D2 ∧ E2 = M2 := by
  have r1 := con_right hR hab (by omega) kab h1
  have r3 := con_right hR (by omega) hc kac h3
  have r5 := con_right hR hbc hc kbc h5
  have i1 := (con_img hR hab (by omega) h1).comp (con_img r1 (by omega) (by omega) h2)
  have i3 := (con_img hR (by omega) hc h3).comp (con_img r3 (by omega) (by omega) h4)
  have i5 := (con_img hR hbc hc h5).comp (con_img r5 (by omega) (by omega) h6)
  have e13 : ∀ x y, Adj es x y → fC (c - 1) a (fC b a x) = fC b a (fC c a x) := fun x y _ => by
    unfold fC
    repeat' split
    all_goals omega
  have e15 : ∀ x y, Adj es x y → fC (c - 1) a (fC b a x) = fC b a (fC c b x) := fun x y _ => by
    unfold fC
    repeat' split
    all_goals omega
  exact ⟨i1.one i3 e13, i1.one i5 e15⟩
end Go.Proofs.Ytagigeieoijciaa
namespace Go.Proofs.Ytagigeieoijciaa

theorem srt_three {p q r : Nat} (h1 : p ≠ q) (h2 : p ≠ r) (h3 : q ≠ r) : ∃ a b c : Nat, srt [] [(p : Int), (q : Int), (r : Int)] = [(a : Int), (b : Int), (c : Int)] ∧ a < b ∧ b < c ∧ (∀ m, p < m → q < m → r < m → c < m) := by
  have key : ∀ {x y z : Nat}, srt [] [(p : Int), (q : Int), (r : Int)] = [(x : Int), (y : Int), (z : Int)] → x < y → y < z → (z = p ∨ z = q ∨ z = r) → ∃ a b c : Nat, srt [] [(p : Int), (q : Int), (r : Int)] = [(a : Int), (b : Int), (c : Int)] ∧ a < b ∧ b < c ∧ (∀ m, p < m → q < m → r < m → c < m) := fun h a b c => ⟨_, _, _, h, a, b, fun m _ _ _ => by omega⟩
  simp only [srt, ins] at key ⊢
  by_cases e1 : p < q
  · have d1 : (p : Int) ≤ q := by omega
    by_cases e2 : q < r
    · have d2 : (p : Int) ≤ r := by omega
      have d3 : (q : Int) ≤ r := by omega
      simp only [d1, d2, d3, if_true, ins] at key ⊢
      exact key (x := p) (y := q) (z := r) rfl e1 e2 (by omega)
    · have d3 : ¬ (q : Int) ≤ r := by omega
      by_cases e3 : p < r
      · have d2 : (p : Int) ≤ r := by omega
        simp only [d1, d2, d3, if_true, if_false, ins] at key ⊢
        exact key (x := p) (y := r) (z := q) rfl e3 (by omega) (by omega)
      · have d2 : ¬ (p : Int) ≤ r := by omega
        simp only [d1, d2, if_true, if_false, ins] at key ⊢
        exact key (x := r) (y := p) (z := q) rfl (by omega) e1 (by omega)
  · have d1 : ¬ (p : Int) ≤ q := by omega
    by_cases e2 : p < r
    · have d2 : (q : Int) ≤ r := by omega
      have d3 : (p : Int) ≤ r := by omega
      simp only [d1, d2, d3, if_true, if_false, ins] at key ⊢
      exact key (x := q) (y := p) (z := r) rfl (by omega) e2 (by omega)
    · have d3 : ¬ (p : Int) ≤ r := by omega
      by_cases e3 : q < r
      · have d2 : (q : Int) ≤ r := by omega
        simp only [d1, d2, d3, if_true, if_false, ins] at key ⊢
        exact key (x := q) (y := r) (z := p) rfl e3 (by omega) (by omega)
      · have d2 : ¬ (q : Int) ≤ r := by omega
        simp only [d1, d2, if_false, ins] at key ⊢
        exact key (x := r) (y := q) (z := p) rfl (by omega) (by omega) (by omega)
/-- A graph with three edges more. -/
theorem three_norm {m a b c : Nat} {ys E : List (Int × Int)} (hR : RightG m ys) (hl : ys.length ≤ 300) (hab : a < b) (hbc : b < c) (hc : c < m) (h : IsNorm (ys ++ [((a : Int), (b : Int)), ((a : Int), (c : Int)), ((b : Int), (c : Int))]) E) : RightG m E ∧ Adj E a b ∧ Adj E a c ∧ Adj E b c := by
  have hin : AllIn m (ys ++ [((a : Int), (b : Int)), ((a : Int), (c : Int)), ((b : Int), (c : Int))]) := fun e he => by
    rcases List.mem_append.1 he with he | he
    · have := hR.2.2.2.1 e he; omega
    · simp at he; rcases he with rfl | rfl | rfl <;> simp only <;> omega
  have hlen := h.len
  simp only [List.length_append, List.length_cons, List.length_nil] at hlen
  have key : ∀ x y : Nat, x < y → ((x : Int), (y : Int)) ∈ ys ++ [((a : Int), (b : Int)), ((a : Int), (c : Int)), ((b : Int), (c : Int))] → Adj E x y := fun x y hxy hm => Or.inl ((h.2 _).2 (mem_prs.2 ⟨_, hm, by simp only; omega, by simp only; rw [Int.min_eq_left (by omega), Int.max_eq_right (by omega)]⟩))
  exact ⟨h.right hin (by omega) hR.2.1 (by omega), key a b hab (by simp), key a c (by omega) (by simp), key b c hbc (by simp)⟩
/-- Which number is told next, round and round. -/
theorem round_three {m r : Nat} (hm : 3 ≤ m) (hr : r < m) : r ≠ (r + 1) % m ∧ r ≠ ((r + 1) % m + 1) % m ∧ (r + 1) % m ≠ ((r + 1) % m + 1) % m := by
  by_cases e1 : r + 1 < m
  · rw [Nat.mod_eq_of_lt e1]
    by_cases e2 : r + 1 + 1 < m
    · rw [Nat.mod_eq_of_lt e2]; omega
    · have : r + 1 + 1 = m := by omega
      rw [this, Nat.mod_self]; omega
  · have : r + 1 = m := by omega
    rw [this, Nat.mod_self, Nat.mod_eq_of_lt (by omega)]; omega
end Go.Proofs.Ytagigeieoijciaa
