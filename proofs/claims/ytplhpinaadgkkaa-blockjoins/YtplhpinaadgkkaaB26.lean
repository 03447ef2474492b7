/-
  How the laws of layer 7 begin: the small case, a graph from anything, its blocks in a variable.
  The program's allBut: those that are not kept away from.
  The program's Route keeps its contract.
-/
import Derived.Test.YtplhpinaadgkkaaB24
import Derived.Test.YtplhpinaadgkkaaB19
import Derived.Test.YtplhpinaadgkkaaB07
import Derived.Test.YtplhpinaadgkkaaB25
import Derived.Lib.Walk
import Derived.Deep.DeepCutAuto
import Derived.Test.YtplhpinaadgkkaaB22
import Derived.Test.YtplhpinaadgkkaaB20
import Derived.Test.YtplhpinaadgkkaaB23
import Derived.Test.YtplhpinaadgkkaaB21
import Derived.BigQuiet
namespace Go.Proofs.Ytplhpinaadgkkaa
open Go.RowKit Go.Lib

theorem gc_new7 {w : World} {n : Int} {a : Option Addr} {K cap : Nat} {es : List (Int × Int)} (h : EAt w a es) : GC (w.alloc (.cells #[.int .i64 n, .slice a K cap] 26)) w.heap.size n a K cap es :=
  ⟨cell_of_heap (heap_alloc_new w _) 0, cell_of_heap (heap_alloc_new w _) 1, h.below (below_one _ _)⟩
/-- A tree in a variable. -/
structure TC (w : World) (b : Nat) (ca : Option Addr) (Q cc : Nat) (ba : Option Addr) (P bc : Nat) (Cs : List Int) (Bs : List (List Int)) : Prop where
  c0 : w.cell? ⟨b, 0, none⟩ = some (.slice ca Q cc)
  c1 : w.cell? ⟨b, 1, none⟩ = some (.slice ba P bc)
  ic : IAt w ca Cs
  lb : LLAt w ba Bs
theorem TC.on {w w' : World} {b : Nat} {ca : Option Addr} {Q cc : Nat} {ba : Option Addr} {P bc : Nat} {Cs : List Int} {Bs : List (List Int)} (h : TC w b ca Q cc ba P bc Cs Bs) (hb : Below w.heap.size w w') : TC w' b ca Q cc ba P bc Cs Bs :=
  ⟨(hb.cell (block_lt_of_cell h.c0)).trans h.c0, (hb.cell (block_lt_of_cell h.c1)).trans h.c1, h.ic.below hb, h.lb.below hb⟩
theorem tc_new {w : World} {ca : Option Addr} {Q cc : Nat} {ba : Option Addr} {P bc : Nat} {Cs : List Int} {Bs : List (List Int)} (h1 : IAt w ca Cs) (h2 : LLAt w ba Bs) : TC (w.alloc (.cells #[.slice ca Q cc, .slice ba P bc] 31)) w.heap.size ca Q cc ba P bc Cs Bs :=
  ⟨cell_of_heap (heap_alloc_new w _) 0, cell_of_heap (heap_alloc_new w _) 1, h1.below (below_one _ _), h2.below (below_one _ _)⟩
/-- A block holds twice. -/
theorem blk_twoL {m : Nat} {es : List (Int × Int)} {B : List Int} (hR : RightG m es) (hB : IsBlk es B) : TwoL m es B := by
  have h2 := blk_two hR hB
  have hnd : B.Nodup := by rw [List.nodup_iff_pairwise_ne]; exact hB.1.imp (fun h => by omega)
  have hin := hB.in hR
  obtain ⟨_, a, b, hab, ib⟩ := hB
  have hne := (hab.in hR).2.2
  refine ⟨h2, block_whole (v := -1) hR hne hnd (by omega) (fun x => ⟨fun h => ⟨(ib x).1 h, by have := hin x h; omega⟩, fun h => (ib x).2 h.1⟩), fun _ i hi => ?_⟩
  have hel : (B.eraseIdx i).length = B.length - 1 := List.length_eraseIdx_of_lt hi
  exact block_whole (v := B[i]) hR hne (hnd.sublist (List.eraseIdx_sublist _ _)) (by omega) (fun x => by rw [mem_erase_of hnd hi, ib])
end Go.Proofs.Ytplhpinaadgkkaa
namespace Go.Proofs.Ytplhpinaadgkkaa
open Go.RowKit Go.Lib

set_option maxHeartbeats 1000000 in
set_option maxRecDepth 100000 in
theorem allBut_any (m : Nat) (la : Option Addr) (lc : Nat) (l : List Int) (w : World) (hm : m ≤ 1000) (hL : l.length ≤ 1000000) (hI : IAt w la l) :
    Calls Try.prog 47 #[.int .i64 m, .slice la l.length lc] w fun e w' => ∃ g, e = .returned (.slice (some ⟨g, 0, none⟩) m m) ∧ w.heap.size ≤ g ∧ RowB w' g m (fun j => decide ((j : Int) ∉ l)) ∧ Below w.heap.size w w' := by
  obtain ⟨M, hMe⟩ := ex_eq l.length
  have hbA : Below w.heap.size w (w.alloc (.cells #[.bool true] 4)) := (Below.refl _ _).alloc (Nat.le_refl _) _
  have hsA : (w.alloc (.cells #[.bool true] 4)).heap.size = w.heap.size + 1 := by simp
  have HRP := hid (rep_bool w.heap.size 0 1 true m (w.alloc (.cells #[.bool true] 4)) hm (cell_of_heap (heap_alloc_new w _) 0))
  have HI := hid hI
  have HM := hid hMe
  rw [← hMe] at hL ⊢
  clear hI hMe
  go_enter Try.func47, Try.ntmps47
  go_wp2_with fail
  refine HRP.out.mono ?_
  rintro e w1 ⟨G, rfl, hG, hrow0, hb1⟩
  rw [hsA] at hG hb1
  have hbw : Below w.heap.size w w1 := hbA.trans (hb1.mono (by omega))
  have HRW : Hid (RowB w1 G m (fun j => decide ((j : Int) ∉ l.take 0))) := hrow0.congr (fun j _ => by simp)
  clear hrow0 HRP hb1 hbA hsA
  go_wp2
  go_loopw [13] (fun i wr => ∃ k : Nat, k ≤ M ∧ i = .int .i64 k ∧ Hid (RowB wr G m (fun j => decide ((j : Int) ∉ l.take k))) ∧ Below w.heap.size w wr) (fun i _ => M - (RowKit.intOf i).toNat)
  case atStart => exact ⟨0, Nat.zero_le _, rfl, HRW, hbw⟩
  case round =>
    obtain ⟨k, hk, rfl, hrow, hbr⟩ := hrel
    by_cases hlt : k < M
    · have hkr : k < l.length := by rw [← HM.out]; exact hlt
      obtain ⟨g, off, rfl, hgl, hcs⟩ := HI.out (by omega)
      have d0 := (hbr.cell (p := ⟨g, off + k, none⟩) hgl).trans (hcs k hkr)
      obtain ⟨x, hx⟩ := ex_eq l[k]
      rw [← hx] at d0
      have HX := hid hx
      clear hcs hx
      by_cases hin : 0 ≤ x ∧ x < m
      · obtain ⟨p, rfl⟩ : ∃ p : Nat, x = p := ⟨x.toNat, by omega⟩
        have hp : p < m := by omega
        have q1 : (p : Int) < (m : Int) := by omega
        have hv := vtx_any m p true wr (decide_eq_true hin).symm
        obtain ⟨r1, r1f⟩ := hrow.out.2 p hp
        have HRX : Hid (RowB (wr.setCell ⟨G, p, none⟩ (.bool false)) G m (fun j => decide ((j : Int) ∉ l.take (k + 1)))) := (hrow.out.put hp false).congr (fun j _ => by
          rw [take_next hkr, ← HX.out]
          by_cases e : j = p
          · subst e; rw [if_pos rfl]; exact (decide_eq_false (by simp)).symm
          · rw [if_neg e]
            apply decide_eq_decide.2
            simp only [List.mem_append, List.mem_singleton]
            constructor
            · intro h hh
              exact hh.elim h (by omega)
            · exact fun h hh => h (Or.inl hh))
        have hbX : Below w.heap.size w (wr.setCell ⟨G, p, none⟩ (.bool false)) := hbr.setCell (p := ⟨G, p, none⟩) (by simp; omega) _
        clear hrow hin
        go_wp2_with (go_at_call 45; refine hv.mono ?_; rintro e w' ⟨rfl, rfl⟩)
        go_roundw
        case rel => exact ⟨k + 1, by omega, by go_num, HRX, hbX⟩
        case measure => simp [RowKit.intOf]; omega
      · have hv := vtx_any m x false wr (decide_eq_false hin).symm
        have HRX : Hid (RowB wr G m (fun j => decide ((j : Int) ∉ l.take (k + 1)))) := hrow.out.congr (fun j hj => by
          rw [take_next hkr, ← HX.out]
          apply decide_eq_decide.2
          simp only [List.mem_append, List.mem_singleton]
          constructor
          · intro h hh
            exact hh.elim h (by omega)
          · exact fun h hh => h (Or.inl hh))
        clear hrow hin
        go_wp2_with (go_at_call 45; refine hv.mono ?_; rintro e w' ⟨rfl, hw'⟩; rw [hw']; clear hw')
        go_roundw
        case rel => exact ⟨k + 1, by omega, by go_num, HRX, hbr⟩
        case measure => simp [RowKit.intOf]; omega
    · obtain rfl : k = M := by omega
      have htk : l.take k = l := by rw [HM.out, List.take_length]
      rw [htk] at hrow
      go_wp2
      go_ret
      exact ⟨G, rfl, by omega, hrow.out, hbr⟩
end Go.Proofs.Ytplhpinaadgkkaa
namespace Go.Proofs.Ytplhpinaadgkkaa
open Go.RowKit Go.Lib

theorem routeTold_nil {n : Int} {es : List (Int × Int)} {x y : Int} {away : List Int} {w w' : World} (h : RouteG n es x y away []) (hb : Below w.heap.size w w') : RouteTold n es x y away w w' (.slice none 0 0) := ⟨none, 0, [], rfl, h, sl_nil, iat_nil _ _, hb⟩
theorem greedy_in {n : Int} {es : List (Int × Int)} {D : Int → Int} {a : Int} {L : List Int} (hR : RightG n es) (ha : 0 ≤ a ∧ a < n) (h : Greedy es D a L) {i : Nat} (hi : i < L.length) : 0 ≤ L[i] ∧ L[i] < n := by
  cases i with
  | zero => rw [h.first]; exact ha
  | succ i => exact ((h.step i hi).1.in hR).2.1
/-- None of the first c neighbours of u is nearer by one. -/
def NoneTo (D : Int → Int) (L : List Int) (d : Int) (c : Nat) : Prop := ∀ z ∈ L.take c, D z ≠ d

set_option maxHeartbeats 4000000 in
set_option maxRecDepth 100000 in
theorem route_any (n : Int) (a : Option Addr) (cap : Nat) (es : List (Int × Int)) (x y : Int) (ca : Option Addr) (cc : Nat) (away : List Int) (b : Bool) (w : World) (hN : es.length ≤ 1000000) (hA : away.length ≤ 1000000) (hE : EAt w a es) (hI : IAt w ca away) (hb : b = true ↔ RightG n es) :
    Calls Try.prog 22 #[.agg #[.int .i64 n, .slice a es.length cap], .int .i64 x, .int .i64 y, .slice ca away.length cc] w fun e w' => ∃ v, e = .returned v ∧ RouteTold n es x y away w w' v := by
  obtain ⟨N, hNe⟩ := ex_eq es.length
  obtain ⟨M, hMe⟩ := ex_eq away.length
  obtain ⟨W, hW⟩ := ex_eq (w.alloc (.cells #[.int .i64 n, .slice a N cap] 26))
  have hbW : Below w.heap.size w W := by rw [hW]; exact (Below.refl _ _).alloc (Nat.le_refl _) _
  have hO : W.heap[w.heap.size]? = some (.cells #[.int .i64 n, .slice a N cap] 26 (0, 0)) := by rw [hW]; exact heap_alloc_new _ _
  have hsW : w.heap.size < W.heap.size := (Array.getElem?_eq_some_iff.1 hO).1
  have CN : Hid (Calls Try.prog 44 #[.agg #[.int .i64 n, .slice a N cap]] W fun e w' => ∃ v, e = .returned v ∧ NbIs n es b W w' v) := by
    rw [hNe]; exact neighb_any n a cap es b W hN (hE.below hbW) hb
  have CA : Hid (∀ (m : Nat) X, m ≤ 1000 → Below w.heap.size w X → Calls Try.prog 47 #[.int .i64 m, .slice ca M cc] X fun e w' => ∃ g, e = .returned (.slice (some ⟨g, 0, none⟩) m m) ∧ X.heap.size ≤ g ∧ RowB w' g m (fun j => decide ((j : Int) ∉ away)) ∧ Below X.heap.size X w') := fun m X hm hX => by
    rw [hMe]; exact allBut_any m ca cc away X hm hA (hI.below hX)
  have HBB := hid hb
  have HM := hid hMe
  have HW := hid hW
  have HBW := hid hbW
  rw [← hMe]
  rw [← hNe]
  clear hNe hMe hW hbW hO hE hI hb hN hA
  go_enter Try.func22, Try.ntmps22
  go_wp2_with fail
  go_step3
  go_wp2_with fail
  rw [← HW.out]
  refine CN.out.mono ?_
  rintro e w1 ⟨v, rfl, hv⟩
  rcases hv with ⟨hb0, rfl, hb1⟩ | ⟨hb0, m, g, rfl, rfl, hgW, hnear, hb1⟩
  · have hbw1 : Below w.heap.size w w1 := HBW.out.trans (hb1.mono (by omega))
    have HRT : Hid (RouteTold n es x y away w w1 (.slice none 0 0)) := routeTold_nil (Or.inr ⟨(fun h => by have := HBB.out.2 h; rw [hb0] at this; cases this), rfl⟩) hbw1
    have hv := vtx_any ((0 : Nat) : Int) x false w1 (decide_eq_false (by omega)).symm
    clear CA CN hb1 hbw1 HBB
    go_wp2_with (go_at_call 45; refine hv.mono ?_; rintro e w' ⟨rfl, hw'⟩; rw [hw']; clear hw')
    rw [Exit.noGoto_ret]
    go_ret
    exact ⟨_, rfl, HRT.out⟩
  · have hRG := HBB.out.1 hb0
    have hm : m ≤ 1000 := by have := hRG.2.1; omega
    have hbw1 : Below w.heap.size w w1 := HBW.out.trans (hb1.mono (by omega))
    have HRG := hid hRG
    have HNA := hid hnear
    have HB1 := hid hbw1
    by_cases hxr : 0 ≤ x ∧ x < m
    · have hv := hid (vtx_any m x true w1 (decide_eq_true hxr).symm)
      by_cases hyr : 0 ≤ y ∧ y < m
      · have hv2 := hid (vtx_any m y true w1 (decide_eq_true hyr).symm)
        obtain ⟨X, rfl⟩ : ∃ X : Nat, x = X := ⟨x.toNat, by omega⟩
        obtain ⟨Y, rfl⟩ : ∃ Y : Nat, y = Y := ⟨y.toNat, by omega⟩
        have hXm : X < m := by omega
        have hYm : Y < m := by omega
        have C0 := hid (CA.out m w1 hm hbw1)
        clear CN CA hb1 hbw1 HBB hnear hRG
        go_wp2_with (first
          | (go_at_call_of 45 (Value.int .i64 (X : Int)); refine hv.out.mono ?_; rintro e w' ⟨rfl, hw'⟩; rw [hw']; clear hw')
          | (go_at_call 45; refine hv2.out.mono ?_; rintro e w' ⟨rfl, hw'⟩; rw [hw']; clear hw'))
        refine C0.out.mono ?_
        rintro e w2 ⟨G, rfl, hG, hrow, hb2⟩
        have HB2 := hid (HB1.out.trans (hb2.mono HB1.out.size))
        have HN2 := hid (HNA.out.below hb2)
        have CD := hid (dist_any g m es Y G (fun j => decide ((j : Int) ∉ away)) w2 hm HRG.out hYm HN2.out hrow)
        clear hb2 hrow C0 HNA HB1 hv hv2
        go_wp2_with fail
        refine CD.out.mono ?_
        rintro e w3 ⟨v, rfl, F, D, rfl, hF, hrow3, hb3, hle, hlev⟩
        have HB3 := hid (HB2.out.trans (hb3.mono HB2.out.size))
        have HN3 := hid (HN2.out.below hb3)
        obtain ⟨f0, _⟩ := hrow3.2 X hXm
        obtain ⟨d, hd⟩ := ex_eq (D X)
        rw [← hd] at f0
        have HD := hid hd
        have hd1 : d ≤ 1000 := by rw [hd]; exact hle X hXm
        have HLV : Hid (((Y : Int) ∈ away ∧ d = -1) ∨ Lev m es (fun z => z ∉ away) (Y : Int) (fun z => D z.toNat)) := by
          rcases hlev with ⟨h0, h1⟩ | ⟨_, h1⟩
          · refine Or.inl ⟨?_, by rw [hd]; exact h1 X hXm⟩
            have h0' : decide ((Y : Int) ∉ away) = false := h0
            exact Classical.byContradiction (fun h => by rw [decide_eq_true h] at h0'; cases h0')
          · refine Or.inr (h1.congr HRG.out (fun z h2 h3 => ?_))
            show decide ((z.toNat : Int) ∉ away) = true ↔ z ∉ away
            rw [decide_eq_true_eq, Int.toNat_of_nonneg h2]
        have HFR := hid hrow3
        have q0 : (X : Int) < (m : Int) := by omega
        clear CD HB2 HN2 hb3 hrow3 hle hlev hd
        by_cases hneg : d < 0
        · have HRT : Hid (RouteTold m es X Y away w w3 (.slice none 0 0)) := routeTold_nil (Or.inl ⟨HRG.out, by
            rcases HLV.out with ⟨h, _⟩ | h
            · exact route_shut (Or.inl h)
            · exact h.none (by simp only [Int.toNat_natCast, ← HD.out]; exact hneg)⟩) HB3.out
          have e1 : decide (d < 0) = true := decide_eq_true hneg
          clear HLV HFR HN3
          go_wp2
          rw [Exit.noGoto_ret]
          go_ret
          exact ⟨_, rfl, HRT.out⟩
        · have e1 : decide (d < 0) = false := decide_eq_false hneg
          have HLV2 : Hid (Lev m es (fun z => z ∉ away) (Y : Int) (fun z => D z.toNat)) := by
            rcases HLV.out with ⟨_, h⟩ | h
            · omega
            · exact h
          obtain ⟨T, rfl⟩ : ∃ T : Nat, d = T := ⟨d.toNat, by omega⟩
          have hT : T ≤ 1000 := by omega
          obtain ⟨W1, hW1⟩ := ex_eq (w3.alloc (.cells #[.int .i64 X] 3))
          have hbW1 : Below w3.heap.size w3 W1 := by rw [hW1]; exact (Below.refl _ _).alloc (Nat.le_refl _) _
          obtain ⟨BB, hBB⟩ := ex_eq w3.heap.size
          have HO1 : Hid (W1.ownsRow BB 3 1 (.slice (some ⟨w3.heap.size, 0, none⟩) 1 1) [(X : Int)].length ([(X : Int)].map (Value.int .i64))) := by
            show World.ownsRow _ _ _ _ _ _ _
            rw [hW1, hBB]; exact own_one w3 w3.heap.size (.int .i64 X) 3 (Nat.le_refl _)
          have f1 := (hbW1.cell (p := ⟨F, X, none⟩) HFR.out.1).trans f0
          have HNE : Hid (∀ u, u < m → ∃ au cu, ∀ X, Below BB w3 X → X.cell? ⟨g, u, none⟩ = some (.slice au (nbL u es).length cu) ∧ IAt X au (nbL u es)) := fun u hu => by
            obtain ⟨au, cu, h1, h2, _⟩ := HN3.out.2 u hu
            rw [hBB]
            exact ⟨au, cu, fun X hX => ⟨(hX.cell (p := ⟨g, u, none⟩) HN3.out.1).trans h1, h2.below hX⟩⟩
          have HFX : Hid (∀ X, Below BB w3 X → Row1 X F m D) := fun X hX => HFR.out.belowW (by rw [← hBB]; exact hX)
          rw [← hBB] at hbW1
          have HW1 := hid hW1
          have HBB2 := hid hBB
          have hszB : BB ≤ W1.heap.size := by rw [hBB]; exact Nat.le_trans (Nat.le_refl _) (by rw [hW1]; simp)
          obtain ⟨i0, hi, hz0, hz1, hz2⟩ := info_parts Try.info3
          clear hW1 hBB HLV HN3 HFR
          go_wp2
          rw [← HW1.out]
          go_step3
          go_wp2
          clear HW1 f0 f1
          go_loopw [11, 47] (fun rv i wo => ∃ (k : Nat) (L : List Int), k ≤ T ∧ i = .int .i64 k ∧ Hid (L.length = k + 1) ∧ Hid (wo.ownsRow BB 3 1 rv L.length (L.map (Value.int .i64))) ∧ Hid (Greedy es (fun z => D z.toNat) (X : Int) L) ∧ Below BB w3 wo ∧ BB ≤ wo.heap.size) (fun _ i _ => T - (RowKit.intOf i).toNat)
          case atStart => exact ⟨0, [(X : Int)], Nat.zero_le _, rfl, rfl, HO1, greedy_one _ _ _, hbW1, hszB⟩
          case round =>
            rename World => wo
            obtain ⟨k, L, hk, rfl, hLl, hown, hgr, hbo, hszo⟩ := hrel
            by_cases hlt : k < T
            · have hkL : k < L.length := by have := hLl.out; omega
              obtain ⟨gr, cr, hrv, hgrB, cL⟩ := own_at hown.out hkL
              subst hrv
              have hin := greedy_in HRG.out (by omega) hgr.out hkL
              have hlv := hgr.out.lev k hkL
              obtain ⟨u, hu⟩ : ∃ u : Nat, (u : Int) = L[k] := ⟨L[k].toNat, by omega⟩
              rw [← hu] at cL hin hlv
              simp only [Int.toNat_natCast] at hlv
              rw [← HD.out] at hlv
              have hum : u < m := by omega
              obtain ⟨au, cu, aa⟩ := HNE.out u hum
              obtain ⟨a1, _⟩ := aa wo hbo
              obtain ⟨NN, hNN⟩ := ex_eq (nbL (u : Int) es)
              rw [← hNN] at a1 aa
              have hNl : NN.length ≤ 1000000 := by rw [hNN]; exact Nat.le_trans (nbL_len _ _) (by have := HRG.out.2.2.1; omega)
              obtain ⟨J, hJ⟩ := ex_eq NN.length
              rw [← hJ] at a1 hNl
              have HNN := hid hNN
              have HJ := hid hJ
              have HIA : Hid (∀ X, Below BB w3 X → IAt X au NN) := fun X hX => (aa X hX).2
              have HU : Hid (L[k]? = some (u : Int)) := by show _ = _; rw [List.getElem?_eq_getElem hkL, hu]
              obtain ⟨K, hK⟩ := ex_eq L.length
              have hKk : K = k + 1 := by rw [hK]; exact hLl.out
              have HK := hid hK
              rw [← hK]
              subst hKk
              have HLV := hid hlv
              have q1 : (k : Int) < (T : Int) := by omega
              have q2 : (u : Int) < (m : Int) := by omega
              have q3 : (k : Int) < ((k + 1 : Nat) : Int) := by omega
              clear hNN hJ hu hin aa hK hlv hkL
              go_wp2
              go_loopg [11, 58] J (fun Gh rv i wz => ∃ c : Nat, c ≤ J ∧ J - c ≤ Gh ∧ i = .int .i64 c ∧ rv = .slice (some ⟨gr, 0, none⟩) (k + 1) cr ∧ Hid (NoneTo (fun z => D z.toNat) NN ((T : Int) - k - 1) c) ∧ Hid (∃ q, wz = wo.drewN q))
              case atStart => exact ⟨0, Nat.zero_le _, by omega, rfl, rfl, (fun z hz => by simp at hz), ⟨0, rfl⟩⟩
              case round =>
                obtain ⟨c, hc, hGh, rfl, rfl, hnt, hq⟩ := hrel
                have hbr : Below BB w3 wr := by
                  obtain ⟨q, hq⟩ := hq.out
                  rw [hq]; exact below_drewN hbo q
                by_cases hlc : c < J
                · have hcl : c < NN.length := by rw [← HJ.out]; exact hlc
                  have hadj : Adj es (u : Int) NN[c] := (nbL_right (n := m) HRG.out).1 (by rw [← HNN.out]; exact List.getElem_mem hcl)
                  have hyr' := (hadj.in HRG.out).2.1
                  obtain ⟨y, hy⟩ : ∃ y : Nat, (y : Int) = NN[c] := ⟨NN[c].toNat, by omega⟩
                  rw [← hy] at hadj hyr'
                  have hym : y < m := by omega
                  obtain ⟨ga, oa, rfl, hga, hca⟩ := HIA.out wr hbr (by omega)
                  have d0 := hca c hcl
                  rw [← hy] at d0
                  obtain ⟨f2, _⟩ := (HFX.out wr hbr).2 y hym
                  obtain ⟨f3, _⟩ := (HFX.out wr hbr).2 X hXm
                  rw [← HD.out] at f3
                  obtain ⟨dy, hdy⟩ := ex_eq (D y)
                  rw [← hdy] at f2
                  have HDY := hid hdy
                  have HY := hid hy
                  have HADJ := hid hadj
                  have HCL : Hid (c < NN.length) := hcl
                  have q4 : (c : Int) < (J : Int) := by omega
                  have q5 : (y : Int) < (m : Int) := by omega
                  have q6 : IntKind.i64.wrap ((T : Int) - (k : Int)) = (T : Int) - (k : Int) := by simp [IntKind.wrap, IntKind.bits, IntKind.signed]; omega
                  have q7 : IntKind.i64.wrap ((T : Int) - (k : Int) - 1) = (T : Int) - (k : Int) - 1 := by simp [IntKind.wrap, IntKind.bits, IntKind.signed]; omega
                  clear hca hy hadj hyr' hdy
                  by_cases heq : dy = (T : Int) - k - 1
                  · have b1 : (dy == (T : Int) - (k : Int) - 1) = true := beq_iff_eq.2 heq
                    have HGP : Hid (Greedy es (fun z => D z.toNat) (X : Int) (L ++ [(y : Int)])) := by
                      refine hgr.out.put (i := k) hLl.out HU.out HADJ.out (by simp only [Int.toNat_natCast, ← HDY.out, ← HD.out]; exact heq) (fun z hz hDz => ?_)
                      simp only [Int.toNat_natCast, ← HD.out] at hDz
                      have hzm : z ∈ NN := by rw [HNN.out]; exact (nbL_right (n := m) HRG.out).2 hz
                      obtain ⟨i, hi', rfl⟩ := List.getElem_of_mem hzm
                      by_cases e : i < c
                      · exact absurd hDz (hnt.out _ (by rw [List.mem_take_iff_getElem]; exact ⟨i, by omega, rfl⟩))
                      · rw [HY.out]
                        by_cases e2 : i = c
                        · subst e2; exact Int.le_refl _
                        · have hrise := nbL_rises (n := m) (v := (u : Int)) HRG.out
                          rw [← HNN.out] at hrise
                          exact Int.le_of_lt (List.pairwise_iff_getElem.1 hrise c i HCL.out hi' (by omega))
                    have hQ : ∃ q, wr = wo.drewN q := hq.out
                    have hown2 : wr.ownsRow BB 3 1 (.slice (some ⟨gr, 0, none⟩) (k + 1) cr) (k + 1) (L.map (Value.int .i64)) := by
                      obtain ⟨q, e⟩ := hQ
                      have h := hown.out
                      rw [← HK.out] at h
                      rw [e]; exact h
                    have hszr : BB ≤ wr.heap.size := by
                      obtain ⟨q, e⟩ := hQ
                      rw [e]; exact hszo
                    have HOW : Hid (∀ q, ((wr.drewN q).alloc (.cells #[.int .i64 y] 3)).ownsRow BB 3 1 (.slice (some ⟨gr, 0, none⟩) (k + 1) cr) (k + 1) (L.map (Value.int .i64))) := fun q => World.ownsRow.alloc (w := wr.drewN q) hown2 _
                    have HNW : Hid (∀ q, ∀ p, some (⟨wr.heap.size, 0, none⟩ : Addr) = some p → ∀ j u, [Value.int .i64 (y : Int)][j]? = some u → ((wr.drewN q).alloc (.cells #[.int .i64 y] 3)).cell? (p.add j) = some u) := fun q => by have h := news_oneI (w := wr.drewN q) (x := .int .i64 (y : Int)) (t := 3); simpa using h
                    have HON : Hid (∀ v ∈ [Value.int .i64 (y : Int)], v.oneCell' = true) := fun v hv => by simp at hv; rw [hv]; rfl
                    have H63 : Hid (k + 1 + 1 ≤ maxLen) := by show k + 1 + 1 ≤ maxLen; unfold maxLen; omega
                    have HBS : Hid (∀ q, BB ≤ ((wr.drewN q).alloc (.cells #[.int .i64 y] 3)).heap.size) := fun q => by simp; omega
                    have HKP : Hid (∀ q w4, ((wr.drewN q).alloc (.cells #[.int .i64 y] 3)).grownBy w4 (Value.slice (some ⟨gr, 0, none⟩) (k + 1) cr).ownBlock → Below BB w3 w4 ∧ BB ≤ w4.heap.size) := fun q w4 hg =>
                      ⟨Below.grown ((below_drewN hbr q).alloc (by simpa using hszr) _) hg (HBS.out q) (fun j hj => by obtain rfl : gr = j := by { simpa [Value.ownBlock] using hj }; exact hgrB), Nat.le_trans (HBS.out q) hg.size⟩
                    have HLN : Hid ((L ++ [(y : Int)]).length = k + 1 + 1) := by show _ = _; rw [List.length_append, hLl.out]; rfl
                    clear hnt HDY HY HADJ hq hQ hown2 hgr hLl hown
                    go_wp2_with fail
                    go_quiet (fail)
                    go_wp2_with (at_builtin; refine wpList_append_any _ rfl _ _ 28 rfl BB 3 i0 _ 1 8 Try.underlying28 hi hz0 hz1 hz2 rfl (by decide) _ _ _ rfl (HOW.out _) (some ⟨wr.heap.size, 0, none⟩) 1 1 [.int .i64 y] rfl (fun h => by cases h) rfl (HNW.out _) HON.out H63.out ?c4 (HBS.out _) ?_)
                    case c4 => omega
                    intro v4 w4 hown4 hgrow _
                    obtain ⟨hb4, hsz4⟩ := HKP.out _ w4 hgrow
                    have HOX : Hid (w4.ownsRow BB 3 1 v4 (L ++ [(y : Int)]).length ((L ++ [(y : Int)]).map (Value.int .i64))) := by
                      show World.ownsRow _ _ _ _ _ _ _
                      rw [HLN.out, List.map_append]; exact hown4
                    clear hown4 hgrow HKP HBS H63 HON HNW HOW
                    go_wp2
                    go_roundw
                    case rel => exact ⟨k + 1, L ++ [(y : Int)], by omega, by go_num, HLN, HOX, HGP, hb4, hsz4⟩
                    case measure => simp [RowKit.intOf]; omega
                  · have b1 : (dy == (T : Int) - (k : Int) - 1) = false := beq_eq_false_iff_ne.2 heq
                    have HNX : Hid (NoneTo (fun z => D z.toNat) NN ((T : Int) - k - 1) (c + 1)) := fun z hz => by
                      rw [List.take_append_getElem HCL.out |>.symm] at hz
                      rcases List.mem_append.1 hz with hz | hz
                      · exact hnt.out z hz
                      · simp at hz
                        subst hz
                        rw [← HY.out]
                        simp only [Int.toNat_natCast, ← HDY.out]
                        exact heq
                    have HQ : Hid (∀ q, ∃ q', wr.drewN q = wo.drewN q') := fun q => by
                      obtain ⟨q', e⟩ := hq.out
                      exact ⟨q' + q, by rw [e, World.drewN_drewN]⟩
                    clear hnt HDY HY HADJ hq
                    go_wp2_with fail
                    go_quiet (fail)
                    go_wp2
                    go_roundg (J - (c + 1))
                    case measure => omega
                    case rel => exact ⟨c + 1, by omega, Nat.le_refl _, by go_num, rfl, HNX, HQ.out _⟩
                · exfalso
                  obtain rfl : c = J := by omega
                  have hlv := HLV.out
                  obtain ⟨z, hz, hDz⟩ := HLV2.out.down (u : Int) (by omega) q2 (by simp only [Int.toNat_natCast]; omega)
                  have hzm : z ∈ NN := by rw [HNN.out]; exact (nbL_right (n := m) HRG.out).2 hz.symm
                  refine hnt.out z (by rw [HJ.out, List.take_length]; exact hzm) ?_
                  simp only [Int.toNat_natCast] at hDz ⊢
                  omega
            · obtain rfl : k = T := by omega
              have HRI : Hid (RouteIs m es X Y away L) := hgr.out.route HRG.out HLV2.out (by omega) (by rw [hLl.out]; simp only [Int.toNat_natCast, ← HD.out]; omega)
              obtain ⟨ar, cr, hrv, hIA⟩ := iat_own hown.out
              obtain ⟨a5, c5, hsv, hsl⟩ := sl_own hown.out
              have HRT : Hid (RouteTold m es X Y away w wo u11) := by
                rw [hsv] at hrv
                obtain ⟨rfl, rfl⟩ : a5 = ar ∧ c5 = cr := by simpa using hrv
                exact ⟨a5, c5, L, hsv, Or.inl ⟨HRG.out, HRI.out⟩, hsl, hIA, HB3.out.trans (hbo.mono (by rw [HBB2.out]; exact HB3.out.size))⟩
              clear hrv hsv hown hgr HRI hIA hsl
              go_wp2
              rw [Exit.noGoto_ret]
              go_ret
              exact ⟨_, rfl, HRT.out⟩
      · have hv2 := hid (vtx_any m y false w1 (decide_eq_false hyr).symm)
        have HRT : Hid (RouteTold m es x y away w w1 (.slice none 0 0)) := routeTold_nil (Or.inl ⟨HRG.out, route_shut (Or.inr (Or.inr (Or.inr hyr)))⟩) HB1.out
        obtain ⟨X, rfl⟩ : ∃ X : Nat, x = X := ⟨x.toNat, by omega⟩
        have hne : ¬ (X : Int) = y := fun e => hyr (by rw [← e]; exact hxr)
        clear CN CA hb1 hbw1 HBB hnear hRG HNA HB1
        go_wp2_with (first
          | (go_at_call_of 45 (Value.int .i64 (X : Int)); refine hv.out.mono ?_; rintro e w' ⟨rfl, hw'⟩; rw [hw']; clear hw')
          | (go_at_call 45; refine hv2.out.mono ?_; rintro e w' ⟨rfl, hw'⟩; rw [hw']; clear hw'))
        rw [Exit.noGoto_ret]
        go_ret
        exact ⟨_, rfl, HRT.out⟩
    · have hv := hid (vtx_any m x false w1 (decide_eq_false hxr).symm)
      have HRT : Hid (RouteTold m es x y away w w1 (.slice none 0 0)) := routeTold_nil (Or.inl ⟨HRG.out, route_shut (Or.inr (Or.inr (Or.inl hxr)))⟩) HB1.out
      clear CN CA hb1 hbw1 HBB hnear hRG HNA HB1
      go_wp2_with (go_at_call 45; refine hv.out.mono ?_; rintro e w' ⟨rfl, hw'⟩; rw [hw']; clear hw')
      rw [Exit.noGoto_ret]
      go_ret
      exact ⟨_, rfl, HRT.out⟩
end Go.Proofs.Ytplhpinaadgkkaa
