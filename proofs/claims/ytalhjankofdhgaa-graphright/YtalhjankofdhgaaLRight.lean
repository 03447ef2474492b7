/-
  carcanetlaw03.GraphRight answers true.
-/
import Derived.Test.YtalhjankofdhgaaGHead
import Derived.Test.YtalhjankofdhgaaRDeg
namespace Go.Proofs.Ytalhjankofdhgaa
open Go.RowKit Go.Lib

set_option maxHeartbeats 4000000 in
set_option maxRecDepth 100000 in
theorem right_law (n : Int) (a : Option Addr) (len cap : Nat) (l : List (Int × Int)) (x y : Int) (w : World) (hl : len = l.length) (hc : len ≤ cap) (hm : cap ≤ maxLen) (ha : a = none → cap = 0) (hE : EAt w a l) :
    Calls Try.prog 4 #[.agg #[.int .i64 n, .slice a len cap], .int .i64 x, .int .i64 y] w fun e w' => e = .returned (.bool true) ∧ Below w.heap.size w w' := by
  obtain ⟨i0, hi, hz0, hz1, hz2⟩ := info_parts Try.info39
  obtain ⟨k, hk⟩ := ex_eq (min len 500)
  obtain ⟨es, hes⟩ := ex_eq (l.take k)
  have hek : es.length = k := by rw [hes, List.length_take]; omega
  have HEK : Hid (es.length = k) := hek
  have k5 : k ≤ 500 := by omega
  have kmin : min (len : Int) 500 = (k : Int) := by omega
  have kc : (k : Int) ≤ (cap : Int) := by omega
  have k0 : (0 : Int) ≤ (k : Int) := by omega
  have HE : Hid (EAt w a es) := by
    show EAt w a es
    rw [hes]; exact eat_take hE k
  have hbA : Below w.heap.size w (w.alloc (.cells #[.int .i64 n, .slice a len cap] 25)) := (Below.refl _ _).alloc (Nat.le_refl _) _
  have hsA : (w.alloc (.cells #[.int .i64 n, .slice a len cap] 25)).heap.size = w.heap.size + 1 := by simp
  have HOA : Hid ((w.alloc (.cells #[.int .i64 n, .slice a len cap] 25)).heap[w.heap.size]? = some (.cells #[.int .i64 n, .slice a len cap] 25)) := heap_alloc_new _ _
  have k9 : (k : Int) ≤ (len : Int) := by omega
  clear hes hE hl hk
  go_enter Try.func4, Try.ntmps4
  go_wp2_with fail
  refine (shown_any _).mono ?_
  rintro e w1 ⟨rfl, hb1⟩
  rw [hsA] at hb1
  have hbw : Below w.heap.size w w1 := hbA.trans (hb1.mono (by omega))
  have o1 := (hb1.block w.heap.size (by omega)).trans HOA.out
  have hs1 := hb1.size
  rw [hsA] at hs1
  have c1 : (w1.alloc (Obj.cells #[] 39 (0, 0))).cell? ⟨w.heap.size, 1, none⟩ = some (.slice a len cap) := cell_alloc_old (cell_of_heap o1 1) _
  have HO1 : Hid (w1.heap[w.heap.size]? = some (.cells #[.int .i64 n, .slice a len cap] 25)) := o1
  have HE1 : Hid (EAt w1 a es) := HE.out.below hbw
  clear hb1 hbA hsA HOA o1 HE hek
  obtain ⟨o, ho⟩ := ex_eq (Obj.cells #[] 39 (0, 0))
  have HOE : Hid ((w1.alloc o).ownsRow w1.heap.size 39 2 (.slice (some ⟨w1.heap.size, 0, none⟩) 0 0) 0 []) := own_empty o ho
  subst ho
  have key : Hid (∀ (v' : Value) (w4 : World), w4.ownsRow w1.heap.size 39 2 v' k (cellsE es) → Below w1.heap.size w1 w4 → ∃ a' cap', v' = .slice a' k cap' ∧ Sl a' cap' k ∧ GC (w4.setCell ⟨w.heap.size, 1, none⟩ v') w.heap.size n a' k cap' es ∧ Below w.heap.size w (w4.setCell ⟨w.heap.size, 1, none⟩ v') ∧ w4.frozen? ⟨w.heap.size, 1, none⟩ = false ∧ w4.cell? ⟨w.heap.size, 1, none⟩ = some (.slice a len cap)) := fun v' w4 hown hb => by
    have o4 := (hb.block w.heap.size (by omega)).trans HO1.out
    have d0 := cell_of_heap o4 0
    have d1 := cell_of_heap o4 1
    have hown' := hown
    rw [← HEK.out] at hown
    obtain ⟨a', cap', rfl, hsl, hea⟩ := eat_own hown
    rw [HEK.out] at hsl hown'
    have hge := own_ge hown'
    rw [HEK.out]
    refine ⟨a', cap', rfl, hsl, ⟨(set_one d0 d1 _).1, (set_one d0 d1 _).2, hea.set (fun g off _ h => by have := hge g off h; simp; omega) _⟩, ?_, frozen_of_heap o4 1, d1⟩
    exact (hbw.trans (hb.mono (by omega))).setCell (by simp) _
  go_upto_region 2 with fail
  go_cut [9] from 9 to 18 (fun _ wx => ∃ a' cap', Hid (Sl a' cap' k) ∧ Hid (GC wx w.heap.size n a' k cap' es) ∧ Below w.heap.size w wx)
  case first =>
    cases a with
    | none =>
      obtain rfl := ha rfl
      obtain rfl : len = 0 := by omega
      obtain rfl : k = 0 := by simp at k9; omega
      obtain rfl : es = [] := List.eq_nil_of_length_eq_zero HEK.out
      clear ha kmin kc k0 k5 hc hm k9
      obtain ⟨a', cap', hv, hsl, hgc, hbb, hfr, hso⟩ := key.out _ _ HOE.out ((Below.refl _ w1).alloc (Nat.le_refl _) _)
      obtain ⟨rfl, rfl⟩ : a' = some ⟨w1.heap.size, 0, none⟩ ∧ cap' = 0 := by simp at hv; exact ⟨hv.1.symm, hv.2.symm⟩
      have HSL : Hid (Sl (some ⟨w1.heap.size, 0, none⟩) 0 0) := hsl
      have HGC := hid hgc
      have HBB := hid hbb
      clear hv hsl hgc hso hbb
      go_wp2_with (at_builtin; refine wpList_append_own_none rfl _ _ 22 rfl w1.heap.size 39 i0 2 Try.underlying22 hi _ _ _ rfl HOE.out rfl ?_)
      all_goals go_meet
      all_goals exact ⟨_, _, HSL, HGC.out, HBB.out⟩
    | some ad =>
      clear ha
      obtain ⟨cs, hcs⟩ := ex_eq (cellsE es)
      have HCS : Hid (cs = cellsE es) := hcs
      have hlen : cs.length = k * 2 := by rw [hcs, cellsE_len, HEK.out]
      clear hcs
      go_wp2_with (at_builtin; refine wpList_append_own _ rfl _ _ 22 rfl w1.heap.size 39 i0 _ 2 16 Try.underlying22 hi hz0 hz1 hz2 rfl (by decide) _ _ _ rfl HOE.out ad k cap cs rfl hlen ?c1 ?c2 ?c3 ?c4 ?c5 ?_)
      case c1 => rw [HCS.out]; exact (HE1.out.below ((Below.refl _ w1).alloc (Nat.le_refl _) _)).news
      case c2 => rw [HCS.out]; exact cellsE_one es
      case c3 => unfold maxLen; omega
      case c4 => omega
      case c5 => simp
      intro v' w4 hown4 hgrow _
      have hb4 : Below w1.heap.size w1 w4 := Below.grown ((Below.refl _ w1).alloc (Nat.le_refl _) _) hgrow (by simp) (fun j hj => (HOE.out.lt j hj).1)
      rw [HCS.out] at hown4
      obtain ⟨a', cap', rfl, hsl, hgc, hbb, hfr, hso⟩ := key.out _ _ hown4 hb4
      have HSL : Hid (Sl a' cap' k) := hsl
      have HGC := hid hgc
      have HBB := hid hbb
      clear hsl hgc hbb hown4 hgrow hb4
      go_wp2
      all_goals go_meet
      all_goals exact ⟨_, _, HSL, HGC.out, HBB.out⟩
  case rest =>
    obtain ⟨a', cap', hsl, hgc, hbx⟩ := hcut
    clear HO1 HE1 HOE key hi hz0 hz1 hz2 c1 ha
    obtain ⟨b, hb⟩ : ∃ b : Bool, b = true ↔ RightG n es := by
      by_cases h : RightG n es
      · exact ⟨true, ⟨fun _ => h, fun _ => rfl⟩⟩
      · exact ⟨false, ⟨fun h' => (by cases h'), fun h' => absurd h' h⟩⟩
    obtain ⟨L, hL⟩ := ex_eq (if b = true then nbL x es else [])
    obtain ⟨D, hD⟩ := ex_eq (if b = true then (List.range n.toNat).map (fun v : Nat => ((nbL v es).length : Int)) else [])
    have hN : es.length ≤ 1000000 := by rw [HEK.out]; omega
    have hr : decide (y ∈ L) = true ↔ (RightG n es ∧ ((x, y) ∈ es ∨ (y, x) ∈ es)) := by
      rw [decide_eq_true_eq, hL]
      by_cases h : RightG n es
      · rw [if_pos (hb.2 h), nbL_right h]; exact ⟨fun h' => ⟨h, h'⟩, fun h' => h'.2⟩
      · rw [if_neg (fun h' => h (hb.1 h'))]; simp [h]
    obtain ⟨r, hrr⟩ := ex_eq (decide (y ∈ L))
    have hLl : L.length ≤ 1000000 := by
      rw [hL]; split
      · exact Nat.le_trans (nbL_len _ _) hN
      · simp
    have hDl : D.length ≤ 1000000 := by
      rw [hD]; split
      · have := (hb.1 (by assumption)).2.1
        rw [List.length_map, List.length_range]; omega
      · simp
    have C1 : Hid (∀ W, GC W w.heap.size n a' k cap' es → Calls Try.prog 14 #[.agg #[.int .i64 n, .slice a' k cap']] W fun e w' => e = .returned (.bool b) ∧ Below W.heap.size W w') := fun W h => by rw [← HEK.out]; exact right_any n a' cap' es b W hN h.at_ hb
    have C2 : Hid (∀ W, GC W w.heap.size n a' k cap' es → Calls Try.prog 15 #[.agg #[.int .i64 n, .slice a' k cap']] W fun e w' => e = .returned (.bool b) ∧ Below W.heap.size W w') := fun W h => by rw [← HEK.out]; exact rright_any n a' cap' es b W hN h.at_ hb
    have C3 : Hid (∀ W, GC W w.heap.size n a' k cap' es → Calls Try.prog 16 #[.agg #[.int .i64 n, .slice a' k cap'], .int .i64 x, .int .i64 y] W fun e w' => e = .returned (.bool r) ∧ Below W.heap.size W w') := fun W h => by rw [← HEK.out, hrr]; exact has_any n a' cap' es x y b L W hN h.at_ hb hL
    have C4 : Hid (∀ W, GC W w.heap.size n a' k cap' es → Calls Try.prog 17 #[.agg #[.int .i64 n, .slice a' k cap'], .int .i64 x, .int .i64 y] W fun e w' => e = .returned (.bool r) ∧ Below W.heap.size W w') := fun W h => by rw [← HEK.out]; exact rhas_any n a' cap' es x y b r W hN h.at_ hb (by rw [hrr]; exact hr)
    obtain ⟨m, hm2⟩ := ex_eq L.length
    obtain ⟨m', hm3⟩ := ex_eq D.length
    have C5 : Hid (∀ W, GC W w.heap.size n a' k cap' es → Calls Try.prog 19 #[.agg #[.int .i64 n, .slice a' k cap'], .int .i64 x] W fun e w' => ∃ a2 c2, e = .returned (.slice a2 m c2) ∧ Hid (IAt w' a2 L) ∧ Below W.heap.size W w') := fun W h => by rw [← HEK.out, hm2]; exact near_any n a' cap' es x b L W hN h.at_ hb hL
    have C6 : Hid (∀ W, GC W w.heap.size n a' k cap' es → Calls Try.prog 20 #[.agg #[.int .i64 n, .slice a' k cap'], .int .i64 x] W fun e w' => ∃ a2 c2, e = .returned (.slice a2 m c2) ∧ Hid (IAt w' a2 L) ∧ Below W.heap.size W w') := fun W h => by rw [← HEK.out, hm2]; exact rnear_any n a' cap' es x b L W hN h.at_ hb hL
    have C7 : Hid (∀ W (a1 : Option Addr) (c1 : Nat) (a2 : Option Addr) (c2 : Nat), IAt W a1 L → IAt W a2 L → Calls Try.prog 18 #[.slice a1 m c1, .slice a2 m c2] W fun e w' => e = .returned (.bool true) ∧ Below W.heap.size W w') := fun W a1 c1 a2 c2 h1 h2 => by rw [hm2]; exact same_any a1 a2 c1 c2 L L true W hLl h1 h2 ⟨fun _ => rfl, fun _ => rfl⟩
    have C8 : Hid (∀ W, GC W w.heap.size n a' k cap' es → Calls Try.prog 21 #[.agg #[.int .i64 n, .slice a' k cap']] W fun e w' => ∃ a2 c2, e = .returned (.slice a2 m' c2) ∧ Hid (IAt w' a2 D) ∧ Below W.heap.size W w') := fun W h => by
      rw [← HEK.out, hm3]
      exact (degrees_any n a' cap' es b W hN h.at_ hb).mono fun _ _ ⟨a2, c2, D2, he, h2, h3, h4⟩ => by rw [← hD] at h2; subst h2; exact ⟨a2, c2, he, h3, h4⟩
    have C9 : Hid (∀ W, GC W w.heap.size n a' k cap' es → Calls Try.prog 22 #[.agg #[.int .i64 n, .slice a' k cap']] W fun e w' => ∃ a2 c2, e = .returned (.slice a2 m' c2) ∧ Hid (IAt w' a2 D) ∧ Below W.heap.size W w') := fun W h => by
      rw [← HEK.out, hm3]
      exact (rdegrees_any n a' cap' es b W hN h.at_ hb).mono fun _ _ ⟨a2, c2, D2, he, h2, h3, h4⟩ => by rw [← hD] at h2; subst h2; exact ⟨a2, c2, he, h3, h4⟩
    have C10 : Hid (∀ W (a1 : Option Addr) (c1 : Nat) (a2 : Option Addr) (c2 : Nat), IAt W a1 D → IAt W a2 D → Calls Try.prog 18 #[.slice a1 m' c1, .slice a2 m' c2] W fun e w' => e = .returned (.bool true) ∧ Below W.heap.size W w') := fun W a1 c1 a2 c2 h1 h2 => by rw [hm3]; exact same_any a1 a2 c1 c2 D D true W hDl h1 h2 ⟨fun _ => rfl, fun _ => rfl⟩
    clear hb hL hD hN hr hrr hLl hDl hm2 hm3 HEK hbw hs1 kmin kc k0 k9 k5 hc hm
    go_wp2_with fail
    obtain ⟨X, hX⟩ := ex_eq wc.drew
    have hbX : Below wc.heap.size wc X := by rw [hX]; exact (Below.refl _ _).drew
    have G0 : Hid (GC X w.heap.size n a' k cap' es) := hgc.out.on hbX
    have B0 : Below w.heap.size w X := hbx.trans (hbX.mono hbx.size)
    have hS := G0.out.cells
    rw [hX] at hS
    go_region_held3 (fun w' => w'.cell? ⟨w.heap.size, 0, none⟩ = some (.int .i64 n) ∧ w'.cell? ⟨w.heap.size, 1, none⟩ = some (.slice a' k cap')) (exact hS)
      (first
        | (go_at_call 14; rw [← hX]; refine (C1.out _ G0.out).mono ?_; rintro e wA ⟨rfl, hbA⟩; have G1 := hid (G0.out.on hbA); have B1 : Below w.heap.size w wA := B0.trans (hbA.mono B0.size); have hS := G1.out.cells; clear hbA)
        | (go_at_call 15; refine (C2.out _ G1.out).mono ?_; rintro e wB ⟨rfl, hbB⟩; have G2 := hid (G1.out.on hbB); have B2 : Below w.heap.size w wB := B1.trans (hbB.mono B1.size); have hS := G2.out.cells; clear hbB)
        | (go_at_call 16; refine (C3.out _ G2.out).mono ?_; rintro e wC ⟨rfl, hbC⟩; have G3 := hid (G2.out.on hbC); have B3 : Below w.heap.size w wC := B2.trans (hbC.mono B2.size); have hS := G3.out.cells; clear hbC)
        | (go_at_call 17; refine (C4.out _ G3.out).mono ?_; rintro e wD ⟨rfl, hbD⟩; have G4 := hid (G3.out.on hbD); have B4 : Below w.heap.size w wD := B3.trans (hbD.mono B3.size); have hS := G4.out.cells; clear hbD)
        | (go_at_call 19; refine (C5.out _ G4.out).mono ?_; rintro e wE ⟨aE, cE, rfl, IE, hbE⟩; have G5 := hid (G4.out.on hbE); have B5 : Below w.heap.size w wE := B4.trans (hbE.mono B4.size); have hS := G5.out.cells; clear hbE)
        | (go_at_call 20; refine (C6.out _ G5.out).mono ?_; rintro e wF ⟨aF, cF, rfl, IF, hbF⟩; have G6 := hid (G5.out.on hbF); have IE2 := hid (IE.out.below hbF); have B6 : Below w.heap.size w wF := B5.trans (hbF.mono B5.size); have hS := G6.out.cells; clear hbF)
        | (go_at_call 18; refine (C10.out _ aH cH aI cI IH2.out II.out).mono ?_; rintro e wJ ⟨rfl, hbJ⟩; have G10 := hid (G9.out.on hbJ); have B10 : Below w.heap.size w wJ := B9.trans (hbJ.mono B9.size); have hS := G10.out.cells; clear hbJ)
        | (go_at_call 18; refine (C7.out _ aE cE aF cF IE2.out IF.out).mono ?_; rintro e wG ⟨rfl, hbG⟩; have G7 := hid (G6.out.on hbG); have B7 : Below w.heap.size w wG := B6.trans (hbG.mono B6.size); have hS := G7.out.cells; clear hbG)
        | (go_at_call 21; refine (C8.out _ G7.out).mono ?_; rintro e wH ⟨aH, cH, rfl, IH, hbH⟩; have G8 := hid (G7.out.on hbH); have B8 : Below w.heap.size w wH := B7.trans (hbH.mono B7.size); have hS := G8.out.cells; clear hbH)
        | (go_at_call 22; refine (C9.out _ G8.out).mono ?_; rintro e wI ⟨aI, cI, rfl, II, hbI⟩; have G9 := hid (G8.out.on hbI); have IH2 := hid (IH.out.below hbI); have B9 : Below w.heap.size w wI := B8.trans (hbI.mono B8.size); have hS := G9.out.cells; clear hbI))
    all_goals (clear C1 C2 C3 C4 C5 C6 C7 C8 C9 C10; go_wp2; go_ret; exact ⟨rfl, B10⟩)
end Go.Proofs.Ytalhjankofdhgaa
