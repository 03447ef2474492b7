/-
  carcanetlaw05.WalkPaths answers true, for any walks that keep the contracts.
-/
import Derived.Test.YtccbheijfnodjaaLWTurn
import Derived.Test.YtccbheijfnodjaaB17
import Derived.Test.YtccbheijfnodjaaB28
import Derived.Test.YtccbheijfnodjaaB02
namespace Go.Proofs.Ytccbheijfnodjaa
open Go.RowKit Go.Lib

set_option maxHeartbeats 4000000 in
set_option maxRecDepth 100000 in
theorem walkPaths_law (O : WalkOps) (n : Int) (a : Option Addr) (len cap : Nat) (l : List (Int × Int)) (pa : Option Addr) (plen pc : Nat) (p : List Int) (w : World) (hl : len = l.length) (hc : len ≤ cap) (hm : cap ≤ maxLen) (ha : a = none → cap = 0) (hE : EAt w a l)
    (hpl : plen = p.length) (hpc : plen ≤ pc) (hpm : pc ≤ maxLen) (hpa : pa = none → pc = 0) (hp : IAt w pa p) :
    Calls Try.prog 3 #[.agg #[.int .i64 n, .slice a len cap], .slice pa plen pc] w fun e w' => e = .returned (.bool true) ∧ Below w.heap.size w w' := by
  have HO := hid O
  clear O
  obtain ⟨K2, hK2⟩ := ex_eq (min plen 60)
  obtain ⟨q, hq⟩ := ex_eq (p.take K2)
  have hqk : q.length = K2 := by rw [hq, List.length_take]; omega
  have HQK : Hid (K2 = q.length) := hqk.symm
  have j5 : K2 ≤ 60 := by omega
  have jmin : min (plen : Int) 60 = (K2 : Int) := by omega
  have jc : (K2 : Int) ≤ (pc : Int) := by omega
  have j0 : (0 : Int) ≤ (K2 : Int) := by omega
  have j9 : (K2 : Int) ≤ (plen : Int) := by omega
  have HSP : Hid (Slw pa pc K2) := ⟨by omega, hpa⟩
  clear hqk
  obtain ⟨i0, hi, hz0, hz1, hz2⟩ := info_parts Try.info46
  obtain ⟨k, hk⟩ := ex_eq (min len 300)
  obtain ⟨es, hes⟩ := ex_eq (l.take k)
  have hek : es.length = k := by rw [hes, List.length_take]; omega
  have HEK : Hid (es.length = k) := hek
  have k5 : k ≤ 300 := by omega
  have kmin : min (len : Int) 300 = (k : Int) := by omega
  have kc : (k : Int) ≤ (cap : Int) := by omega
  have k0 : (0 : Int) ≤ (k : Int) := by omega
  have HE : Hid (EAt w a es) := by
    show EAt w a es
    rw [hes]; exact eat_take hE k
  have hbA : Below w.heap.size w (w.alloc (.cells #[.int .i64 n, .slice a len cap] 24)) := (Below.refl _ _).alloc (Nat.le_refl _) _
  have hsA : (w.alloc (.cells #[.int .i64 n, .slice a len cap] 24)).heap.size = w.heap.size + 1 := by simp
  have HOA : Hid ((w.alloc (.cells #[.int .i64 n, .slice a len cap] 24)).heap[w.heap.size]? = some (.cells #[.int .i64 n, .slice a len cap] 24)) := heap_alloc_new _ _
  have k9 : (k : Int) ≤ (len : Int) := by omega
  have HPB0 : Hid (∀ X, Below w.heap.size w X → IAt X pa q) := fun X h => by rw [hq]; exact iat_take (hp.below h) K2
  clear hes hE hl hk hq hp hpl hK2
  go_enter Try.func3, Try.ntmps3
  go_wp2_with fail
  refine (wshown_any HO.out _).mono ?_
  rintro e w1 ⟨rfl, hb1⟩
  rw [hsA] at hb1
  have hbw : Below w.heap.size w w1 := hbA.trans (hb1.mono (by omega))
  have o1 := (hb1.block w.heap.size (by omega)).trans HOA.out
  have hs1 := hb1.size
  rw [hsA] at hs1
  have c1 : (w1.alloc (Obj.cells #[] 46 (0, 0))).cell? ⟨w.heap.size, 1, none⟩ = some (.slice a len cap) := cell_alloc_old (cell_of_heap o1 1) _
  have HO1 : Hid (w1.heap[w.heap.size]? = some (.cells #[.int .i64 n, .slice a len cap] 24)) := o1
  have HE1 : Hid (EAt w1 a es) := HE.out.below hbw
  clear hb1 hbA hsA HOA o1 HE hek
  obtain ⟨o, ho⟩ := ex_eq (Obj.cells #[] 46 (0, 0))
  have HOE : Hid ((w1.alloc o).ownsRow w1.heap.size 46 2 (.slice (some ⟨w1.heap.size, 0, none⟩) 0 0) 0 []) := own_empty o ho
  subst ho
  have key : Hid (∀ (v' : Value) (w4 : World), w4.ownsRow w1.heap.size 46 2 v' k (cellsE es) → Below w1.heap.size w1 w4 → ∃ a' cap', v' = .slice a' k cap' ∧ Sl a' cap' k ∧ GC (w4.setCell ⟨w.heap.size, 1, none⟩ v') w.heap.size n a' k cap' es ∧ Below w.heap.size w (w4.setCell ⟨w.heap.size, 1, none⟩ v') ∧ w4.frozen? ⟨w.heap.size, 1, none⟩ = false ∧ w4.cell? ⟨w.heap.size, 1, none⟩ = some (.slice a len cap)) := fun v' w4 hown hb => by
    have o4 := (hb.block w.heap.size (by omega)).trans HO1.out
    have d0 := cell_of_heap o4 0
    have d1 := cell_of_heap o4 1
    have hown' := hown
    rw [← HEK.out] at hown
    obtain ⟨a', cap', rfl, hsl, hea⟩ := eat_own hown
    rw [HEK.out] at hsl hown'
    have hge := own_ge hown'
    rw [HEK.out]
    refine ⟨a', cap', rfl, hsl, ⟨(set_one d0 d1 _).1, (set_one d0 d1 _).2, hea.set (fun g off _ h => by have := hge g off h; simp; omega) _⟩, ?_, frozen_of_heap o4 1, d1⟩
    exact (hbw.trans (hb.mono (by omega))).setCell (by simp) _
  go_upto_region 2 with fail
  go_cut [7] from 7 to 16 (fun _ wx => ∃ a' cap', Hid (Sl a' cap' k) ∧ Hid (GC wx w.heap.size n a' k cap' es) ∧ Below w.heap.size w wx)
  case first =>
    cases a with
    | none =>
      obtain rfl := ha rfl
      obtain rfl : len = 0 := by omega
      obtain rfl : k = 0 := by simp at k9; omega
      obtain rfl : es = [] := List.eq_nil_of_length_eq_zero HEK.out
      clear ha kmin kc k0 k5 hc hm k9
      obtain ⟨a', cap', hv, hsl, hgc, hbb, hfr, hso⟩ := key.out _ _ HOE.out ((Below.refl _ w1).alloc (Nat.le_refl _) _)
      obtain ⟨rfl, rfl⟩ : a' = some ⟨w1.heap.size, 0, none⟩ ∧ cap' = 0 := by simp at hv; exact ⟨hv.1.symm, hv.2.symm⟩
      have HSL : Hid (Sl (some ⟨w1.heap.size, 0, none⟩) 0 0) := hsl
      have HGC := hid hgc
      have HBB := hid hbb
      clear hv hsl hgc hso hbb
      go_wp2_with (at_builtin; refine wpList_append_own_none rfl _ _ 22 rfl w1.heap.size 46 i0 2 Try.underlying22 hi _ _ _ rfl HOE.out rfl ?_)
      all_goals go_meet
      all_goals exact ⟨_, _, HSL, HGC.out, HBB.out⟩
    | some ad =>
      clear ha
      obtain ⟨cs, hcs⟩ := ex_eq (cellsE es)
      have HCS : Hid (cs = cellsE es) := hcs
      have hlen : cs.length = k * 2 := by rw [hcs, cellsE_len, HEK.out]
      clear hcs
      go_wp2_with (at_builtin; refine wpList_append_own _ rfl _ _ 22 rfl w1.heap.size 46 i0 _ 2 16 Try.underlying22 hi hz0 hz1 hz2 rfl (by decide) _ _ _ rfl HOE.out ad k cap cs rfl hlen ?c1 ?c2 ?c3 ?c4 ?c5 ?_)
      case c1 => rw [HCS.out]; exact (HE1.out.below ((Below.refl _ w1).alloc (Nat.le_refl _) _)).news
      case c2 => rw [HCS.out]; exact cellsE_one es
      case c3 => unfold maxLen; omega
      case c4 => omega
      case c5 => simp
      intro v' w4 hown4 hgrow _
      have hb4 : Below w1.heap.size w1 w4 := Below.grown ((Below.refl _ w1).alloc (Nat.le_refl _) _) hgrow (by simp) (fun j hj => (HOE.out.lt j hj).1)
      rw [HCS.out] at hown4
      obtain ⟨a', cap', rfl, hsl, hgc, hbb, hfr, hso⟩ := key.out _ _ hown4 hb4
      have HSL : Hid (Sl a' cap' k) := hsl
      have HGC := hid hgc
      have HBB := hid hbb
      clear hsl hgc hbb hown4 hgrow hb4
      go_wp2
      all_goals go_meet
      all_goals exact ⟨_, _, HSL, HGC.out, HBB.out⟩
  case rest =>
    obtain ⟨a', cap', hsl, hgc, hbx⟩ := hcut
    clear HO1 HE1 HOE key hi hz0 hz1 hz2 c1 ha kmin kc k0 k9 hc hm
    obtain ⟨wx, hwx⟩ : ∃ x, x = wc := ⟨_, rfl⟩
    subst hwx
    have HBX := hid hbx
    have HGX := hgc
    have HSLX := hsl
    have HN1 : Hid (es.length ≤ 1000000) := by show _ ≤ _; rw [HEK.out]; omega
    clear hgc hsl hbx k5
    go_upto_region 3 with fail
    go_cut [1] (fun v wy => v = .slice pa K2 pc ∧ wy = wx)
    case first =>
      cases pa with
      | none =>
        obtain rfl := hpa rfl
        obtain rfl : plen = 0 := by omega
        obtain rfl : K2 = 0 := by simp at j9; omega
        clear hpa jmin jc j0 j5 hpc hpm j9
        go_wp2
        all_goals go_meet
        all_goals exact ⟨rfl, rfl⟩
      | some ad =>
        clear hpa
        go_wp2
        all_goals go_meet
        all_goals exact ⟨rfl, rfl⟩
    case rest =>
      obtain ⟨rfl, hwc⟩ := hcut
      rw [hwc]
      clear hwc jmin jc j9 hpc hpm hpa j0
      obtain ⟨b, hb⟩ := boolR_of (RightG n es)
      obtain ⟨r1, hr1⟩ := boolR_of (RightG n es ∧ PathL n es q)
      obtain ⟨r2, hr2⟩ := boolR_of (RightG n es ∧ CycleL n es q)
      obtain ⟨r3, hr3⟩ := boolR_of (RightG n es ∧ WholeL n es q)
      have hq1 : q.length ≤ 1000000 := by rw [← HQK.out]; omega
      have hse : Slw a' cap' es.length := by rw [HEK.out]; exact HSLX.out.w
      have hsq : Slw pa pc q.length := by rw [← HQK.out]; exact HSP.out
      have C1 : Hid (∀ X, GC X w.heap.size n a' k cap' es → IAt X pa q → Calls Try.prog 12 #[.agg #[.int .i64 n, .slice a' k cap'], .slice pa K2 pc] X fun e w' => e = .returned (.bool r1) ∧ Below X.heap.size X w') := fun X hX hY => by
        rw [← HEK.out, HQK.out]; exact HO.out.path n a' cap' es pa pc q b r1 X HN1.out hq1 hse hsq hX.at_ hY hb hr1
      have C2 : Hid (∀ X, GC X w.heap.size n a' k cap' es → IAt X pa q → Calls Try.prog 13 #[.agg #[.int .i64 n, .slice a' k cap'], .slice pa K2 pc] X fun e w' => e = .returned (.bool r1) ∧ Below X.heap.size X w') := fun X hX hY => by
        rw [← HEK.out, HQK.out]; exact rpath_any n a' cap' es pa pc q b r1 X HN1.out hq1 hX.at_ hY hb hr1
      have C3 : Hid (∀ X, GC X w.heap.size n a' k cap' es → IAt X pa q → Calls Try.prog 14 #[.agg #[.int .i64 n, .slice a' k cap'], .slice pa K2 pc] X fun e w' => e = .returned (.bool r2) ∧ Below X.heap.size X w') := fun X hX hY => by
        rw [← HEK.out, HQK.out]; exact HO.out.cycle n a' cap' es pa pc q b r2 X HN1.out hq1 hse hsq hX.at_ hY hb hr2
      have C4 : Hid (∀ X, GC X w.heap.size n a' k cap' es → IAt X pa q → Calls Try.prog 15 #[.agg #[.int .i64 n, .slice a' k cap'], .slice pa K2 pc] X fun e w' => e = .returned (.bool r2) ∧ Below X.heap.size X w') := fun X hX hY => by
        rw [← HEK.out, HQK.out]; exact rcycle_any n a' cap' es pa pc q b r2 X HN1.out hq1 hX.at_ hY hb hr2
      have C5 : Hid (∀ X, GC X w.heap.size n a' k cap' es → IAt X pa q → Calls Try.prog 16 #[.agg #[.int .i64 n, .slice a' k cap'], .slice pa K2 pc] X fun e w' => e = .returned (.bool r3) ∧ Below X.heap.size X w') := fun X hX hY => by
        rw [← HEK.out, HQK.out]; exact HO.out.whole n a' cap' es pa pc q b r3 X HN1.out hq1 hse hsq hX.at_ hY hb hr3
      have C6 : Hid (∀ X, GC X w.heap.size n a' k cap' es → IAt X pa q → Calls Try.prog 17 #[.agg #[.int .i64 n, .slice a' k cap'], .slice pa K2 pc] X fun e w' => e = .returned (.bool r3) ∧ Below X.heap.size X w') := fun X hX hY => by
        rw [← HEK.out, HQK.out]; exact rwhole_any n a' cap' es pa pc q b r3 X HN1.out hq1 hX.at_ hY hb hr3
      have HG0 := hid (HGX.out.on (Below.refl _ _).drew)
      have HI0 := hid ((HPB0.out wx HBX.out).below (Below.refl _ _).drew)
      have HB0 : Hid (Below w.heap.size w wx.drew) := HBX.out.drew
      clear hb hr1 hr2 hr3 hq1 hse hsq HGX HPB0 HBX HN1 HSLX HSP
      go_wp2_with fail
      refine wp_region_held_drew (S := (fun X => X.cell? ⟨w.heap.size, 0, none⟩ = some (.int .i64 n) ∧ X.cell? ⟨w.heap.size, 1, none⟩ = some (.slice a' k cap'))) (by kernel_rfl) HG0.out.cells (fun hHeld => ?_)
      (refine takeW (i := 0) (dst := some 22) (v := ?_) rfl rfl (by kernel_rfl) (by kernel_rfl) (by kernel_rfl) (fun _ _ _ h => h) (Or.inl ⟨by rfl, ?_⟩) hHeld ?_; rotate_left; focus (intro w hSw; (try dsimp only at hSw); go_simp; (try with_reducible rfl); done))
      try simp only [Act.put, List.setIfInBounds_toArray, List.set_cons_zero, List.set_cons_succ]
      (refine takeW (i := 1) (dst := some 23) (v := ?_) rfl rfl (by kernel_rfl) (by kernel_rfl) (by kernel_rfl) (fun _ _ _ h => h) (Or.inl ⟨by rfl, ?_⟩) hHeld ?_; rotate_left; focus (intro w hSw; (try dsimp only at hSw); go_simp; (try with_reducible rfl); done))
      try simp only [Act.put, List.setIfInBounds_toArray, List.set_cons_zero, List.set_cons_succ]
      first | refine takeW (i := 2) (dst := some 24) (v := undef) rfl rfl (by kernel_rfl) (by kernel_rfl) (by kernel_rfl) (fun _ _ _ h => h) (Or.inr ⟨by rfl, rfl⟩) hHeld ?_ | (refine takeW (i := 2) (dst := some 24) (v := ?_) rfl rfl (by kernel_rfl) (by kernel_rfl) (by kernel_rfl) (fun _ _ _ h => h) (Or.inl ⟨by rfl, ?_⟩) hHeld ?_; rotate_left; focus (intro w hSw; (try dsimp only at hSw); go_simp; (try with_reducible rfl); done))
      try simp only [Act.put, List.setIfInBounds_toArray, List.set_cons_zero, List.set_cons_succ]
      first | refine takeW (i := 3) (dst := some 25) (v := undef) rfl rfl (by kernel_rfl) (by kernel_rfl) (by kernel_rfl) (fun _ _ _ h => h) (Or.inr ⟨by rfl, rfl⟩) hHeld ?_ | (refine takeW (i := 3) (dst := some 25) (v := ?_) rfl rfl (by kernel_rfl) (by kernel_rfl) (by kernel_rfl) (fun _ _ _ h => h) (Or.inl ⟨by rfl, ?_⟩) hHeld ?_; rotate_left; focus (intro w hSw; (try dsimp only at hSw); go_simp; (try with_reducible rfl); done))
      try simp only [Act.put, List.setIfInBounds_toArray, List.set_cons_zero, List.set_cons_succ]
      first | refine takeW (i := 5) (dst := some 27) (v := undef) rfl rfl (by kernel_rfl) (by kernel_rfl) (by kernel_rfl) (fun _ _ _ h => h) (Or.inr ⟨by rfl, rfl⟩) hHeld ?_ | (refine takeW (i := 5) (dst := some 27) (v := ?_) rfl rfl (by kernel_rfl) (by kernel_rfl) (by kernel_rfl) (fun _ _ _ h => h) (Or.inl ⟨by rfl, ?_⟩) hHeld ?_; rotate_left; focus (intro w hSw; (try dsimp only at hSw); go_simp; (try with_reducible rfl); done))
      try simp only [Act.put, List.setIfInBounds_toArray, List.set_cons_zero, List.set_cons_succ]
      first | refine takeW (i := 6) (dst := some 28) (v := undef) rfl rfl (by kernel_rfl) (by kernel_rfl) (by kernel_rfl) (fun _ _ _ h => h) (Or.inr ⟨by rfl, rfl⟩) hHeld ?_ | (refine takeW (i := 6) (dst := some 28) (v := ?_) rfl rfl (by kernel_rfl) (by kernel_rfl) (by kernel_rfl) (fun _ _ _ h => h) (Or.inl ⟨by rfl, ?_⟩) hHeld ?_; rotate_left; focus (intro w hSw; (try dsimp only at hSw); go_simp; (try with_reducible rfl); done))
      try simp only [Act.put, List.setIfInBounds_toArray, List.set_cons_zero, List.set_cons_succ]
      refine wpAnyH_ready (rs := [4]) (by kernel_rfl) (by simp) ?_
      refine AllReadyH.cons (o := _) rfl (fun KK hK => ?_) AllReadyH.nil
      go_simp
      refine (C1.out _ HG0.out HI0.out).mono ?_
      rintro e y1 ⟨rfl, hb⟩
      have HG1 := hid (HG0.out.on hb)
      have HI1 := hid (HI0.out.below hb)
      have HB1 : Hid (Below w.heap.size w y1) := HB0.out.trans (hb.mono HB0.out.size)
      clear hb HG0 HI0 HB0
      refine hK.out _ _ HG1.out.cells (fun hHeld => ?_)
      clear hK KK
      try simp only [Act.put, List.setIfInBounds_toArray, List.set_cons_zero, List.set_cons_succ]
      refine wpAnyH_ready (rs := [7]) (by kernel_rfl) (by simp) ?_
      refine AllReadyH.cons (o := _) rfl (fun KK hK => ?_) AllReadyH.nil
      go_simp
      refine (C2.out _ HG1.out HI1.out).mono ?_
      rintro e y2 ⟨rfl, hb⟩
      have HG2 := hid (HG1.out.on hb)
      have HI2 := hid (HI1.out.below hb)
      have HB2 : Hid (Below w.heap.size w y2) := HB1.out.trans (hb.mono HB1.out.size)
      clear hb HG1 HI1 HB1
      refine hK.out _ _ HG2.out.cells (fun hHeld => ?_)
      clear hK KK
      try simp only [Act.put, List.setIfInBounds_toArray, List.set_cons_zero, List.set_cons_succ]
      first | refine takeW (i := 8) (dst := some 30) (v := undef) rfl rfl (by kernel_rfl) (by kernel_rfl) (by kernel_rfl) (fun _ _ _ h => h) (Or.inr ⟨by rfl, rfl⟩) hHeld ?_ | (refine takeW (i := 8) (dst := some 30) (v := ?_) rfl rfl (by kernel_rfl) (by kernel_rfl) (by kernel_rfl) (fun _ _ _ h => h) (Or.inl ⟨by rfl, ?_⟩) hHeld ?_; rotate_left; focus (intro w hSw; (try dsimp only at hSw); go_simp; (try with_reducible rfl); done))
      try simp only [Act.put, List.setIfInBounds_toArray, List.set_cons_zero, List.set_cons_succ]
      (refine takeW (i := 9) (dst := some 31) (v := ?_) rfl rfl (by kernel_rfl) (by kernel_rfl) (by kernel_rfl) (fun _ _ _ h => h) (Or.inl ⟨by rfl, ?_⟩) hHeld ?_; rotate_left; focus (intro w hSw; (try dsimp only at hSw); go_simp; (try with_reducible rfl); done))
      try simp only [Act.put, List.setIfInBounds_toArray, List.set_cons_zero, List.set_cons_succ]
      (refine takeW (i := 10) (dst := some 32) (v := ?_) rfl rfl (by kernel_rfl) (by kernel_rfl) (by kernel_rfl) (fun _ _ _ h => h) (Or.inl ⟨by rfl, ?_⟩) hHeld ?_; rotate_left; focus (intro w hSw; (try dsimp only at hSw); go_simp; (try with_reducible rfl); done))
      try simp only [Act.put, List.setIfInBounds_toArray, List.set_cons_zero, List.set_cons_succ]
      first | refine takeW (i := 11) (dst := some 33) (v := undef) rfl rfl (by kernel_rfl) (by kernel_rfl) (by kernel_rfl) (fun _ _ _ h => h) (Or.inr ⟨by rfl, rfl⟩) hHeld ?_ | (refine takeW (i := 11) (dst := some 33) (v := ?_) rfl rfl (by kernel_rfl) (by kernel_rfl) (by kernel_rfl) (fun _ _ _ h => h) (Or.inl ⟨by rfl, ?_⟩) hHeld ?_; rotate_left; focus (intro w hSw; (try dsimp only at hSw); go_simp; (try with_reducible rfl); done))
      try simp only [Act.put, List.setIfInBounds_toArray, List.set_cons_zero, List.set_cons_succ]
      first | refine takeW (i := 12) (dst := some 34) (v := undef) rfl rfl (by kernel_rfl) (by kernel_rfl) (by kernel_rfl) (fun _ _ _ h => h) (Or.inr ⟨by rfl, rfl⟩) hHeld ?_ | (refine takeW (i := 12) (dst := some 34) (v := ?_) rfl rfl (by kernel_rfl) (by kernel_rfl) (by kernel_rfl) (fun _ _ _ h => h) (Or.inl ⟨by rfl, ?_⟩) hHeld ?_; rotate_left; focus (intro w hSw; (try dsimp only at hSw); go_simp; (try with_reducible rfl); done))
      try simp only [Act.put, List.setIfInBounds_toArray, List.set_cons_zero, List.set_cons_succ]
      first | refine takeW (i := 14) (dst := some 36) (v := undef) rfl rfl (by kernel_rfl) (by kernel_rfl) (by kernel_rfl) (fun _ _ _ h => h) (Or.inr ⟨by rfl, rfl⟩) hHeld ?_ | (refine takeW (i := 14) (dst := some 36) (v := ?_) rfl rfl (by kernel_rfl) (by kernel_rfl) (by kernel_rfl) (fun _ _ _ h => h) (Or.inl ⟨by rfl, ?_⟩) hHeld ?_; rotate_left; focus (intro w hSw; (try dsimp only at hSw); go_simp; (try with_reducible rfl); done))
      try simp only [Act.put, List.setIfInBounds_toArray, List.set_cons_zero, List.set_cons_succ]
      first | refine takeW (i := 15) (dst := some 37) (v := undef) rfl rfl (by kernel_rfl) (by kernel_rfl) (by kernel_rfl) (fun _ _ _ h => h) (Or.inr ⟨by rfl, rfl⟩) hHeld ?_ | (refine takeW (i := 15) (dst := some 37) (v := ?_) rfl rfl (by kernel_rfl) (by kernel_rfl) (by kernel_rfl) (fun _ _ _ h => h) (Or.inl ⟨by rfl, ?_⟩) hHeld ?_; rotate_left; focus (intro w hSw; (try dsimp only at hSw); go_simp; (try with_reducible rfl); done))
      try simp only [Act.put, List.setIfInBounds_toArray, List.set_cons_zero, List.set_cons_succ]
      refine wpAnyH_ready (rs := [13]) (by kernel_rfl) (by simp) ?_
      refine AllReadyH.cons (o := _) rfl (fun KK hK => ?_) AllReadyH.nil
      go_simp
      refine (C3.out _ HG2.out HI2.out).mono ?_
      rintro e y3 ⟨rfl, hb⟩
      have HG3 := hid (HG2.out.on hb)
      have HI3 := hid (HI2.out.below hb)
      have HB3 : Hid (Below w.heap.size w y3) := HB2.out.trans (hb.mono HB2.out.size)
      clear hb HG2 HI2 HB2
      refine hK.out _ _ HG3.out.cells (fun hHeld => ?_)
      clear hK KK
      try simp only [Act.put, List.setIfInBounds_toArray, List.set_cons_zero, List.set_cons_succ]
      refine wpAnyH_ready (rs := [16]) (by kernel_rfl) (by simp) ?_
      refine AllReadyH.cons (o := _) rfl (fun KK hK => ?_) AllReadyH.nil
      go_simp
      refine (C4.out _ HG3.out HI3.out).mono ?_
      rintro e y4 ⟨rfl, hb⟩
      have HG4 := hid (HG3.out.on hb)
      have HI4 := hid (HI3.out.below hb)
      have HB4 : Hid (Below w.heap.size w y4) := HB3.out.trans (hb.mono HB3.out.size)
      clear hb HG3 HI3 HB3
      refine hK.out _ _ HG4.out.cells (fun hHeld => ?_)
      clear hK KK
      try simp only [Act.put, List.setIfInBounds_toArray, List.set_cons_zero, List.set_cons_succ]
      first | refine takeW (i := 17) (dst := some 39) (v := undef) rfl rfl (by kernel_rfl) (by kernel_rfl) (by kernel_rfl) (fun _ _ _ h => h) (Or.inr ⟨by rfl, rfl⟩) hHeld ?_ | (refine takeW (i := 17) (dst := some 39) (v := ?_) rfl rfl (by kernel_rfl) (by kernel_rfl) (by kernel_rfl) (fun _ _ _ h => h) (Or.inl ⟨by rfl, ?_⟩) hHeld ?_; rotate_left; focus (intro w hSw; (try dsimp only at hSw); go_simp; (try with_reducible rfl); done))
      try simp only [Act.put, List.setIfInBounds_toArray, List.set_cons_zero, List.set_cons_succ]
      (refine takeW (i := 18) (dst := some 40) (v := ?_) rfl rfl (by kernel_rfl) (by kernel_rfl) (by kernel_rfl) (fun _ _ _ h => h) (Or.inl ⟨by rfl, ?_⟩) hHeld ?_; rotate_left; focus (intro w hSw; (try dsimp only at hSw); go_simp; (try with_reducible rfl); done))
      try simp only [Act.put, List.setIfInBounds_toArray, List.set_cons_zero, List.set_cons_succ]
      (refine takeW (i := 19) (dst := some 41) (v := ?_) rfl rfl (by kernel_rfl) (by kernel_rfl) (by kernel_rfl) (fun _ _ _ h => h) (Or.inl ⟨by rfl, ?_⟩) hHeld ?_; rotate_left; focus (intro w hSw; (try dsimp only at hSw); go_simp; (try with_reducible rfl); done))
      try simp only [Act.put, List.setIfInBounds_toArray, List.set_cons_zero, List.set_cons_succ]
      first | refine takeW (i := 20) (dst := some 42) (v := undef) rfl rfl (by kernel_rfl) (by kernel_rfl) (by kernel_rfl) (fun _ _ _ h => h) (Or.inr ⟨by rfl, rfl⟩) hHeld ?_ | (refine takeW (i := 20) (dst := some 42) (v := ?_) rfl rfl (by kernel_rfl) (by kernel_rfl) (by kernel_rfl) (fun _ _ _ h => h) (Or.inl ⟨by rfl, ?_⟩) hHeld ?_; rotate_left; focus (intro w hSw; (try dsimp only at hSw); go_simp; (try with_reducible rfl); done))
      try simp only [Act.put, List.setIfInBounds_toArray, List.set_cons_zero, List.set_cons_succ]
      first | refine takeW (i := 21) (dst := some 43) (v := undef) rfl rfl (by kernel_rfl) (by kernel_rfl) (by kernel_rfl) (fun _ _ _ h => h) (Or.inr ⟨by rfl, rfl⟩) hHeld ?_ | (refine takeW (i := 21) (dst := some 43) (v := ?_) rfl rfl (by kernel_rfl) (by kernel_rfl) (by kernel_rfl) (fun _ _ _ h => h) (Or.inl ⟨by rfl, ?_⟩) hHeld ?_; rotate_left; focus (intro w hSw; (try dsimp only at hSw); go_simp; (try with_reducible rfl); done))
      try simp only [Act.put, List.setIfInBounds_toArray, List.set_cons_zero, List.set_cons_succ]
      first | refine takeW (i := 23) (dst := some 45) (v := undef) rfl rfl (by kernel_rfl) (by kernel_rfl) (by kernel_rfl) (fun _ _ _ h => h) (Or.inr ⟨by rfl, rfl⟩) hHeld ?_ | (refine takeW (i := 23) (dst := some 45) (v := ?_) rfl rfl (by kernel_rfl) (by kernel_rfl) (by kernel_rfl) (fun _ _ _ h => h) (Or.inl ⟨by rfl, ?_⟩) hHeld ?_; rotate_left; focus (intro w hSw; (try dsimp only at hSw); go_simp; (try with_reducible rfl); done))
      try simp only [Act.put, List.setIfInBounds_toArray, List.set_cons_zero, List.set_cons_succ]
      first | refine takeW (i := 24) (dst := some 46) (v := undef) rfl rfl (by kernel_rfl) (by kernel_rfl) (by kernel_rfl) (fun _ _ _ h => h) (Or.inr ⟨by rfl, rfl⟩) hHeld ?_ | (refine takeW (i := 24) (dst := some 46) (v := ?_) rfl rfl (by kernel_rfl) (by kernel_rfl) (by kernel_rfl) (fun _ _ _ h => h) (Or.inl ⟨by rfl, ?_⟩) hHeld ?_; rotate_left; focus (intro w hSw; (try dsimp only at hSw); go_simp; (try with_reducible rfl); done))
      try simp only [Act.put, List.setIfInBounds_toArray, List.set_cons_zero, List.set_cons_succ]
      refine wpAnyH_ready (rs := [22]) (by kernel_rfl) (by simp) ?_
      refine AllReadyH.cons (o := _) rfl (fun KK hK => ?_) AllReadyH.nil
      go_simp
      refine (C5.out _ HG4.out HI4.out).mono ?_
      rintro e y5 ⟨rfl, hb⟩
      have HG5 := hid (HG4.out.on hb)
      have HI5 := hid (HI4.out.below hb)
      have HB5 : Hid (Below w.heap.size w y5) := HB4.out.trans (hb.mono HB4.out.size)
      clear hb HG4 HI4 HB4
      refine hK.out _ _ HG5.out.cells (fun hHeld => ?_)
      clear hK KK
      try simp only [Act.put, List.setIfInBounds_toArray, List.set_cons_zero, List.set_cons_succ]
      refine wpAnyH_ready (rs := [25]) (by kernel_rfl) (by simp) ?_
      refine AllReadyH.cons (o := _) rfl (fun KK hK => ?_) AllReadyH.nil
      go_simp
      refine (C6.out _ HG5.out HI5.out).mono ?_
      rintro e y6 ⟨rfl, hb⟩
      have HG6 := hid (HG5.out.on hb)
      have HI6 := hid (HI5.out.below hb)
      have HB6 : Hid (Below w.heap.size w y6) := HB5.out.trans (hb.mono HB5.out.size)
      clear hb HG5 HI5 HB5
      refine hK.out _ _ HG6.out.cells (fun hHeld => ?_)
      clear hK KK
      try simp only [Act.put, List.setIfInBounds_toArray, List.set_cons_zero, List.set_cons_succ]
      first | refine takeW (i := 26) (dst := some 48) (v := undef) rfl rfl (by kernel_rfl) (by kernel_rfl) (by kernel_rfl) (fun _ _ _ h => h) (Or.inr ⟨by rfl, rfl⟩) hHeld ?_ | (refine takeW (i := 26) (dst := some 48) (v := ?_) rfl rfl (by kernel_rfl) (by kernel_rfl) (by kernel_rfl) (fun _ _ _ h => h) (Or.inl ⟨by rfl, ?_⟩) hHeld ?_; rotate_left; focus (intro w hSw; (try dsimp only at hSw); go_simp; (try with_reducible rfl); done))
      try simp only [Act.put, List.setIfInBounds_toArray, List.set_cons_zero, List.set_cons_succ]
      (refine takeW (i := 27) (dst := some 49) (v := ?_) rfl rfl (by kernel_rfl) (by kernel_rfl) (by kernel_rfl) (fun _ _ _ h => h) (Or.inl ⟨by rfl, ?_⟩) hHeld ?_; rotate_left; focus (intro w hSw; (try dsimp only at hSw); go_simp; (try with_reducible rfl); done))
      try simp only [Act.put, List.setIfInBounds_toArray, List.set_cons_zero, List.set_cons_succ]
      (refine takeW (i := 28) (dst := some 4) (v := ?_) rfl rfl (by kernel_rfl) (by kernel_rfl) (by kernel_rfl) (fun _ _ _ h => h) (Or.inl ⟨by rfl, ?_⟩) hHeld ?_; rotate_left; focus (intro w hSw; (try dsimp only at hSw); go_simp; (try with_reducible rfl); done))
      try simp only [Act.put, List.setIfInBounds_toArray, List.set_cons_zero, List.set_cons_succ]
      refine wpAnyH_done (by kernel_rfl) ?_ _
      clear hHeld
      go_wp2
      go_ret
      exact ⟨rfl, HB6.out⟩
end Go.Proofs.Ytccbheijfnodjaa
