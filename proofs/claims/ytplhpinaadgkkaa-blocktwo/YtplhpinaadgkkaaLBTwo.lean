/-
  The law BlockTwo over any blocks that keep their contracts.
-/
import Derived.Test.YtplhpinaadgkkaaB26
import Derived.Test.YtplhpinaadgkkaaB29
import Derived.Test.YtplhpinaadgkkaaB06
import Derived.Test.YtplhpinaadgkkaaB02
import Derived.Test.YtplhpinaadgkkaaB03
namespace Go.Proofs.Ytplhpinaadgkkaa
open Go.RowKit Go.Lib

theorem iat_takeB {w : World} {a : Option Addr} {xs : List Int} (h : IAt w a xs) (k : Nat) : IAt w a (xs.take k) := fun h0 => by
  rw [List.length_take] at h0
  obtain ⟨g, off, ha, hg, hc⟩ := h (by omega)
  refine ⟨g, off, ha, hg, fun j hj => ?_⟩
  rw [List.length_take] at hj
  rw [List.getElem_take]
  exact hc j (by omega)
set_option maxHeartbeats 4000000 in
set_option maxRecDepth 100000 in
theorem blockTwo_law (O : BlockOps) (n : Int) (a : Option Addr) (len cap : Nat) (l : List (Int × Int)) (pa : Option Addr) (plen pc : Nat) (p : List Int) (w : World) (hl : len = l.length) (hc : len ≤ cap) (hm : cap ≤ maxLen) (ha : a = none → cap = 0) (hE : EAt w a l)
    (hpl : plen = p.length) (hpc : plen ≤ pc) (hpm : pc ≤ maxLen) (hpa : pa = none → pc = 0) (hp : IAt w pa p) :
    Calls Try.prog 4 #[.agg #[.int .i64 n, .slice a len cap], .slice pa plen pc] w fun e w' => e = .returned (.bool true) ∧ Below w.heap.size w w' := by
  have HO := hid O
  clear O
  obtain ⟨K2, hK2⟩ := ex_eq (min plen 20)
  obtain ⟨q, hq⟩ := ex_eq (p.take K2)
  have hqk : q.length = K2 := by rw [hq, List.length_take]; omega
  have HQK : Hid (K2 = q.length) := hqk.symm
  have j5 : K2 ≤ 20 := by omega
  have jmin : min (plen : Int) 20 = (K2 : Int) := by omega
  have jc : (K2 : Int) ≤ (pc : Int) := by omega
  have j0 : (0 : Int) ≤ (K2 : Int) := by omega
  have j9 : (K2 : Int) ≤ (plen : Int) := by omega
  have HSP : Hid (Slw pa pc K2) := ⟨by omega, hpa⟩
  clear hqk
  obtain ⟨i0, hi, hz0, hz1, hz2⟩ := info_parts Try.info42
  obtain ⟨k, hk⟩ := ex_eq (min len 300)
  obtain ⟨es, hes⟩ := ex_eq (l.take k)
  have hek : es.length = k := by rw [hes, List.length_take]; omega
  have HEK : Hid (es.length = k) := hek
  have k5 : k ≤ 300 := by omega
  have kmin : min (len : Int) 300 = (k : Int) := by omega
  have kc : (k : Int) ≤ (cap : Int) := by omega
  have k0 : (0 : Int) ≤ (k : Int) := by omega
  have HE : Hid (EAt w a es) := by
    show EAt w a es
    rw [hes]; exact eat_take hE k
  have hbA : Below w.heap.size w (w.alloc (.cells #[.int .i64 n, .slice a len cap] 26)) := (Below.refl _ _).alloc (Nat.le_refl _) _
  have hsA : (w.alloc (.cells #[.int .i64 n, .slice a len cap] 26)).heap.size = w.heap.size + 1 := by simp
  have HOA : Hid ((w.alloc (.cells #[.int .i64 n, .slice a len cap] 26)).heap[w.heap.size]? = some (.cells #[.int .i64 n, .slice a len cap] 26)) := heap_alloc_new _ _
  have k9 : (k : Int) ≤ (len : Int) := by omega
  have HPB0 : Hid (∀ X, Below w.heap.size w X → IAt X pa q) := fun X h => by rw [hq]; exact iat_takeB (hp.below h) K2
  clear hes hE hl hk hq hp hpl hK2
  go_enter Try.func4, Try.ntmps4
  go_wp2_with fail
  refine (bshown_any HO.out _).mono ?_
  rintro e w1 ⟨rfl, hb1⟩
  rw [hsA] at hb1
  have hbw : Below w.heap.size w w1 := hbA.trans (hb1.mono (by omega))
  have o1 := (hb1.block w.heap.size (by omega)).trans HOA.out
  have hs1 := hb1.size
  rw [hsA] at hs1
  have c1 : (w1.alloc (Obj.cells #[] 42 (0, 0))).cell? ⟨w.heap.size, 1, none⟩ = some (.slice a len cap) := cell_alloc_old (cell_of_heap o1 1) _
  have HO1 : Hid (w1.heap[w.heap.size]? = some (.cells #[.int .i64 n, .slice a len cap] 26)) := o1
  have HE1 : Hid (EAt w1 a es) := HE.out.below hbw
  clear hb1 hbA hsA HOA o1 HE hek
  obtain ⟨o, ho⟩ := ex_eq (Obj.cells #[] 42 (0, 0))
  have HOE : Hid ((w1.alloc o).ownsRow w1.heap.size 42 2 (.slice (some ⟨w1.heap.size, 0, none⟩) 0 0) 0 []) := own_empty o ho
  subst ho
  have key : Hid (∀ (v' : Value) (w4 : World), w4.ownsRow w1.heap.size 42 2 v' k (cellsE es) → Below w1.heap.size w1 w4 → ∃ a' cap', v' = .slice a' k cap' ∧ Sl a' cap' k ∧ GC (w4.setCell ⟨w.heap.size, 1, none⟩ v') w.heap.size n a' k cap' es ∧ Below w.heap.size w (w4.setCell ⟨w.heap.size, 1, none⟩ v') ∧ w4.frozen? ⟨w.heap.size, 1, none⟩ = false ∧ w4.cell? ⟨w.heap.size, 1, none⟩ = some (.slice a len cap)) := fun v' w4 hown hb => by
    have o4 := (hb.block w.heap.size (by omega)).trans HO1.out
    have d0 := cell_of_heap o4 0
    have d1 := cell_of_heap o4 1
    have hown' := hown
    rw [← HEK.out] at hown
    obtain ⟨a', cap', rfl, hsl, hea⟩ := eat_own hown
    rw [HEK.out] at hsl hown'
    have hge := own_ge hown'
    rw [HEK.out]
    refine ⟨a', cap', rfl, hsl, ⟨(set_one d0 d1 _).1, (set_one d0 d1 _).2, hea.set (fun g off _ h => by have := hge g off h; simp; omega) _⟩, ?_, frozen_of_heap o4 1, d1⟩
    exact (hbw.trans (hb.mono (by omega))).setCell (by simp) _
  go_upto_region 2 with fail
  go_cut [8] from 8 to 17 (fun _ wx => ∃ a' cap', Hid (Sl a' cap' k) ∧ Hid (GC wx w.heap.size n a' k cap' es) ∧ Below w.heap.size w wx)
  case first =>
    cases a with
    | none =>
      obtain rfl := ha rfl
      obtain rfl : len = 0 := by omega
      obtain rfl : k = 0 := by simp at k9; omega
      obtain rfl : es = [] := List.eq_nil_of_length_eq_zero HEK.out
      clear ha kmin kc k0 k5 hc hm k9
      obtain ⟨a', cap', hv, hsl, hgc, hbb, hfr, hso⟩ := key.out _ _ HOE.out ((Below.refl _ w1).alloc (Nat.le_refl _) _)
      obtain ⟨rfl, rfl⟩ : a' = some ⟨w1.heap.size, 0, none⟩ ∧ cap' = 0 := by simp at hv; exact ⟨hv.1.symm, hv.2.symm⟩
      have HSL : Hid (Sl (some ⟨w1.heap.size, 0, none⟩) 0 0) := hsl
      have HGC := hid hgc
      have HBB := hid hbb
      clear hv hsl hgc hso hbb
      go_wp2_with (at_builtin; refine wpList_append_own_none rfl _ _ 22 rfl w1.heap.size 42 i0 2 Try.underlying22 hi _ _ _ rfl HOE.out rfl ?_)
      all_goals go_meet
      all_goals exact ⟨_, _, HSL, HGC.out, HBB.out⟩
    | some ad =>
      clear ha
      obtain ⟨cs, hcs⟩ := ex_eq (cellsE es)
      have HCS : Hid (cs = cellsE es) := hcs
      have hlen : cs.length = k * 2 := by rw [hcs, cellsE_len, HEK.out]
      clear hcs
      go_wp2_with (at_builtin; refine wpList_append_own _ rfl _ _ 22 rfl w1.heap.size 42 i0 _ 2 16 Try.underlying22 hi hz0 hz1 hz2 rfl (by decide) _ _ _ rfl HOE.out ad k cap cs rfl hlen ?c1 ?c2 ?c3 ?c4 ?c5 ?_)
      case c1 => rw [HCS.out]; exact (HE1.out.below ((Below.refl _ w1).alloc (Nat.le_refl _) _)).news
      case c2 => rw [HCS.out]; exact cellsE_one es
      case c3 => unfold maxLen; omega
      case c4 => omega
      case c5 => simp
      intro v' w4 hown4 hgrow _
      have hb4 : Below w1.heap.size w1 w4 := Below.grown ((Below.refl _ w1).alloc (Nat.le_refl _) _) hgrow (by simp) (fun j hj => (HOE.out.lt j hj).1)
      rw [HCS.out] at hown4
      obtain ⟨a', cap', rfl, hsl, hgc, hbb, hfr, hso⟩ := key.out _ _ hown4 hb4
      have HSL : Hid (Sl a' cap' k) := hsl
      have HGC := hid hgc
      have HBB := hid hbb
      clear hsl hgc hbb hown4 hgrow hb4
      go_wp2
      all_goals go_meet
      all_goals exact ⟨_, _, HSL, HGC.out, HBB.out⟩
  case rest =>
    obtain ⟨a', cap', hsl, hgc, hbx⟩ := hcut
    clear HO1 HE1 HOE key hi hz0 hz1 hz2 c1 ha kmin kc k0 k9 hc hm
    obtain ⟨wx, hwx⟩ : ∃ x, x = wc := ⟨_, rfl⟩
    subst hwx
    have HBX := hid hbx
    have HGX := hgc
    have HSLX := hsl
    have HN1 : Hid (es.length ≤ 1000000) := by show _ ≤ _; rw [HEK.out]; omega
    clear hgc hsl hbx k5
    go_upto_region 3 with fail
    go_cut [1] (fun v wy => v = .slice pa K2 pc ∧ wy = wx)
    case first =>
      cases pa with
      | none =>
        obtain rfl := hpa rfl
        obtain rfl : plen = 0 := by omega
        obtain rfl : K2 = 0 := by simp at j9; omega
        clear hpa jmin jc j0 j5 hpc hpm j9
        go_wp2
        all_goals go_meet
        all_goals exact ⟨rfl, rfl⟩
      | some ad =>
        clear hpa
        go_wp2
        all_goals go_meet
        all_goals exact ⟨rfl, rfl⟩
    case rest =>
      obtain ⟨rfl, hwc⟩ := hcut
      rw [hwc]
      clear hwc jmin jc j9 hpc hpm hpa j0
      obtain ⟨b, hb⟩ := boolR_of (RightG n es)
      obtain ⟨r, hr⟩ := boolR_of (RightG n es ∧ TwoL n es q)
      obtain ⟨g0, g1⟩ := HGX.out.cells
      have C4 := hid (HO.out.of n a' cap' es b wx HN1.out HGX.out.at_ hb)
      rw [HEK.out] at C4
      have CT : Hid (∀ X, GC X w.heap.size n a' k cap' es → IAt X pa q → Calls Try.prog 15 #[.agg #[.int .i64 n, .slice a' k cap'], .slice pa K2 pc] X fun e w' => e = .returned (.bool r) ∧ Below X.heap.size X w') := fun X h1 h2 => by
        rw [← HEK.out, HQK.out]; exact HO.out.two n a' cap' es pa pc q b r X HN1.out (by rw [← HQK.out]; omega) h1.at_ h2 hb hr
      have CU : Hid (∀ X, GC X w.heap.size n a' k cap' es → IAt X pa q → Calls Try.prog 16 #[.agg #[.int .i64 n, .slice a' k cap'], .slice pa K2 pc] X fun e w' => e = .returned (.bool r) ∧ Below X.heap.size X w') := fun X h1 h2 => by
        rw [← HEK.out, HQK.out]; exact rtwo_any n a' cap' es pa pc q b r X HN1.out (by rw [← HQK.out]; omega) (by rw [← HQK.out]; exact HSP.out.1) h1.at_ h2 hb hr
      have CR : Hid (∀ X, GC X w.heap.size n a' k cap' es → Calls Try.prog 17 #[.agg #[.int .i64 n, .slice a' k cap']] X fun e w' => e = .returned (.bool b) ∧ Below X.heap.size X w') := fun X h1 => by
        rw [← HEK.out]; exact rright_any n a' cap' es b X HN1.out h1.at_ hb
      have HBb := hid hb
      clear hr hb
      go_wp2_with fail
      refine C4.out.mono ?_
      rintro e w4 ⟨v4, rfl, Cs, Bs, ca, cc, ba, bc, rfl, hrel, hca, hba, hb4⟩
      obtain ⟨Q, hQ⟩ := ex_eq Cs.length
      obtain ⟨P, hP⟩ := ex_eq Bs.length
      rw [← hQ, ← hP]
      have HQP : Hid (b = false → Q = 0 ∧ P = 0) := fun hf => by
        rcases hrel with ⟨h1, _⟩ | ⟨_, h2, h3⟩
        · have := HBb.out.2 h1; rw [hf] at this; cases this
        · rw [hQ, hP, h2, h3]; exact ⟨rfl, rfl⟩
      obtain ⟨T, hT⟩ := ex_eq w4.heap.size
      obtain ⟨V, hV⟩ := ex_eq (w4.alloc (.cells #[.slice ca Q cc, .slice ba P bc] 31))
      have HT : Hid (TC V T ca Q cc ba P bc Cs Bs) := by
        show TC _ _ _ _ _ _ _ _ _ _
        rw [hV, hT]; exact tc_new hca hba
      have hbV : Below wx.heap.size wx V := by
        have h1 : Below w4.heap.size w4 V := by rw [hV]; exact below_one _ _
        exact hb4.trans (h1.mono hb4.size)
      have HG5 := hid (HGX.out.on hbV)
      have HB5 : Hid (Below w.heap.size w V) := HBX.out.trans (hbV.mono HBX.out.size)
      have HV := hid hV
      have HTT := hid hT
      clear hQ hP hT hV hca hba hb4 hrel C4 hbV g0 g1
      go_upto_region 5 with fail
      rw [← HV.out, ← HTT.out]
      clear HV HTT
      obtain ⟨g0, g1⟩ := HG5.out.cells
      have t0 := HT.out.c0
      have t1 := HT.out.c1
      have HSS : Hid (∀ X, Below V.drew.heap.size V.drew X → X.cell? ⟨w.heap.size, 0, none⟩ = some (.int .i64 n) ∧ X.cell? ⟨w.heap.size, 1, none⟩ = some (.slice a' k cap') ∧ X.cell? ⟨T, 0, none⟩ = some (.slice ca Q cc) ∧ X.cell? ⟨T, 1, none⟩ = some (.slice ba P bc)) := fun X h =>
        ⟨(h.cell (p := ⟨w.heap.size, 0, none⟩) (block_lt_of_cell g0)).trans g0, (h.cell (p := ⟨w.heap.size, 1, none⟩) (block_lt_of_cell g1)).trans g1, (h.cell (p := ⟨T, 0, none⟩) (block_lt_of_cell t0)).trans t0, (h.cell (p := ⟨T, 1, none⟩) (block_lt_of_cell t1)).trans t1⟩
      have hS := HSS.out V.drew (Below.refl _ _)
      have HGd := hid (HG5.out.on (Below.refl _ V).drew)
      have HBd : Hid (Below w.heap.size w V.drew) := HB5.out.drew
      have HBv : Hid (Below V.drew.heap.size V.drew V.drew) := Below.refl _ _
      have qr : (r == r) = true := by simp
      clear HG5 HB5 HT HBX HGX
      cases b with
      | true =>
        refine wp_region_held_drew (S := (fun X => X.cell? ⟨w.heap.size, 0, none⟩ = some (.int .i64 n) ∧ X.cell? ⟨w.heap.size, 1, none⟩ = some (.slice a' k cap') ∧ X.cell? ⟨T, 0, none⟩ = some (.slice ca Q cc) ∧ X.cell? ⟨T, 1, none⟩ = some (.slice ba P bc))) (by kernel_rfl) hS (fun hHeld => ?_)
        (refine takeW (i := 0) (dst := some 25) (v := ?_) rfl rfl (by kernel_rfl) (by kernel_rfl) (by kernel_rfl) (fun _ _ _ h => h) (Or.inl ⟨by rfl, ?_⟩) hHeld ?_; rotate_left; focus (intro w hSw; (try dsimp only at hSw); go_simp; (try with_reducible rfl); done))
        try simp only [Act.put, List.setIfInBounds_toArray, List.set_cons_zero, List.set_cons_succ]
        (refine takeW (i := 1) (dst := some 26) (v := ?_) rfl rfl (by kernel_rfl) (by kernel_rfl) (by kernel_rfl) (fun _ _ _ h => h) (Or.inl ⟨by rfl, ?_⟩) hHeld ?_; rotate_left; focus (intro w hSw; (try dsimp only at hSw); go_simp; (try with_reducible rfl); done))
        try simp only [Act.put, List.setIfInBounds_toArray, List.set_cons_zero, List.set_cons_succ]
        first | refine takeW (i := 2) (dst := some 27) (v := undef) rfl rfl (by kernel_rfl) (by kernel_rfl) (by kernel_rfl) (fun _ _ _ h => h) (Or.inr ⟨by rfl, rfl⟩) hHeld ?_ | (refine takeW (i := 2) (dst := some 27) (v := ?_) rfl rfl (by kernel_rfl) (by kernel_rfl) (by kernel_rfl) (fun _ _ _ h => h) (Or.inl ⟨by rfl, ?_⟩) hHeld ?_; rotate_left; focus (intro w hSw; (try dsimp only at hSw); go_simp; (try with_reducible rfl); done))
        try simp only [Act.put, List.setIfInBounds_toArray, List.set_cons_zero, List.set_cons_succ]
        first | refine takeW (i := 3) (dst := some 28) (v := undef) rfl rfl (by kernel_rfl) (by kernel_rfl) (by kernel_rfl) (fun _ _ _ h => h) (Or.inr ⟨by rfl, rfl⟩) hHeld ?_ | (refine takeW (i := 3) (dst := some 28) (v := ?_) rfl rfl (by kernel_rfl) (by kernel_rfl) (by kernel_rfl) (fun _ _ _ h => h) (Or.inl ⟨by rfl, ?_⟩) hHeld ?_; rotate_left; focus (intro w hSw; (try dsimp only at hSw); go_simp; (try with_reducible rfl); done))
        try simp only [Act.put, List.setIfInBounds_toArray, List.set_cons_zero, List.set_cons_succ]
        first | refine takeW (i := 5) (dst := some 30) (v := undef) rfl rfl (by kernel_rfl) (by kernel_rfl) (by kernel_rfl) (fun _ _ _ h => h) (Or.inr ⟨by rfl, rfl⟩) hHeld ?_ | (refine takeW (i := 5) (dst := some 30) (v := ?_) rfl rfl (by kernel_rfl) (by kernel_rfl) (by kernel_rfl) (fun _ _ _ h => h) (Or.inl ⟨by rfl, ?_⟩) hHeld ?_; rotate_left; focus (intro w hSw; (try dsimp only at hSw); go_simp; (try with_reducible rfl); done))
        try simp only [Act.put, List.setIfInBounds_toArray, List.set_cons_zero, List.set_cons_succ]
        first | refine takeW (i := 6) (dst := some 31) (v := undef) rfl rfl (by kernel_rfl) (by kernel_rfl) (by kernel_rfl) (fun _ _ _ h => h) (Or.inr ⟨by rfl, rfl⟩) hHeld ?_ | (refine takeW (i := 6) (dst := some 31) (v := ?_) rfl rfl (by kernel_rfl) (by kernel_rfl) (by kernel_rfl) (fun _ _ _ h => h) (Or.inl ⟨by rfl, ?_⟩) hHeld ?_; rotate_left; focus (intro w hSw; (try dsimp only at hSw); go_simp; (try with_reducible rfl); done))
        try simp only [Act.put, List.setIfInBounds_toArray, List.set_cons_zero, List.set_cons_succ]
        refine wpAnyH_ready (rs := [4]) (by kernel_rfl) (by simp) ?_
        refine AllReadyH.cons (o := _) rfl (fun KK hK => ?_) AllReadyH.nil
        go_simp
        refine (CT.out _ HGd.out (HPB0.out _ HBd.out)).mono ?_
        rintro e y1 ⟨rfl, hb⟩
        have HV1 : Hid (Below V.drew.heap.size V.drew y1) := hb
        have HB1 : Hid (Below w.heap.size w y1) := HBd.out.trans (hb.mono HBd.out.size)
        have HG1 := hid (HGd.out.on hb)
        have hS1 := HSS.out y1 HV1.out
        clear hb
        refine hK.out _ _ hS1 (fun hHeld => ?_)
        clear hK KK
        try simp only [Act.put]
        try simp only [List.setIfInBounds_toArray]
        try simp only [List.set_cons_succ]
        try simp only [List.set_cons_zero]
        refine wpAnyH_ready (rs := [7]) (by kernel_rfl) (by simp) ?_
        refine AllReadyH.cons (o := _) rfl (fun KK hK => ?_) AllReadyH.nil
        go_simp
        refine (CU.out _ HG1.out (HPB0.out _ HB1.out)).mono ?_
        rintro e y2 ⟨rfl, hb⟩
        have HV2 : Hid (Below V.drew.heap.size V.drew y2) := HV1.out.trans (hb.mono HV1.out.size)
        have HB2 : Hid (Below w.heap.size w y2) := HB1.out.trans (hb.mono HB1.out.size)
        have HG2 := hid (HG1.out.on hb)
        have hS2 := HSS.out y2 HV2.out
        clear hb
        refine hK.out _ _ hS2 (fun hHeld => ?_)
        clear hK KK
        try simp only [Act.put]
        try simp only [List.setIfInBounds_toArray]
        try simp only [List.set_cons_succ]
        try simp only [List.set_cons_zero]
        first | refine takeW (i := 8) (dst := some 33) (v := undef) rfl rfl (by kernel_rfl) (by kernel_rfl) (by kernel_rfl) (fun _ _ _ h => h) (Or.inr ⟨by rfl, rfl⟩) hHeld ?_ | (refine takeW (i := 8) (dst := some 33) (v := ?_) rfl rfl (by kernel_rfl) (by kernel_rfl) (by kernel_rfl) (fun _ _ _ h => h) (Or.inl ⟨by rfl, ?_⟩) hHeld ?_; rotate_left; focus (intro w hSw; (try dsimp only at hSw); go_simp; (try with_reducible rfl); done))
        try simp only [Act.put, List.setIfInBounds_toArray, List.set_cons_zero, List.set_cons_succ]
        (refine takeW (i := 9) (dst := some 34) (v := ?_) rfl rfl (by kernel_rfl) (by kernel_rfl) (by kernel_rfl) (fun _ _ _ h => h) (Or.inl ⟨by rfl, ?_⟩) hHeld ?_; rotate_left; focus (intro w hSw; (try dsimp only at hSw); go_simp; (try with_reducible rfl); done))
        try simp only [Act.put, List.setIfInBounds_toArray, List.set_cons_zero, List.set_cons_succ]
        (refine takeW (i := 10) (dst := some 35) (v := ?_) rfl rfl (by kernel_rfl) (by kernel_rfl) (by kernel_rfl) (fun _ _ _ h => h) (Or.inl ⟨by rfl, ?_⟩) hHeld ?_; rotate_left; focus (intro w hSw; (try dsimp only at hSw); go_simp; (try with_reducible rfl); done))
        try simp only [Act.put, List.setIfInBounds_toArray, List.set_cons_zero, List.set_cons_succ]
        first | refine takeW (i := 11) (dst := some 36) (v := undef) rfl rfl (by kernel_rfl) (by kernel_rfl) (by kernel_rfl) (fun _ _ _ h => h) (Or.inr ⟨by rfl, rfl⟩) hHeld ?_ | (refine takeW (i := 11) (dst := some 36) (v := ?_) rfl rfl (by kernel_rfl) (by kernel_rfl) (by kernel_rfl) (fun _ _ _ h => h) (Or.inl ⟨by rfl, ?_⟩) hHeld ?_; rotate_left; focus (intro w hSw; (try dsimp only at hSw); go_simp; (try with_reducible rfl); done))
        try simp only [Act.put, List.setIfInBounds_toArray, List.set_cons_zero, List.set_cons_succ]
        refine wpAnyH_ready (rs := [12]) (by kernel_rfl) (by simp) ?_
        refine AllReadyH.cons (o := _) rfl (fun KK hK => ?_) AllReadyH.nil
        go_simp
        refine (CR.out _ HG2.out).mono ?_
        rintro e y3 ⟨rfl, hb⟩
        have HV3 : Hid (Below V.drew.heap.size V.drew y3) := HV2.out.trans (hb.mono HV2.out.size)
        have HB3 : Hid (Below w.heap.size w y3) := HB2.out.trans (hb.mono HB2.out.size)
        have hS3 := HSS.out y3 HV3.out
        clear hb
        refine hK.out _ _ hS3 (fun hHeld => ?_)
        clear hK KK
        try simp only [Act.put]
        try simp only [List.setIfInBounds_toArray]
        try simp only [List.set_cons_succ]
        try simp only [List.set_cons_zero]
        first | refine takeW (i := 13) (dst := some 38) (v := undef) rfl rfl (by kernel_rfl) (by kernel_rfl) (by kernel_rfl) (fun _ _ _ h => h) (Or.inr ⟨by rfl, rfl⟩) hHeld ?_ | (refine takeW (i := 13) (dst := some 38) (v := ?_) rfl rfl (by kernel_rfl) (by kernel_rfl) (by kernel_rfl) (fun _ _ _ h => h) (Or.inl ⟨by rfl, ?_⟩) hHeld ?_; rotate_left; focus (intro w hSw; (try dsimp only at hSw); go_simp; (try with_reducible rfl); done))
        try simp only [Act.put, List.setIfInBounds_toArray, List.set_cons_zero, List.set_cons_succ]
        first | refine takeW (i := 14) (dst := some 39) (v := undef) rfl rfl (by kernel_rfl) (by kernel_rfl) (by kernel_rfl) (fun _ _ _ h => h) (Or.inr ⟨by rfl, rfl⟩) hHeld ?_ | (refine takeW (i := 14) (dst := some 39) (v := ?_) rfl rfl (by kernel_rfl) (by kernel_rfl) (by kernel_rfl) (fun _ _ _ h => h) (Or.inl ⟨by rfl, ?_⟩) hHeld ?_; rotate_left; focus (intro w hSw; (try dsimp only at hSw); go_simp; (try with_reducible rfl); done))
        try simp only [Act.put, List.setIfInBounds_toArray, List.set_cons_zero, List.set_cons_succ]
        first | refine takeW (i := 15) (dst := some 40) (v := undef) rfl rfl (by kernel_rfl) (by kernel_rfl) (by kernel_rfl) (fun _ _ _ h => h) (Or.inr ⟨by rfl, rfl⟩) hHeld ?_ | (refine takeW (i := 15) (dst := some 40) (v := ?_) rfl rfl (by kernel_rfl) (by kernel_rfl) (by kernel_rfl) (fun _ _ _ h => h) (Or.inl ⟨by rfl, ?_⟩) hHeld ?_; rotate_left; focus (intro w hSw; (try dsimp only at hSw); go_simp; (try with_reducible rfl); done))
        try simp only [Act.put, List.setIfInBounds_toArray, List.set_cons_zero, List.set_cons_succ]
        first | refine takeW (i := 16) (dst := some 41) (v := undef) rfl rfl (by kernel_rfl) (by kernel_rfl) (by kernel_rfl) (fun _ _ _ h => h) (Or.inr ⟨by rfl, rfl⟩) hHeld ?_ | (refine takeW (i := 16) (dst := some 41) (v := ?_) rfl rfl (by kernel_rfl) (by kernel_rfl) (by kernel_rfl) (fun _ _ _ h => h) (Or.inl ⟨by rfl, ?_⟩) hHeld ?_; rotate_left; focus (intro w hSw; (try dsimp only at hSw); go_simp; (try with_reducible rfl); done))
        try simp only [Act.put, List.setIfInBounds_toArray, List.set_cons_zero, List.set_cons_succ]
        first | refine takeW (i := 17) (dst := some 42) (v := undef) rfl rfl (by kernel_rfl) (by kernel_rfl) (by kernel_rfl) (fun _ _ _ h => h) (Or.inr ⟨by rfl, rfl⟩) hHeld ?_ | (refine takeW (i := 17) (dst := some 42) (v := ?_) rfl rfl (by kernel_rfl) (by kernel_rfl) (by kernel_rfl) (fun _ _ _ h => h) (Or.inl ⟨by rfl, ?_⟩) hHeld ?_; rotate_left; focus (intro w hSw; (try dsimp only at hSw); go_simp; (try with_reducible rfl); done))
        try simp only [Act.put, List.setIfInBounds_toArray, List.set_cons_zero, List.set_cons_succ]
        first | refine takeW (i := 18) (dst := some 43) (v := undef) rfl rfl (by kernel_rfl) (by kernel_rfl) (by kernel_rfl) (fun _ _ _ h => h) (Or.inr ⟨by rfl, rfl⟩) hHeld ?_ | (refine takeW (i := 18) (dst := some 43) (v := ?_) rfl rfl (by kernel_rfl) (by kernel_rfl) (by kernel_rfl) (fun _ _ _ h => h) (Or.inl ⟨by rfl, ?_⟩) hHeld ?_; rotate_left; focus (intro w hSw; (try dsimp only at hSw); go_simp; (try with_reducible rfl); done))
        try simp only [Act.put, List.setIfInBounds_toArray, List.set_cons_zero, List.set_cons_succ]
        first | refine takeW (i := 19) (dst := some 44) (v := undef) rfl rfl (by kernel_rfl) (by kernel_rfl) (by kernel_rfl) (fun _ _ _ h => h) (Or.inr ⟨by rfl, rfl⟩) hHeld ?_ | (refine takeW (i := 19) (dst := some 44) (v := ?_) rfl rfl (by kernel_rfl) (by kernel_rfl) (by kernel_rfl) (fun _ _ _ h => h) (Or.inl ⟨by rfl, ?_⟩) hHeld ?_; rotate_left; focus (intro w hSw; (try dsimp only at hSw); go_simp; (try with_reducible rfl); done))
        try simp only [Act.put, List.setIfInBounds_toArray, List.set_cons_zero, List.set_cons_succ]
        first | refine takeW (i := 20) (dst := some 45) (v := undef) rfl rfl (by kernel_rfl) (by kernel_rfl) (by kernel_rfl) (fun _ _ _ h => h) (Or.inr ⟨by rfl, rfl⟩) hHeld ?_ | (refine takeW (i := 20) (dst := some 45) (v := ?_) rfl rfl (by kernel_rfl) (by kernel_rfl) (by kernel_rfl) (fun _ _ _ h => h) (Or.inl ⟨by rfl, ?_⟩) hHeld ?_; rotate_left; focus (intro w hSw; (try dsimp only at hSw); go_simp; (try with_reducible rfl); done))
        try simp only [Act.put, List.setIfInBounds_toArray, List.set_cons_zero, List.set_cons_succ]
        first | refine takeW (i := 21) (dst := some 46) (v := undef) rfl rfl (by kernel_rfl) (by kernel_rfl) (by kernel_rfl) (fun _ _ _ h => h) (Or.inr ⟨by rfl, rfl⟩) hHeld ?_ | (refine takeW (i := 21) (dst := some 46) (v := ?_) rfl rfl (by kernel_rfl) (by kernel_rfl) (by kernel_rfl) (fun _ _ _ h => h) (Or.inl ⟨by rfl, ?_⟩) hHeld ?_; rotate_left; focus (intro w hSw; (try dsimp only at hSw); go_simp; (try with_reducible rfl); done))
        try simp only [Act.put, List.setIfInBounds_toArray, List.set_cons_zero, List.set_cons_succ]
        first | refine takeW (i := 22) (dst := some 47) (v := undef) rfl rfl (by kernel_rfl) (by kernel_rfl) (by kernel_rfl) (fun _ _ _ h => h) (Or.inr ⟨by rfl, rfl⟩) hHeld ?_ | (refine takeW (i := 22) (dst := some 47) (v := ?_) rfl rfl (by kernel_rfl) (by kernel_rfl) (by kernel_rfl) (fun _ _ _ h => h) (Or.inl ⟨by rfl, ?_⟩) hHeld ?_; rotate_left; focus (intro w hSw; (try dsimp only at hSw); go_simp; (try with_reducible rfl); done))
        try simp only [Act.put, List.setIfInBounds_toArray, List.set_cons_zero, List.set_cons_succ]
        (refine takeW (i := 23) (dst := some 48) (v := ?_) rfl rfl (by kernel_rfl) (by kernel_rfl) (by kernel_rfl) (fun _ _ _ h => h) (Or.inl ⟨by rfl, ?_⟩) hHeld ?_; rotate_left; focus (intro w hSw; (try dsimp only at hSw); go_simp; (try with_reducible rfl); done))
        try simp only [Act.put, List.setIfInBounds_toArray, List.set_cons_zero, List.set_cons_succ]
        (refine takeW (i := 24) (dst := some 4) (v := ?_) rfl rfl (by kernel_rfl) (by kernel_rfl) (by kernel_rfl) (fun _ _ _ h => h) (Or.inl ⟨by rfl, ?_⟩) hHeld ?_; rotate_left; focus (intro w hSw; (try dsimp only at hSw); go_simp; (try with_reducible rfl); done))
        try simp only [Act.put]
        try simp only [List.setIfInBounds_toArray]
        try simp only [List.set_cons_succ]
        try simp only [List.set_cons_zero]
        refine wpAnyH_done (by kernel_rfl) ?_ _
        clear hHeld hS hS1 hS2 hS3 HSS CT CU CR g0 g1 t0 t1
        go_wp2
        go_ret
        exact ⟨rfl, HB3.out⟩
      | false =>
        obtain ⟨rfl, rfl⟩ := HQP.out rfl
        refine wp_region_held_drew (S := (fun X => X.cell? ⟨w.heap.size, 0, none⟩ = some (.int .i64 n) ∧ X.cell? ⟨w.heap.size, 1, none⟩ = some (.slice a' k cap') ∧ X.cell? ⟨T, 0, none⟩ = some (.slice ca 0 cc) ∧ X.cell? ⟨T, 1, none⟩ = some (.slice ba 0 bc))) (by kernel_rfl) hS (fun hHeld => ?_)
        (refine takeW (i := 0) (dst := some 25) (v := ?_) rfl rfl (by kernel_rfl) (by kernel_rfl) (by kernel_rfl) (fun _ _ _ h => h) (Or.inl ⟨by rfl, ?_⟩) hHeld ?_; rotate_left; focus (intro w hSw; (try dsimp only at hSw); go_simp; (try with_reducible rfl); done))
        try simp only [Act.put, List.setIfInBounds_toArray, List.set_cons_zero, List.set_cons_succ]
        (refine takeW (i := 1) (dst := some 26) (v := ?_) rfl rfl (by kernel_rfl) (by kernel_rfl) (by kernel_rfl) (fun _ _ _ h => h) (Or.inl ⟨by rfl, ?_⟩) hHeld ?_; rotate_left; focus (intro w hSw; (try dsimp only at hSw); go_simp; (try with_reducible rfl); done))
        try simp only [Act.put, List.setIfInBounds_toArray, List.set_cons_zero, List.set_cons_succ]
        first | refine takeW (i := 2) (dst := some 27) (v := undef) rfl rfl (by kernel_rfl) (by kernel_rfl) (by kernel_rfl) (fun _ _ _ h => h) (Or.inr ⟨by rfl, rfl⟩) hHeld ?_ | (refine takeW (i := 2) (dst := some 27) (v := ?_) rfl rfl (by kernel_rfl) (by kernel_rfl) (by kernel_rfl) (fun _ _ _ h => h) (Or.inl ⟨by rfl, ?_⟩) hHeld ?_; rotate_left; focus (intro w hSw; (try dsimp only at hSw); go_simp; (try with_reducible rfl); done))
        try simp only [Act.put, List.setIfInBounds_toArray, List.set_cons_zero, List.set_cons_succ]
        first | refine takeW (i := 3) (dst := some 28) (v := undef) rfl rfl (by kernel_rfl) (by kernel_rfl) (by kernel_rfl) (fun _ _ _ h => h) (Or.inr ⟨by rfl, rfl⟩) hHeld ?_ | (refine takeW (i := 3) (dst := some 28) (v := ?_) rfl rfl (by kernel_rfl) (by kernel_rfl) (by kernel_rfl) (fun _ _ _ h => h) (Or.inl ⟨by rfl, ?_⟩) hHeld ?_; rotate_left; focus (intro w hSw; (try dsimp only at hSw); go_simp; (try with_reducible rfl); done))
        try simp only [Act.put, List.setIfInBounds_toArray, List.set_cons_zero, List.set_cons_succ]
        first | refine takeW (i := 5) (dst := some 30) (v := undef) rfl rfl (by kernel_rfl) (by kernel_rfl) (by kernel_rfl) (fun _ _ _ h => h) (Or.inr ⟨by rfl, rfl⟩) hHeld ?_ | (refine takeW (i := 5) (dst := some 30) (v := ?_) rfl rfl (by kernel_rfl) (by kernel_rfl) (by kernel_rfl) (fun _ _ _ h => h) (Or.inl ⟨by rfl, ?_⟩) hHeld ?_; rotate_left; focus (intro w hSw; (try dsimp only at hSw); go_simp; (try with_reducible rfl); done))
        try simp only [Act.put, List.setIfInBounds_toArray, List.set_cons_zero, List.set_cons_succ]
        first | refine takeW (i := 6) (dst := some 31) (v := undef) rfl rfl (by kernel_rfl) (by kernel_rfl) (by kernel_rfl) (fun _ _ _ h => h) (Or.inr ⟨by rfl, rfl⟩) hHeld ?_ | (refine takeW (i := 6) (dst := some 31) (v := ?_) rfl rfl (by kernel_rfl) (by kernel_rfl) (by kernel_rfl) (fun _ _ _ h => h) (Or.inl ⟨by rfl, ?_⟩) hHeld ?_; rotate_left; focus (intro w hSw; (try dsimp only at hSw); go_simp; (try with_reducible rfl); done))
        try simp only [Act.put, List.setIfInBounds_toArray, List.set_cons_zero, List.set_cons_succ]
        refine wpAnyH_ready (rs := [4]) (by kernel_rfl) (by simp) ?_
        refine AllReadyH.cons (o := _) rfl (fun KK hK => ?_) AllReadyH.nil
        go_simp
        refine (CT.out _ HGd.out (HPB0.out _ HBd.out)).mono ?_
        rintro e y1 ⟨rfl, hb⟩
        have HV1 : Hid (Below V.drew.heap.size V.drew y1) := hb
        have HB1 : Hid (Below w.heap.size w y1) := HBd.out.trans (hb.mono HBd.out.size)
        have HG1 := hid (HGd.out.on hb)
        have hS1 := HSS.out y1 HV1.out
        clear hb
        refine hK.out _ _ hS1 (fun hHeld => ?_)
        clear hK KK
        try simp only [Act.put]
        try simp only [List.setIfInBounds_toArray]
        try simp only [List.set_cons_succ]
        try simp only [List.set_cons_zero]
        refine wpAnyH_ready (rs := [7]) (by kernel_rfl) (by simp) ?_
        refine AllReadyH.cons (o := _) rfl (fun KK hK => ?_) AllReadyH.nil
        go_simp
        refine (CU.out _ HG1.out (HPB0.out _ HB1.out)).mono ?_
        rintro e y2 ⟨rfl, hb⟩
        have HV2 : Hid (Below V.drew.heap.size V.drew y2) := HV1.out.trans (hb.mono HV1.out.size)
        have HB2 : Hid (Below w.heap.size w y2) := HB1.out.trans (hb.mono HB1.out.size)
        have HG2 := hid (HG1.out.on hb)
        have hS2 := HSS.out y2 HV2.out
        clear hb
        refine hK.out _ _ hS2 (fun hHeld => ?_)
        clear hK KK
        try simp only [Act.put]
        try simp only [List.setIfInBounds_toArray]
        try simp only [List.set_cons_succ]
        try simp only [List.set_cons_zero]
        first | refine takeW (i := 8) (dst := some 33) (v := undef) rfl rfl (by kernel_rfl) (by kernel_rfl) (by kernel_rfl) (fun _ _ _ h => h) (Or.inr ⟨by rfl, rfl⟩) hHeld ?_ | (refine takeW (i := 8) (dst := some 33) (v := ?_) rfl rfl (by kernel_rfl) (by kernel_rfl) (by kernel_rfl) (fun _ _ _ h => h) (Or.inl ⟨by rfl, ?_⟩) hHeld ?_; rotate_left; focus (intro w hSw; (try dsimp only at hSw); go_simp; (try with_reducible rfl); done))
        try simp only [Act.put, List.setIfInBounds_toArray, List.set_cons_zero, List.set_cons_succ]
        (refine takeW (i := 9) (dst := some 34) (v := ?_) rfl rfl (by kernel_rfl) (by kernel_rfl) (by kernel_rfl) (fun _ _ _ h => h) (Or.inl ⟨by rfl, ?_⟩) hHeld ?_; rotate_left; focus (intro w hSw; (try dsimp only at hSw); go_simp; (try with_reducible rfl); done))
        try simp only [Act.put, List.setIfInBounds_toArray, List.set_cons_zero, List.set_cons_succ]
        (refine takeW (i := 10) (dst := some 35) (v := ?_) rfl rfl (by kernel_rfl) (by kernel_rfl) (by kernel_rfl) (fun _ _ _ h => h) (Or.inl ⟨by rfl, ?_⟩) hHeld ?_; rotate_left; focus (intro w hSw; (try dsimp only at hSw); go_simp; (try with_reducible rfl); done))
        try simp only [Act.put, List.setIfInBounds_toArray, List.set_cons_zero, List.set_cons_succ]
        first | refine takeW (i := 11) (dst := some 36) (v := undef) rfl rfl (by kernel_rfl) (by kernel_rfl) (by kernel_rfl) (fun _ _ _ h => h) (Or.inr ⟨by rfl, rfl⟩) hHeld ?_ | (refine takeW (i := 11) (dst := some 36) (v := ?_) rfl rfl (by kernel_rfl) (by kernel_rfl) (by kernel_rfl) (fun _ _ _ h => h) (Or.inl ⟨by rfl, ?_⟩) hHeld ?_; rotate_left; focus (intro w hSw; (try dsimp only at hSw); go_simp; (try with_reducible rfl); done))
        try simp only [Act.put, List.setIfInBounds_toArray, List.set_cons_zero, List.set_cons_succ]
        refine wpAnyH_ready (rs := [12]) (by kernel_rfl) (by simp) ?_
        refine AllReadyH.cons (o := _) rfl (fun KK hK => ?_) AllReadyH.nil
        go_simp
        refine (CR.out _ HG2.out).mono ?_
        rintro e y3 ⟨rfl, hb⟩
        have HV3 : Hid (Below V.drew.heap.size V.drew y3) := HV2.out.trans (hb.mono HV2.out.size)
        have HB3 : Hid (Below w.heap.size w y3) := HB2.out.trans (hb.mono HB2.out.size)
        have hS3 := HSS.out y3 HV3.out
        clear hb
        refine hK.out _ _ hS3 (fun hHeld => ?_)
        clear hK KK
        try simp only [Act.put]
        try simp only [List.setIfInBounds_toArray]
        try simp only [List.set_cons_succ]
        try simp only [List.set_cons_zero]
        first | refine takeW (i := 13) (dst := some 38) (v := undef) rfl rfl (by kernel_rfl) (by kernel_rfl) (by kernel_rfl) (fun _ _ _ h => h) (Or.inr ⟨by rfl, rfl⟩) hHeld ?_ | (refine takeW (i := 13) (dst := some 38) (v := ?_) rfl rfl (by kernel_rfl) (by kernel_rfl) (by kernel_rfl) (fun _ _ _ h => h) (Or.inl ⟨by rfl, ?_⟩) hHeld ?_; rotate_left; focus (intro w hSw; (try dsimp only at hSw); go_simp; (try with_reducible rfl); done))
        try simp only [Act.put, List.setIfInBounds_toArray, List.set_cons_zero, List.set_cons_succ]
        first | refine takeW (i := 14) (dst := some 39) (v := undef) rfl rfl (by kernel_rfl) (by kernel_rfl) (by kernel_rfl) (fun _ _ _ h => h) (Or.inr ⟨by rfl, rfl⟩) hHeld ?_ | (refine takeW (i := 14) (dst := some 39) (v := ?_) rfl rfl (by kernel_rfl) (by kernel_rfl) (by kernel_rfl) (fun _ _ _ h => h) (Or.inl ⟨by rfl, ?_⟩) hHeld ?_; rotate_left; focus (intro w hSw; (try dsimp only at hSw); go_simp; (try with_reducible rfl); done))
        try simp only [Act.put, List.setIfInBounds_toArray, List.set_cons_zero, List.set_cons_succ]
        first | refine takeW (i := 15) (dst := some 40) (v := undef) rfl rfl (by kernel_rfl) (by kernel_rfl) (by kernel_rfl) (fun _ _ _ h => h) (Or.inr ⟨by rfl, rfl⟩) hHeld ?_ | (refine takeW (i := 15) (dst := some 40) (v := ?_) rfl rfl (by kernel_rfl) (by kernel_rfl) (by kernel_rfl) (fun _ _ _ h => h) (Or.inl ⟨by rfl, ?_⟩) hHeld ?_; rotate_left; focus (intro w hSw; (try dsimp only at hSw); go_simp; (try with_reducible rfl); done))
        try simp only [Act.put, List.setIfInBounds_toArray, List.set_cons_zero, List.set_cons_succ]
        first | refine takeW (i := 16) (dst := some 41) (v := undef) rfl rfl (by kernel_rfl) (by kernel_rfl) (by kernel_rfl) (fun _ _ _ h => h) (Or.inr ⟨by rfl, rfl⟩) hHeld ?_ | (refine takeW (i := 16) (dst := some 41) (v := ?_) rfl rfl (by kernel_rfl) (by kernel_rfl) (by kernel_rfl) (fun _ _ _ h => h) (Or.inl ⟨by rfl, ?_⟩) hHeld ?_; rotate_left; focus (intro w hSw; (try dsimp only at hSw); go_simp; (try with_reducible rfl); done))
        try simp only [Act.put, List.setIfInBounds_toArray, List.set_cons_zero, List.set_cons_succ]
        first | refine takeW (i := 17) (dst := some 42) (v := undef) rfl rfl (by kernel_rfl) (by kernel_rfl) (by kernel_rfl) (fun _ _ _ h => h) (Or.inr ⟨by rfl, rfl⟩) hHeld ?_ | (refine takeW (i := 17) (dst := some 42) (v := ?_) rfl rfl (by kernel_rfl) (by kernel_rfl) (by kernel_rfl) (fun _ _ _ h => h) (Or.inl ⟨by rfl, ?_⟩) hHeld ?_; rotate_left; focus (intro w hSw; (try dsimp only at hSw); go_simp; (try with_reducible rfl); done))
        try simp only [Act.put, List.setIfInBounds_toArray, List.set_cons_zero, List.set_cons_succ]
        first | refine takeW (i := 18) (dst := some 43) (v := undef) rfl rfl (by kernel_rfl) (by kernel_rfl) (by kernel_rfl) (fun _ _ _ h => h) (Or.inr ⟨by rfl, rfl⟩) hHeld ?_ | (refine takeW (i := 18) (dst := some 43) (v := ?_) rfl rfl (by kernel_rfl) (by kernel_rfl) (by kernel_rfl) (fun _ _ _ h => h) (Or.inl ⟨by rfl, ?_⟩) hHeld ?_; rotate_left; focus (intro w hSw; (try dsimp only at hSw); go_simp; (try with_reducible rfl); done))
        try simp only [Act.put, List.setIfInBounds_toArray, List.set_cons_zero, List.set_cons_succ]
        first | refine takeW (i := 19) (dst := some 44) (v := undef) rfl rfl (by kernel_rfl) (by kernel_rfl) (by kernel_rfl) (fun _ _ _ h => h) (Or.inr ⟨by rfl, rfl⟩) hHeld ?_ | (refine takeW (i := 19) (dst := some 44) (v := ?_) rfl rfl (by kernel_rfl) (by kernel_rfl) (by kernel_rfl) (fun _ _ _ h => h) (Or.inl ⟨by rfl, ?_⟩) hHeld ?_; rotate_left; focus (intro w hSw; (try dsimp only at hSw); go_simp; (try with_reducible rfl); done))
        try simp only [Act.put, List.setIfInBounds_toArray, List.set_cons_zero, List.set_cons_succ]
        first | refine takeW (i := 20) (dst := some 45) (v := undef) rfl rfl (by kernel_rfl) (by kernel_rfl) (by kernel_rfl) (fun _ _ _ h => h) (Or.inr ⟨by rfl, rfl⟩) hHeld ?_ | (refine takeW (i := 20) (dst := some 45) (v := ?_) rfl rfl (by kernel_rfl) (by kernel_rfl) (by kernel_rfl) (fun _ _ _ h => h) (Or.inl ⟨by rfl, ?_⟩) hHeld ?_; rotate_left; focus (intro w hSw; (try dsimp only at hSw); go_simp; (try with_reducible rfl); done))
        try simp only [Act.put, List.setIfInBounds_toArray, List.set_cons_zero, List.set_cons_succ]
        first | refine takeW (i := 21) (dst := some 46) (v := undef) rfl rfl (by kernel_rfl) (by kernel_rfl) (by kernel_rfl) (fun _ _ _ h => h) (Or.inr ⟨by rfl, rfl⟩) hHeld ?_ | (refine takeW (i := 21) (dst := some 46) (v := ?_) rfl rfl (by kernel_rfl) (by kernel_rfl) (by kernel_rfl) (fun _ _ _ h => h) (Or.inl ⟨by rfl, ?_⟩) hHeld ?_; rotate_left; focus (intro w hSw; (try dsimp only at hSw); go_simp; (try with_reducible rfl); done))
        try simp only [Act.put, List.setIfInBounds_toArray, List.set_cons_zero, List.set_cons_succ]
        first | refine takeW (i := 22) (dst := some 47) (v := undef) rfl rfl (by kernel_rfl) (by kernel_rfl) (by kernel_rfl) (fun _ _ _ h => h) (Or.inr ⟨by rfl, rfl⟩) hHeld ?_ | (refine takeW (i := 22) (dst := some 47) (v := ?_) rfl rfl (by kernel_rfl) (by kernel_rfl) (by kernel_rfl) (fun _ _ _ h => h) (Or.inl ⟨by rfl, ?_⟩) hHeld ?_; rotate_left; focus (intro w hSw; (try dsimp only at hSw); go_simp; (try with_reducible rfl); done))
        try simp only [Act.put, List.setIfInBounds_toArray, List.set_cons_zero, List.set_cons_succ]
        (refine takeW (i := 23) (dst := some 48) (v := ?_) rfl rfl (by kernel_rfl) (by kernel_rfl) (by kernel_rfl) (fun _ _ _ h => h) (Or.inl ⟨by rfl, ?_⟩) hHeld ?_; rotate_left; focus (intro w hSw; (try dsimp only at hSw); go_simp; (try with_reducible rfl); done))
        try simp only [Act.put, List.setIfInBounds_toArray, List.set_cons_zero, List.set_cons_succ]
        (refine takeW (i := 24) (dst := some 4) (v := ?_) rfl rfl (by kernel_rfl) (by kernel_rfl) (by kernel_rfl) (fun _ _ _ h => h) (Or.inl ⟨by rfl, ?_⟩) hHeld ?_; rotate_left; focus (intro w hSw; (try dsimp only at hSw); go_simp; (try with_reducible rfl); done))
        try simp only [Act.put]
        try simp only [List.setIfInBounds_toArray]
        try simp only [List.set_cons_succ]
        try simp only [List.set_cons_zero]
        refine wpAnyH_done (by kernel_rfl) ?_ _
        clear hHeld hS hS1 hS2 hS3 HSS CT CU CR g0 g1 t0 t1
        go_wp2
        go_ret
        exact ⟨rfl, HB3.out⟩
end Go.Proofs.Ytplhpinaadgkkaa
