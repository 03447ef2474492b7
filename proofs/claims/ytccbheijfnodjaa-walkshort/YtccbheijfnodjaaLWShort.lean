/-
  carcanetlaw05.WalkShort answers true, for any walks that keep the contracts.
-/
import Derived.Test.YtccbheijfnodjaaB19
import Derived.Test.YtccbheijfnodjaaLWTurn
import Derived.Test.YtccbheijfnodjaaB14
import Derived.Test.YtccbheijfnodjaaB29
import Derived.Test.YtccbheijfnodjaaB06
namespace Go.Proofs.Ytccbheijfnodjaa
open Go.RowKit Go.Lib

/-- What lies in memory: the graph, what is kept away from, and the route. -/
structure SSt (w X : World) (B : Nat) (m : Nat) (a2 : Option Addr) (K c2 : Nat) (ys : List (Int × Int)) (qa : Option Addr) (Bs : List Int) (gp op : Nat) (L : List Int) : Prop where
  gc : GC X B m a2 K c2 ys
  rq : IAt X qa Bs
  rp : IAt X (some ⟨gp, op, none⟩) L
  bel : Below w.heap.size w X
theorem SSt.on {w X Y : World} {B m : Nat} {a2 : Option Addr} {K c2 : Nat} {ys : List (Int × Int)} {qa : Option Addr} {Bs : List Int} {gp op : Nat} {L : List Int} (h : SSt w X B m a2 K c2 ys qa Bs gp op L) (hb : Below X.heap.size X Y) : SSt w Y B m a2 K c2 ys qa Bs gp op L := ⟨h.gc.on hb, h.rq.below hb, h.rp.below hb, h.bel.trans (hb.mono h.bel.size)⟩
theorem iat_drop {w : World} {g off : Nat} {xs : List Int} (h : IAt w (some ⟨g, off, none⟩) xs) (i : Nat) : IAt w (some ⟨g, off + i, none⟩) (xs.drop i) := fun h0 => by
  rw [List.length_drop] at h0
  obtain ⟨g', off', e, hg, hc⟩ := h (by omega)
  cases e
  refine ⟨g, off + i, rfl, hg, fun k hk => ?_⟩
  rw [List.length_drop] at hk
  rw [List.getElem_drop, Nat.add_assoc]
  exact hc (i + k) (by omega)
theorem routeG_is {n : Int} {es : List (Int × Int)} {a b : Int} {away L : List Int} (hR : RightG n es) (h : RouteG n es a b away L) : RouteIs n es a b away L := by
  rcases h with h | h
  · exact h.2
  · exact absurd hR h.1

set_option maxHeartbeats 4000000 in
set_option maxRecDepth 100000 in
theorem walkShort_law (O : WalkOps) (n : Int) (a : Option Addr) (len cap : Nat) (l : List (Int × Int)) (k0 k1 : Int) (qa : Option Addr) (qlen qc : Nat) (q : List Int) (w : World) (hl : len = l.length) (hE : EAt w a l)
    (hql : qlen = q.length) (hqc : qlen ≤ qc) (hqm : qc ≤ maxLen) (hqa : qa = none → qc = 0) (hq : IAt w qa q) :
    Calls Try.prog 7 #[.agg #[.int .i64 n, .slice a len cap], .agg #[.int .i64 k0, .int .i64 k1], .slice qa qlen qc] w fun e w' => e = .returned (.bool true) ∧ Below w.heap.size w w' := by
  have HO := hid O
  obtain ⟨M2, hM2⟩ := ex_eq (min qlen 30)
  obtain ⟨Bs, hBs⟩ := ex_eq (q.take M2)
  have hBl : Bs.length = M2 := by rw [hBs, List.length_take]; omega
  have HM2 : Hid (M2 = Bs.length) := hBl.symm
  have j5 : M2 ≤ 30 := by omega
  have jmin : min (qlen : Int) 30 = (M2 : Int) := by omega
  have jc : (M2 : Int) ≤ (qc : Int) := by omega
  have j0 : (0 : Int) ≤ (M2 : Int) := by omega
  have j9 : (M2 : Int) ≤ (qlen : Int) := by omega
  have HSQ : Hid (Slw qa qc M2) := ⟨by omega, hqa⟩
  have HIQ : Hid (∀ X, Below w.heap.size w X → IAt X qa Bs) := fun X h => by rw [hBs]; exact iat_take (hq.below h) M2
  obtain ⟨W0, hW0, hs0, o1, o2, hB0⟩ := new_two' w (.cells #[.int .i64 n, .slice a len cap] 28) (.cells #[.int .i64 k0, .int .i64 k1] 29)
  have HO1 := hid o1
  have HO2 := hid o2
  have HEX : Hid (∀ X, Below w.heap.size w X → EAt X a l) := fun X h => hE.below h
  have HL := hid hl
  have HW0 := hid hW0
  have HB0 := hid hB0
  clear O hl hE hql hq hBs hBl hM2 hW0 hB0 o1 o2
  go_enter Try.func7, Try.ntmps7
  go_wp2_with fail
  rw [← HW0.out]
  refine (wshown_any HO.out _).mono ?_
  rintro e w1 ⟨rfl, hb1⟩
  have hbw1 : Below w.heap.size w w1 := HB0.out.trans (hb1.mono (by omega))
  have o1 := (hb1.block w.heap.size (by omega)).trans HO1.out
  have HE1 : Hid (w1.heap[w.heap.size + 1]? = some (.cells #[.int .i64 k0, .int .i64 k1] 29)) := (hb1.block (w.heap.size + 1) (by omega)).trans HO2.out
  have hs1 : w.heap.size + 2 ≤ w1.heap.size := by have := hb1.size; omega
  obtain ⟨x0, x1⟩ := two_cells o1
  have CA := hid (net_any n a len cap l 40 w1 (by omega) HL.out (HEX.out w1 hbw1))
  have HB1 := hid hbw1
  clear hb1 hbw1 o1 HO1 HO2 hs0 HB0 HW0 HEX HL
  go_wp2_with fail
  refine CA.out.mono ?_
  rintro e w2 ⟨m, ys, a2, c2, rfl, hm40, hR, hys, hsl, hE2, hb2⟩
  obtain ⟨K, hK⟩ := ex_eq ys.length
  rw [← hK]
  have HK := hid hK
  obtain ⟨V2, hV2⟩ := ex_eq (w2.alloc (.cells #[.int .i64 m, .slice a2 K c2] 24))
  obtain ⟨B, hB⟩ := ex_eq w2.heap.size
  have HG2 : Hid (GC V2 B m a2 K c2 ys) := by
    show GC V2 _ _ _ _ _ _
    rw [hV2, hB]; exact gc_new hE2
  have hb12 : Below w1.heap.size w1 V2 := by
    have h1 : Below w2.heap.size w2 V2 := by rw [hV2]; exact below_one _ _
    exact hb2.trans (h1.mono hb2.size)
  have HB2 : Hid (Below w.heap.size w V2) := HB1.out.trans (hb12.mono HB1.out.size)
  have HE2 : Hid (V2.heap[w.heap.size + 1]? = some (.cells #[.int .i64 k0, .int .i64 k1] 29)) := (hb12.block _ (by omega)).trans HE1.out
  have HV2 := hid hV2
  have HBB := hid hB
  have HR := hid hR
  have HSL := hid hsl
  have hK3 : K ≤ 300 := by omega
  clear hK hV2 hE2 hb2 hR hys hsl CA hB x0 x1 HB1 hb12 HE1 hs1
  go_upto_region 3 with fail
  rw [← HV2.out, ← HBB.out]
  clear HV2 HBB
  go_cut [2] (fun v wy => v = .slice qa M2 qc ∧ wy = V2)
  case first =>
    cases qa with
    | none =>
      obtain rfl := hqa rfl
      obtain rfl : qlen = 0 := by omega
      obtain rfl : M2 = 0 := by simp at j9; omega
      clear hqa jmin jc j0 j5 hqc hqm j9
      go_wp2
      all_goals go_meet
      all_goals exact ⟨rfl, rfl⟩
    | some ad =>
      clear hqa
      go_wp2
      all_goals go_meet
      all_goals exact ⟨rfl, rfl⟩
  case rest =>
    obtain ⟨rfl, hwc⟩ := hcut
    rw [hwc]
    clear hwc jmin jc j9 hqc hqm hqa j0
    obtain ⟨g0, g1⟩ := HG2.out.cells
    obtain ⟨x0, x1⟩ := two_cells HE2.out
    by_cases hm0 : m = 0
    · subst hm0
      go_wp2
      go_ret
      exact ⟨rfl, HB2.out⟩
    have hm3 : ((m : Int) == 0) = false := beq_eq_false_iff_ne.2 (by omega)
    have hm5 : ¬ (m : Int) = 0 := by omega
    obtain ⟨p, hp, hpm⟩ := rnd_of k0 (m := m) (by omega)
    obtain ⟨r, hr, hrm⟩ := rnd_of k1 (m := m) (by omega)
    have CRT : Hid (∀ X (x y : Int), GC X B m a2 K c2 ys → IAt X qa Bs → Calls Try.prog 20 #[.agg #[.int .i64 m, .slice a2 K c2], .int .i64 x, .int .i64 y, .slice qa M2 qc] X fun e w' => ∃ v, e = .returned v ∧ RouteTold m ys x y Bs X w' v) := fun X x y hg hI => by
      have := HO.out.route m a2 c2 ys x y qa qc Bs true X (by rw [← HK.out]; omega) (by rw [← HM2.out]; omega) HSL.out.w (by rw [← HM2.out]; exact HSQ.out) hg.at_ hI ⟨fun _ => HR.out, fun _ => rfl⟩
      rw [← HK.out, ← HM2.out] at this
      exact this
    go_wp2_with fail
    refine (CRT.out V2 p r HG2.out (HIQ.out V2 HB2.out)).mono ?_
    rintro e w5 ⟨v5, rfl, ap, cp, L, rfl, hRG, hsp, hIp, hb5⟩
    have HRI := hid (routeG_is HR.out hRG)
    obtain ⟨Q, hQ⟩ := ex_eq L.length
    have HQ := hid hQ
    rw [← hQ] at hsp ⊢
    have HSP := hid hsp
    have HIP := hid hIp
    have HG5 := hid (HG2.out.on hb5)
    have HB5 : Hid (Below w.heap.size w w5) := HB2.out.trans (hb5.mono HB2.out.size)
    clear hRG hsp hIp hb5 hQ HG2 HB2 g0 g1 x0 x1 HE2 hp hr hm3 hm5
    obtain ⟨g0, g1⟩ := HG5.out.cells
    go_wp2_with fail
    refine (CRT.out w5 r p HG5.out (HIQ.out w5 HB5.out)).mono ?_
    rintro e w6 ⟨v6, rfl, ab, cb, Lb, rfl, hRGb, _, _, hb6⟩
    have hQb : Lb.length = Q := by rw [HQ.out]; exact (route_back HRI.out (routeG_is HR.out hRGb)).symm
    rw [hQb]
    have HG6 := hid (HG5.out.on hb6)
    have HB6 : Hid (Below w.heap.size w w6) := HB5.out.trans (hb6.mono HB5.out.size)
    have HIP6 := hid (HIP.out.below hb6)
    clear hRGb hb6 hQb HG5 HB5 HIP g0 g1
    obtain ⟨g0, g1⟩ := HG6.out.cells
    by_cases hQ0 : Q = 0
    · subst hQ0
      go_wp2
      go_ret
      exact ⟨rfl, HB6.out⟩
    have hq0 : ((Q : Int) == 0) = false := beq_eq_false_iff_ne.2 (by omega)
    have hL0 : 0 < L.length := by rw [← HQ.out]; omega
    have hW := HRI.out.way hL0
    obtain ⟨_, eh⟩ := head_at hW.first
    obtain ⟨_, el⟩ := last_at hW.last
    have hQm : Q ≤ m := by
      have h1 := len_le_subI (a := L) (b := (List.range m).map (fun i : Nat => (i : Int))) hW.path.nd (fun z hz => by
        have := hW.path.inn z hz
        exact List.mem_map.2 ⟨z.toNat, by simp; omega, by omega⟩)
      rw [← HQ.out] at h1
      simpa using h1
    obtain ⟨gp, op, hap, _, hcp⟩ := HIP6.out hL0
    subst hap
    have d0 := hcp 0 hL0
    obtain ⟨mq, hmq⟩ : ∃ mq, Q = mq + 1 := ⟨Q - 1, by omega⟩
    have d1 := hcp mq (by rw [← HQ.out]; omega)
    have e1 : L[mq]'(by rw [← HQ.out]; omega) = (r : Int) := by
      rw [← el]
      congr 1
      rw [← HQ.out]; omega
    rw [eh, Nat.add_zero] at d0
    rw [e1] at d1
    have HS6 : Hid (SSt w w6 B m a2 K c2 ys qa Bs gp op L) := ⟨HG6.out, HIQ.out w6 HB6.out, HIP6.out, HB6.out⟩
    have CP : Hid (Calls Try.prog 12 #[.agg #[.int .i64 m, .slice a2 K c2], .slice (some ⟨gp, op, none⟩) Q cp] w6 fun e w' => e = .returned (.bool true) ∧ Below w6.heap.size w6 w') := by
      have := HO.out.path m a2 c2 ys (some ⟨gp, op, none⟩) cp L true true w6 (by rw [← HK.out]; omega) (by rw [← HQ.out]; omega) HSL.out.w (by rw [← HQ.out]; exact HSP.out.w) HG6.out.at_ HIP6.out ⟨fun _ => HR.out, fun _ => rfl⟩ ⟨fun _ => ⟨HR.out, hW.path⟩, fun _ => rfl⟩
      rw [← HK.out, ← HQ.out] at this
      exact this
    have HOFF := hid hW.off
    have q1 : (Q : Int) - 1 = (mq : Int) := by omega
    have q2 : IntKind.i64.wrap (mq : Int) = (mq : Int) := by rw [IntKind.wrap_i64]; omega
    have q3 : (mq : Int) < (Q : Int) := by omega
    have q4 : (0 : Int) < (Q : Int) := by omega
    have HD0 : Hid (∀ X, Below w6.heap.size w6 X → X.cell? ⟨gp, op, none⟩ = some (.int .i64 p) ∧ X.cell? ⟨gp, op + mq, none⟩ = some (.int .i64 r)) := fun X hX => ⟨(hX.cell (p := ⟨gp, op, none⟩) (block_lt_of_cell d0)).trans d0, (hX.cell (p := ⟨gp, op + mq, none⟩) (block_lt_of_cell d1)).trans d1⟩
    have hcpQ : Q ≤ cp := HSP.out.1
    clear hW eh el hcp d0 d1 e1 hmq HIP6 HB6 HSP
    go_wp2_with fail
    refine CP.out.mono ?_
    rintro e w7 ⟨rfl, hb7⟩
    obtain ⟨d0, d1⟩ := HD0.out w7 hb7
    have HS7 := hid (HS6.out.on hb7)
    clear hb7 CP HS6 HG6 g0 g1 HD0
    go_wp2
    go_loopg [13] Q (fun G i wz => ∃ k : Nat, k ≤ Q ∧ Q - k ≤ G ∧ i = .int .i64 k ∧ Hid (SSt w wz B m a2 K c2 ys qa Bs gp op L))
    case atStart => exact ⟨0, Nat.zero_le _, by omega, rfl, HS7⟩
    case round =>
      obtain ⟨k, hk, hG, rfl, hst⟩ := hrel
      by_cases hlt : k < Q
      · have hkl : k < L.length := by rw [← HQ.out]; exact hlt
        obtain ⟨x, hx⟩ := ex_eq L[k]
        have HX := hid hx
        obtain ⟨g0, g1⟩ := hst.out.gc.cells
        have HSX : Hid (∀ X, SSt w X B m a2 K c2 ys qa Bs gp op L → X.cell? ⟨B, 0, none⟩ = some (.int .i64 m) ∧ X.cell? ⟨B, 1, none⟩ = some (.slice a2 K c2) ∧ X.cell? ⟨gp, op + k, none⟩ = some (.int .i64 x)) := fun X hX => by
          refine ⟨hX.gc.n0, hX.gc.e0, ?_⟩
          rw [hx]; exact iat_cell' hX.rp hkl
        have HPd := hid (hst.out.on (Below.refl _ _).drew)
        have HSS : Hid (∀ X, Below wr.drew.heap.size wr.drew X → X.cell? ⟨B, 0, none⟩ = some (.int .i64 m) ∧ X.cell? ⟨B, 1, none⟩ = some (.slice a2 K c2) ∧ X.cell? ⟨gp, op + k, none⟩ = some (.int .i64 x)) := fun X h => HSX.out X (HPd.out.on h)
        have hS := HSX.out wr.drew HPd.out
        have CI : Hid (∀ X, IAt X qa Bs → Calls Try.prog 26 #[.slice qa M2 qc, .int .i64 x] X fun e w' => e = .returned (.bool false) ∧ w' = X) := fun X hI => by
          have := in_any qa qc Bs x X (by rw [← HM2.out]; omega) hI
          rw [← HM2.out, decide_eq_false (HOFF.out x (by rw [hx]; exact List.getElem_mem _))] at this
          exact this
        obtain ⟨D, hD⟩ := ex_eq (L.drop k)
        have hDl : D.length = Q - k := by rw [hD, List.length_drop, HQ.out]
        have CR : Hid (∀ X, SSt w X B m a2 K c2 ys qa Bs gp op L → Calls Try.prog 20 #[.agg #[.int .i64 m, .slice a2 K c2], .int .i64 x, .int .i64 r, .slice qa M2 qc] X fun e w' => ∃ a8 c8, e = .returned (.slice a8 (Q - k) c8) ∧ IAt w' a8 D ∧ Below X.heap.size X w') := fun X hX =>
          (CRT.out X x r hX.gc hX.rq).mono fun _ _ ⟨v, h1, a8, c8, M, h2, h3, _, h5, h6⟩ => by
            obtain rfl : M = D := by
              rw [hD]
              refine (routeG_is HR.out h3).one ?_
              rw [hx]; exact route_on HR.out HRI.out hkl
            rw [hDl] at h2
            exact ⟨a8, c8, by rw [h1, h2], h5, h6⟩
        have CS : Hid (∀ X (a8 : Option Addr) (c8 : Nat), SSt w X B m a2 K c2 ys qa Bs gp op L → IAt X a8 D → Calls Try.prog 19 #[.slice a8 (Q - k) c8, .slice (some ⟨gp, op + k, none⟩) (Q - k) (cp - k)] X fun e w' => e = .returned (.bool true) ∧ Below X.heap.size X w') := fun X a8 c8 hX hI => by
          have := same_any a8 (some ⟨gp, op + k, none⟩) c8 (cp - k) D D true X (by rw [hDl]; omega) hI (by rw [hD]; exact iat_drop hX.rp k) ⟨fun _ => rfl, fun _ => rfl⟩
          rw [hDl] at this
          exact this
        have q5 : (k : Int) < (Q : Int) := by omega
        have q6 : (0 : Int) ≤ (k : Int) := by omega
        have q7 : (k : Int) ≤ (Q : Int) := by omega
        have q8 : (Q : Int) ≤ (cp : Int) := by omega
        have q9 : (k : Int) ≤ (cp : Int) := by omega
        have q13 : ¬ cp = k := by omega
        clear hst hx hD hDl g0 g1
        go_wp2_with fail
        refine wp_region_held_drew (S := (fun X => X.cell? ⟨B, 0, none⟩ = some (.int .i64 m) ∧ X.cell? ⟨B, 1, none⟩ = some (.slice a2 K c2) ∧ X.cell? ⟨gp, op + k, none⟩ = some (.int .i64 x))) (by kernel_rfl) hS (fun hHeld => ?_)
        (refine takeW (i := 0) (dst := some 85) (v := ?_) rfl rfl (by kernel_rfl) (by kernel_rfl) (by kernel_rfl) (fun _ _ _ h => h) (Or.inl ⟨by rfl, ?_⟩) hHeld ?_; rotate_left; focus (intro w hSw; (try dsimp only at hSw); go_simp; (try with_reducible rfl); done))
        try simp only [Act.put, List.setIfInBounds_toArray, List.set_cons_zero, List.set_cons_succ]
        (refine takeW (i := 1) (dst := some 86) (v := ?_) rfl rfl (by kernel_rfl) (by kernel_rfl) (by kernel_rfl) (fun _ _ _ h => h) (Or.inl ⟨by rfl, ?_⟩) hHeld ?_; rotate_left; focus (intro w hSw; (try dsimp only at hSw); go_simp; (try with_reducible rfl); done))
        try simp only [Act.put, List.setIfInBounds_toArray, List.set_cons_zero, List.set_cons_succ]
        (refine takeW (i := 2) (dst := some 87) (v := ?_) rfl rfl (by kernel_rfl) (by kernel_rfl) (by kernel_rfl) (fun _ _ _ h => h) (Or.inl ⟨by rfl, ?_⟩) hHeld ?_; rotate_left; focus (intro w hSw; (try dsimp only at hSw); go_simp; (try with_reducible rfl); done))
        try simp only [Act.put, List.setIfInBounds_toArray, List.set_cons_zero, List.set_cons_succ]
        (refine takeW (i := 3) (dst := some 88) (v := ?_) rfl rfl (by kernel_rfl) (by kernel_rfl) (by kernel_rfl) (fun _ _ _ h => h) (Or.inl ⟨by rfl, ?_⟩) hHeld ?_; rotate_left; focus (intro w hSw; (try dsimp only at hSw); go_simp; (try with_reducible rfl); done))
        try simp only [Act.put, List.setIfInBounds_toArray, List.set_cons_zero, List.set_cons_succ]
        (refine takeW (i := 4) (dst := some 89) (v := ?_) rfl rfl (by kernel_rfl) (by kernel_rfl) (by kernel_rfl) (fun _ _ _ h => h) (Or.inl ⟨by rfl, ?_⟩) hHeld ?_; rotate_left; focus (intro w hSw; (try dsimp only at hSw); go_simp; (try with_reducible rfl); done))
        try simp only [Act.put, List.setIfInBounds_toArray, List.set_cons_zero, List.set_cons_succ]
        refine wpAnyH_ready (rs := [5]) (by kernel_rfl) (by simp) ?_
        refine AllReadyH.cons (o := _) rfl (fun KK hK => ?_) AllReadyH.nil
        go_simp
        refine (CI.out _ HPd.out.rq).mono ?_
        rintro e y1 ⟨rfl, hy1⟩
        subst hy1
        refine hK.out _ _ hHeld (fun hHeld => ?_)
        clear hK KK
        try simp only [Act.put]
        try simp only [List.setIfInBounds_toArray]
        try simp only [List.set_cons_succ]
        try simp only [List.set_cons_zero]
        (refine takeW (i := 6) (dst := some 91) (v := ?_) rfl rfl (by kernel_rfl) (by kernel_rfl) (by kernel_rfl) (fun _ _ _ h => h) (Or.inl ⟨by rfl, ?_⟩) hHeld ?_; rotate_left; focus (intro w hSw; (try dsimp only at hSw); go_simp; (try with_reducible rfl); done))
        try simp only [Act.put, List.setIfInBounds_toArray, List.set_cons_zero, List.set_cons_succ]
        first | refine takeW (i := 7) (dst := some 92) (v := undef) rfl rfl (by kernel_rfl) (by kernel_rfl) (by kernel_rfl) (fun _ _ _ h => h) (Or.inr ⟨by rfl, rfl⟩) hHeld ?_ | (refine takeW (i := 7) (dst := some 92) (v := ?_) rfl rfl (by kernel_rfl) (by kernel_rfl) (by kernel_rfl) (fun _ _ _ h => h) (Or.inl ⟨by rfl, ?_⟩) hHeld ?_; rotate_left; focus (intro w hSw; (try dsimp only at hSw); go_simp; (try with_reducible rfl); done))
        try simp only [Act.put, List.setIfInBounds_toArray, List.set_cons_zero, List.set_cons_succ]
        first | refine takeW (i := 8) (dst := some 93) (v := undef) rfl rfl (by kernel_rfl) (by kernel_rfl) (by kernel_rfl) (fun _ _ _ h => h) (Or.inr ⟨by rfl, rfl⟩) hHeld ?_ | (refine takeW (i := 8) (dst := some 93) (v := ?_) rfl rfl (by kernel_rfl) (by kernel_rfl) (by kernel_rfl) (fun _ _ _ h => h) (Or.inl ⟨by rfl, ?_⟩) hHeld ?_; rotate_left; focus (intro w hSw; (try dsimp only at hSw); go_simp; (try with_reducible rfl); done))
        try simp only [Act.put, List.setIfInBounds_toArray, List.set_cons_zero, List.set_cons_succ]
        first | refine takeW (i := 9) (dst := some 94) (v := undef) rfl rfl (by kernel_rfl) (by kernel_rfl) (by kernel_rfl) (fun _ _ _ h => h) (Or.inr ⟨by rfl, rfl⟩) hHeld ?_ | (refine takeW (i := 9) (dst := some 94) (v := ?_) rfl rfl (by kernel_rfl) (by kernel_rfl) (by kernel_rfl) (fun _ _ _ h => h) (Or.inl ⟨by rfl, ?_⟩) hHeld ?_; rotate_left; focus (intro w hSw; (try dsimp only at hSw); go_simp; (try with_reducible rfl); done))
        try simp only [Act.put, List.setIfInBounds_toArray, List.set_cons_zero, List.set_cons_succ]
        first | refine takeW (i := 10) (dst := some 95) (v := undef) rfl rfl (by kernel_rfl) (by kernel_rfl) (by kernel_rfl) (fun _ _ _ h => h) (Or.inr ⟨by rfl, rfl⟩) hHeld ?_ | (refine takeW (i := 10) (dst := some 95) (v := ?_) rfl rfl (by kernel_rfl) (by kernel_rfl) (by kernel_rfl) (fun _ _ _ h => h) (Or.inl ⟨by rfl, ?_⟩) hHeld ?_; rotate_left; focus (intro w hSw; (try dsimp only at hSw); go_simp; (try with_reducible rfl); done))
        try simp only [Act.put, List.setIfInBounds_toArray, List.set_cons_zero, List.set_cons_succ]
        first | refine takeW (i := 11) (dst := some 96) (v := undef) rfl rfl (by kernel_rfl) (by kernel_rfl) (by kernel_rfl) (fun _ _ _ h => h) (Or.inr ⟨by rfl, rfl⟩) hHeld ?_ | (refine takeW (i := 11) (dst := some 96) (v := ?_) rfl rfl (by kernel_rfl) (by kernel_rfl) (by kernel_rfl) (fun _ _ _ h => h) (Or.inl ⟨by rfl, ?_⟩) hHeld ?_; rotate_left; focus (intro w hSw; (try dsimp only at hSw); go_simp; (try with_reducible rfl); done))
        try simp only [Act.put, List.setIfInBounds_toArray, List.set_cons_zero, List.set_cons_succ]
        first | refine takeW (i := 12) (dst := some 97) (v := undef) rfl rfl (by kernel_rfl) (by kernel_rfl) (by kernel_rfl) (fun _ _ _ h => h) (Or.inr ⟨by rfl, rfl⟩) hHeld ?_ | (refine takeW (i := 12) (dst := some 97) (v := ?_) rfl rfl (by kernel_rfl) (by kernel_rfl) (by kernel_rfl) (fun _ _ _ h => h) (Or.inl ⟨by rfl, ?_⟩) hHeld ?_; rotate_left; focus (intro w hSw; (try dsimp only at hSw); go_simp; (try with_reducible rfl); done))
        try simp only [Act.put, List.setIfInBounds_toArray, List.set_cons_zero, List.set_cons_succ]
        first | refine takeW (i := 13) (dst := some 98) (v := undef) rfl rfl (by kernel_rfl) (by kernel_rfl) (by kernel_rfl) (fun _ _ _ h => h) (Or.inr ⟨by rfl, rfl⟩) hHeld ?_ | (refine takeW (i := 13) (dst := some 98) (v := ?_) rfl rfl (by kernel_rfl) (by kernel_rfl) (by kernel_rfl) (fun _ _ _ h => h) (Or.inl ⟨by rfl, ?_⟩) hHeld ?_; rotate_left; focus (intro w hSw; (try dsimp only at hSw); go_simp; (try with_reducible rfl); done))
        try simp only [Act.put, List.setIfInBounds_toArray, List.set_cons_zero, List.set_cons_succ]
        first | refine takeW (i := 15) (dst := some 100) (v := undef) rfl rfl (by kernel_rfl) (by kernel_rfl) (by kernel_rfl) (fun _ _ _ h => h) (Or.inr ⟨by rfl, rfl⟩) hHeld ?_ | (refine takeW (i := 15) (dst := some 100) (v := ?_) rfl rfl (by kernel_rfl) (by kernel_rfl) (by kernel_rfl) (fun _ _ _ h => h) (Or.inl ⟨by rfl, ?_⟩) hHeld ?_; rotate_left; focus (intro w hSw; (try dsimp only at hSw); go_simp; (try with_reducible rfl); done))
        try simp only [Act.put, List.setIfInBounds_toArray, List.set_cons_zero, List.set_cons_succ]
        first | refine takeW (i := 16) (dst := some 101) (v := undef) rfl rfl (by kernel_rfl) (by kernel_rfl) (by kernel_rfl) (fun _ _ _ h => h) (Or.inr ⟨by rfl, rfl⟩) hHeld ?_ | (refine takeW (i := 16) (dst := some 101) (v := ?_) rfl rfl (by kernel_rfl) (by kernel_rfl) (by kernel_rfl) (fun _ _ _ h => h) (Or.inl ⟨by rfl, ?_⟩) hHeld ?_; rotate_left; focus (intro w hSw; (try dsimp only at hSw); go_simp; (try with_reducible rfl); done))
        try simp only [Act.put, List.setIfInBounds_toArray, List.set_cons_zero, List.set_cons_succ]
        first | refine takeW (i := 17) (dst := some 102) (v := undef) rfl rfl (by kernel_rfl) (by kernel_rfl) (by kernel_rfl) (fun _ _ _ h => h) (Or.inr ⟨by rfl, rfl⟩) hHeld ?_ | (refine takeW (i := 17) (dst := some 102) (v := ?_) rfl rfl (by kernel_rfl) (by kernel_rfl) (by kernel_rfl) (fun _ _ _ h => h) (Or.inl ⟨by rfl, ?_⟩) hHeld ?_; rotate_left; focus (intro w hSw; (try dsimp only at hSw); go_simp; (try with_reducible rfl); done))
        try simp only [Act.put, List.setIfInBounds_toArray, List.set_cons_zero, List.set_cons_succ]
        refine wpAnyH_ready (rs := [14]) (by kernel_rfl) (by simp) ?_
        refine AllReadyH.cons (o := _) rfl (fun KK hK => ?_) AllReadyH.nil
        go_simp
        refine (CR.out _ HPd.out).mono ?_
        rintro e y2 ⟨a8, c8, rfl, hI8, hb8⟩
        have HP8 := hid (HPd.out.on hb8)
        have HI8 := hid hI8
        have hS8 := HSS.out y2 hb8
        clear hI8 hb8 HPd
        refine hK.out _ _ hS8 (fun hHeld => ?_)
        clear hK KK
        try simp only [Act.put]
        try simp only [List.setIfInBounds_toArray]
        try simp only [List.set_cons_succ]
        try simp only [List.set_cons_zero]
        refine wpAnyH_ready (rs := [18]) (by kernel_rfl) (by simp) ?_
        refine AllReadyH.cons (o := _) rfl (fun KK hK => ?_) AllReadyH.nil
        go_simp
        refine (CS.out _ a8 c8 HP8.out HI8.out).mono ?_
        rintro e y3 ⟨rfl, hb9⟩
        have HP9 := hid (HP8.out.on hb9)
        have hS9 := HSX.out y3 HP9.out
        clear hb9 HP8 HI8 hS8
        refine hK.out _ _ hS9 (fun hHeld => ?_)
        clear hK KK
        try simp only [Act.put]
        try simp only [List.setIfInBounds_toArray]
        try simp only [List.set_cons_succ]
        try simp only [List.set_cons_zero]
        first | refine takeW (i := 19) (dst := some 104) (v := undef) rfl rfl (by kernel_rfl) (by kernel_rfl) (by kernel_rfl) (fun _ _ _ h => h) (Or.inr ⟨by rfl, rfl⟩) hHeld ?_ | (refine takeW (i := 19) (dst := some 104) (v := ?_) rfl rfl (by kernel_rfl) (by kernel_rfl) (by kernel_rfl) (fun _ _ _ h => h) (Or.inl ⟨by rfl, ?_⟩) hHeld ?_; rotate_left; focus (intro w hSw; (try dsimp only at hSw); go_simp; (try with_reducible rfl); done))
        try simp only [Act.put, List.setIfInBounds_toArray, List.set_cons_zero, List.set_cons_succ]
        (refine takeW (i := 20) (dst := some 105) (v := ?_) rfl rfl (by kernel_rfl) (by kernel_rfl) (by kernel_rfl) (fun _ _ _ h => h) (Or.inl ⟨by rfl, ?_⟩) hHeld ?_; rotate_left; focus (intro w hSw; (try dsimp only at hSw); go_simp; (try with_reducible rfl); done))
        try simp only [Act.put, List.setIfInBounds_toArray, List.set_cons_zero, List.set_cons_succ]
        refine wpAnyH_done (by kernel_rfl) ?_ _
        clear hHeld hS hS9 HSS CI CR CS
        have q10 : IntKind.i64.wrap ((k : Int) + 2) = (k : Int) + 2 := by rw [IntKind.wrap_i64]; omega
        go_wp2
        go_loopg [14] Q (fun G i wz => ∃ j : Nat, k + 2 ≤ j ∧ j ≤ Q + 2 ∧ Q + 2 - j ≤ G ∧ i = .int .i64 j ∧ Hid (SSt w wz B m a2 K c2 ys qa Bs gp op L))
        case atStart => exact ⟨k + 2, Nat.le_refl _, by omega, by omega, by go_num, HP9⟩
        case round =>
          obtain ⟨j, hkj, hjQ, hGj, rfl, hst⟩ := hrel
          by_cases hjl : j < Q
          · have hjL : j < L.length := by rw [← HQ.out]; exact hjl
            obtain ⟨y, hy⟩ := ex_eq L[j]
            obtain ⟨z0, z1, z2⟩ := HSX.out wr.drew (hst.out.on (Below.refl _ _).drew)
            have z3 : wr.drew.cell? ⟨gp, op + j, none⟩ = some (.int .i64 y) := by rw [hy]; exact iat_cell' (hst.out.on (Below.refl _ _).drew).rp hjL
            have hS : wr.drew.cell? ⟨B, 0, none⟩ = some (.int .i64 m) ∧ wr.drew.cell? ⟨B, 1, none⟩ = some (.slice a2 K c2) ∧ wr.drew.cell? ⟨gp, op + k, none⟩ = some (.int .i64 x) ∧ wr.drew.cell? ⟨gp, op + j, none⟩ = some (.int .i64 y) := ⟨z0, z1, z2, z3⟩
            have HPd := hid (hst.out.on (Below.refl _ _).drew)
            have HKP : Hid (∀ X, Below wr.heap.size wr.drew X → X.cell? ⟨B, 0, none⟩ = some (.int .i64 m) ∧ X.cell? ⟨B, 1, none⟩ = some (.slice a2 K c2) ∧ X.cell? ⟨gp, op + k, none⟩ = some (.int .i64 x) ∧ X.cell? ⟨gp, op + j, none⟩ = some (.int .i64 y)) := fun X h =>
              ⟨(h.cell (p := ⟨B, 0, none⟩) (block_lt_of_cell z0)).trans z0, (h.cell (p := ⟨B, 1, none⟩) (block_lt_of_cell z1)).trans z1, (h.cell (p := ⟨gp, op + k, none⟩) (block_lt_of_cell z2)).trans z2, (h.cell (p := ⟨gp, op + j, none⟩) (block_lt_of_cell z3)).trans z3⟩
            have CH : Hid (Calls Try.prog 27 #[.agg #[.int .i64 m, .slice a2 K c2], .int .i64 x, .int .i64 y] wr.drew fun e w' => e = .returned (.bool false) ∧ Below wr.heap.size wr.drew w') := by
              show Calls _ _ _ _ _
              rw [HK.out]
              exact rhas_any m a2 c2 ys x y true false wr.drew (by rw [← HK.out]; omega) HPd.out.gc.at_ ⟨fun _ => HR.out, fun _ => rfl⟩ ⟨fun h => (by cases h), fun h => absurd h.2 (by rw [HX.out, hy]; exact route_chord HR.out HRI.out hkj hjL)⟩
            have q11 : (j : Int) < (Q : Int) := by omega
            have q12 : (0 : Int) ≤ (j : Int) := by omega
            clear hst hy z0 z1 z2 z3
            go_wp2_with fail
            go_region_held3 (fun X => X.cell? ⟨B, 0, none⟩ = some (.int .i64 m) ∧ X.cell? ⟨B, 1, none⟩ = some (.slice a2 K c2) ∧ X.cell? ⟨gp, op + k, none⟩ = some (.int .i64 x) ∧ X.cell? ⟨gp, op + j, none⟩ = some (.int .i64 y)) (first | exact hS | exact hS7)
              (first | (go_at_call 27; refine CH.out.mono ?_; rintro e w17 ⟨rfl, hb17⟩; have hS7 := HKP.out w17 hb17))
            all_goals
              have HPX := hid (HPd.out.on hb17)
              clear hS hS7 hb17 HKP CH HPd
              go_wp2
              go_roundg (Q + 2 - (j + 1))
              case measure => omega
              case rel => exact ⟨j + 1, by omega, by omega, Nat.le_refl _, by go_num, HPX⟩
          · have q11 : ¬ (j : Int) < (Q : Int) := by omega
            go_wp2
            go_roundg (Q - (k + 1))
            case measure => omega
            case rel => exact ⟨k + 1, by omega, Nat.le_refl _, by go_num, hst⟩
      · obtain rfl : k = Q := by omega
        have HBE := hid hst.out.bel
        clear hst
        go_wp2
        go_ret
        exact ⟨rfl, HBE.out⟩
end Go.Proofs.Ytccbheijfnodjaa
