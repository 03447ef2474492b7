/-
  carcanetlaw05.WalkParts answers true, for any walks that keep the contracts.
-/
import Derived.Test.YtccbheijfnodjaaB29
import Derived.Test.YtccbheijfnodjaaB11
namespace Go.Proofs.Ytccbheijfnodjaa
open Go.RowKit Go.Lib

/-- What lies in memory: the graph, and both rows. -/
structure PSt (w X : World) (B : Nat) (m : Nat) (a2 : Option Addr) (K c2 : Nat) (ys : List (Int × Int)) (a1 : Option Addr) (A : List Int) (b1 : Option Addr) (Bs : List Int) : Prop where
  gc : GC X B m a2 K c2 ys
  ra : IAt X a1 A
  rb : IAt X b1 Bs
  bel : Below w.heap.size w X
theorem PSt.on {w X Y : World} {B m : Nat} {a2 : Option Addr} {K c2 : Nat} {ys : List (Int × Int)} {a1 : Option Addr} {A : List Int} {b1 : Option Addr} {Bs : List Int} (h : PSt w X B m a2 K c2 ys a1 A b1 Bs) (hb : Below X.heap.size X Y) : PSt w Y B m a2 K c2 ys a1 A b1 Bs := ⟨h.gc.on hb, h.ra.below hb, h.rb.below hb, h.bel.trans (hb.mono h.bel.size)⟩

/-- Whether some of the first t of the second row stands in the first one. -/
def MeetIs (A Bs : List Int) (t : Nat) (o : Bool) : Prop := o = true ↔ ∃ z ∈ Bs.take t, z ∈ A

set_option maxHeartbeats 4000000 in
set_option maxRecDepth 100000 in
theorem walkParts_law (O : WalkOps) (n : Int) (a : Option Addr) (len cap : Nat) (l : List (Int × Int)) (pa : Option Addr) (plen pc : Nat) (p : List Int) (qa : Option Addr) (qlen qc : Nat) (q : List Int) (w : World) (hl : len = l.length) (hE : EAt w a l)
    (hpl : plen = p.length) (hpc : plen ≤ pc) (hpm : pc ≤ maxLen) (hpa : pa = none → pc = 0) (hp : IAt w pa p)
    (hql : qlen = q.length) (hqc : qlen ≤ qc) (hqm : qc ≤ maxLen) (hqa : qa = none → qc = 0) (hq : IAt w qa q) :
    Calls Try.prog 10 #[.agg #[.int .i64 n, .slice a len cap], .slice pa plen pc, .slice qa qlen qc] w fun e w' => e = .returned (.bool true) ∧ Below w.heap.size w w' := by
  have HO := hid O
  obtain ⟨i0, hi0, hz0, hz1, hz2⟩ := info_parts Try.info3
  obtain ⟨M, hM⟩ := ex_eq (min plen 20)
  obtain ⟨A, hA⟩ := ex_eq (p.take M)
  have hAl : A.length = M := by rw [hA, List.length_take]; omega
  have HM : Hid (M = A.length) := hAl.symm
  have k5 : M ≤ 20 := by omega
  have kmin : min (plen : Int) 20 = (M : Int) := by omega
  have kc : (M : Int) ≤ (pc : Int) := by omega
  have k0 : (0 : Int) ≤ (M : Int) := by omega
  have k9 : (M : Int) ≤ (plen : Int) := by omega
  obtain ⟨M2, hM2⟩ := ex_eq (min qlen 20)
  obtain ⟨Bs, hBs⟩ := ex_eq (q.take M2)
  have hBl : Bs.length = M2 := by rw [hBs, List.length_take]; omega
  have HM2 : Hid (M2 = Bs.length) := hBl.symm
  have j5 : M2 ≤ 20 := by omega
  have jmin : min (qlen : Int) 20 = (M2 : Int) := by omega
  have jc : (M2 : Int) ≤ (qc : Int) := by omega
  have j0 : (0 : Int) ≤ (M2 : Int) := by omega
  have j9 : (M2 : Int) ≤ (qlen : Int) := by omega
  have HSQ : Hid (Slw qa qc M2) := ⟨by omega, hqa⟩
  have HIP : Hid (∀ X, Below w.heap.size w X → IAt X pa A) := fun X h => by rw [hA]; exact iat_take (hp.below h) M
  have HIQ : Hid (∀ X, Below w.heap.size w X → IAt X qa Bs) := fun X h => by rw [hBs]; exact iat_take (hq.below h) M2
  obtain ⟨W0, hW0⟩ := ex_eq (w.alloc (.cells #[.int .i64 n, .slice a len cap] 28))
  have hB0 : Below w.heap.size w W0 := by rw [hW0]; exact below_one _ _
  have hs0 : W0.heap.size = w.heap.size + 1 := by rw [hW0]; simp
  have HO0 : Hid (W0.heap[w.heap.size]? = some (.cells #[.int .i64 n, .slice a len cap] 28)) := by
    show _ = _
    rw [hW0]; exact heap_alloc_new _ _
  have HEX : Hid (∀ X, Below w.heap.size w X → EAt X a l) := fun X h => hE.below h
  have HL := hid hl
  have HW0 := hid hW0
  have HB0 := hid hB0
  clear O hl hE hpl hp hql hq hA hAl hBs hBl hM hM2 hW0 hB0
  go_enter Try.func10, Try.ntmps10
  go_wp2_with fail
  rw [← HW0.out]
  refine (wshown_any HO.out _).mono ?_
  rintro e w1 ⟨rfl, hb1⟩
  have hbw1 : Below w.heap.size w w1 := HB0.out.trans (hb1.mono (by omega))
  have o1 := (hb1.block w.heap.size (by omega)).trans HO0.out
  obtain ⟨x0, x1⟩ := two_cells o1
  have CA := hid (net_any n a len cap l 20 w1 (by omega) HL.out (HEX.out w1 hbw1))
  have HB1 := hid hbw1
  clear hb1 hbw1 o1 HO0 hs0 HB0 HW0 HEX HL
  go_wp2_with fail
  refine CA.out.mono ?_
  rintro e w2 ⟨m, ys, a2, c2, rfl, hm20, hR, hys, hsl, hE2, hb2⟩
  obtain ⟨K, hK⟩ := ex_eq ys.length
  rw [← hK]
  have HK := hid hK
  obtain ⟨V2, hV2⟩ := ex_eq (w2.alloc (.cells #[.int .i64 m, .slice a2 K c2] 24))
  obtain ⟨B, hB⟩ := ex_eq w2.heap.size
  have HG2 : Hid (GC V2 B m a2 K c2 ys) := by
    show GC V2 _ _ _ _ _ _
    rw [hV2, hB]; exact gc_new hE2
  have HB2 : Hid (Below w.heap.size w V2) := by
    have h1 : Below w2.heap.size w2 V2 := by rw [hV2]; exact below_one _ _
    have h2 : Below w.heap.size w w2 := HB1.out.trans (hb2.mono HB1.out.size)
    exact h2.trans (h1.mono h2.size)
  have HV2 := hid hV2
  have HBB := hid hB
  have HR := hid hR
  have HSL := hid hsl
  have hK3 : K ≤ 300 := by omega
  clear hK hV2 hE2 hb2 hR hys hsl CA hB x0 x1 HB1
  go_upto_region 3 with fail
  rw [← HV2.out, ← HBB.out]
  clear HV2 HBB
  -- the first row, copied
  have HIC := hid (HIP.out V2 HB2.out)
  have HOW1 : Hid ((V2.alloc (.cells #[] 3)).ownsRow V2.heap.size 3 1 (.slice (some ⟨V2.heap.size, 0, none⟩) 0 0) 0 []) := own_emptyI _ rfl
  have HBS1 : Hid (V2.heap.size ≤ (V2.alloc (.cells #[] 3)).heap.size) := by show _ ≤ _; simp
  have KEY : Hid (∀ v3 w3, w3.ownsRow V2.heap.size 3 1 v3 M (A.map (Value.int .i64)) → (V2.alloc (.cells #[] 3)).grownBy w3 (Value.slice (some ⟨V2.heap.size, 0, none⟩) 0 0).ownBlock → ∃ a' c', v3 = .slice a' M c' ∧ Sl a' c' M ∧ PSt w w3 B m a2 K c2 ys a' A qa Bs) := fun v3 w3 h1 h2 => by
    have hb3 : Below V2.heap.size V2 w3 := Below.grown ((Below.refl _ _).alloc (Nat.le_refl _) _) h2 (by simp) (fun j hj => (HOW1.out.lt j hj).1)
    have h1' : w3.ownsRow V2.heap.size 3 1 v3 A.length (A.map (Value.int .i64)) := by rw [← HM.out]; exact h1
    obtain ⟨a3, c3, hv3, hsl3⟩ := sl_own h1'
    obtain ⟨a3', c3', hv3', hI3⟩ := iat_own h1'
    rw [hv3] at hv3'
    simp only [Value.slice.injEq, true_and] at hv3'
    obtain ⟨rfl, rfl⟩ := hv3'
    rw [← HM.out] at hv3 hsl3
    have hb := HB2.out.trans (hb3.mono HB2.out.size)
    exact ⟨a3, c3, hv3, hsl3, HG2.out.on hb3, hI3, HIQ.out w3 hb, hb⟩
  go_cut [1] (fun v wx => ∃ a' c', v = .slice a' M c' ∧ Hid (Sl a' c' M) ∧ Hid (PSt w wx B m a2 K c2 ys a' A qa Bs))
  case first =>
    clear jmin jc j0 j9 hqc hqm hqa
    cases pa with
    | none =>
      obtain rfl := hpa rfl
      obtain rfl : plen = 0 := by omega
      obtain rfl : M = 0 := by simp at k9; omega
      obtain rfl : A = [] := List.eq_nil_of_length_eq_zero HM.out.symm
      clear hpa kmin kc k0 k5 hpc hpm k9
      go_wp2_with (at_builtin; refine wpList_append_any _ rfl _ _ 25 rfl V2.heap.size 3 i0 _ 1 8 Try.underlying25 hi0 hz0 hz1 hz2 rfl (by decide) _ _ _ rfl HOW1.out none 0 0 [] rfl (fun _ => ⟨rfl, rfl⟩) rfl (fun p h => by cases h) (fun u h => by cases h) (by unfold maxLen; omega) (by omega) HBS1.out ?_)
      intro v3 w3 hown3 hgrow3 _
      obtain ⟨a', c', rfl, h1, h2⟩ := KEY.out v3 w3 (by simpa using hown3) hgrow3
      have H1 := hid h1
      have H2 := hid h2
      clear hown3 hgrow3 h1 h2
      go_wp2
      all_goals go_meet
      all_goals exact ⟨_, _, rfl, H1, H2⟩
    | some ad =>
      clear hpa
      have HNW : Hid (∀ q, some ad = some q → ∀ j u, (A.map (Value.int .i64))[j]? = some u → (V2.alloc (.cells #[] 3)).cell? (q.add j) = some u) := fun q hq j u hu' => by
        cases hq
        rw [List.getElem?_map] at hu'
        have hjl : j < A.length := by
          by_cases hh : j < A.length
          · exact hh
          · rw [List.getElem?_eq_none (by omega)] at hu'; cases hu'
        rw [List.getElem?_eq_getElem hjl] at hu'
        cases hu'
        obtain ⟨g, off, hg, _, hc'⟩ := HIC.out (by omega)
        cases hg
        rw [add_at]
        exact cell_alloc_old (hc' j hjl) _
      have HON : Hid (∀ v ∈ A.map (Value.int .i64), v.oneCell' = true) := fun v hv => by obtain ⟨z, _, rfl⟩ := List.mem_map.1 hv; rfl
      have HLN : Hid ((A.map (Value.int .i64)).length = M * 1) := by show _ = _; rw [List.length_map, HM.out, Nat.mul_one]
      have H63 : Hid (0 + M ≤ maxLen) := by show 0 + M ≤ maxLen; unfold maxLen; omega
      go_wp2_with (at_builtin; refine wpList_append_any _ rfl _ _ 25 rfl V2.heap.size 3 i0 _ 1 8 Try.underlying25 hi0 hz0 hz1 hz2 rfl (by decide) _ _ _ rfl HOW1.out (some ad) M pc (A.map (Value.int .i64)) rfl (fun h => by cases h) HLN.out HNW.out HON.out H63.out ?c4 HBS1.out ?_)
      case c4 => omega
      intro v3 w3 hown3 hgrow3 _
      obtain ⟨a', c', rfl, h1, h2⟩ := KEY.out v3 w3 (by simpa using hown3) hgrow3
      have H1 := hid h1
      have H2 := hid h2
      clear hown3 hgrow3 h1 h2
      go_wp2
      all_goals go_meet
      all_goals exact ⟨_, _, rfl, H1, H2⟩
  case rest =>
    obtain ⟨a1, c1, rfl, HS1, HP3⟩ := hcut
    obtain ⟨w3, hw3⟩ : ∃ x, x = wc := ⟨_, rfl⟩
    subst hw3
    clear kmin kc k9 hpc hpm hpa k0 KEY HOW1 HBS1 HIC HG2 HB2 HIP HIQ
    go_upto_region 4 with fail
    go_cut [2] (fun v wy => v = .slice qa M2 qc ∧ wy = w3)
    case first =>
      cases qa with
      | none =>
        obtain rfl := hqa rfl
        obtain rfl : qlen = 0 := by omega
        obtain rfl : M2 = 0 := by simp at j9; omega
        clear hqa jmin jc j0 j5 hqc hqm j9
        go_wp2
        all_goals go_meet
        all_goals exact ⟨rfl, rfl⟩
      | some ad =>
        clear hqa
        go_wp2
        all_goals go_meet
        all_goals exact ⟨rfl, rfl⟩
    case rest =>
      obtain ⟨rfl, hwc⟩ := hcut
      rw [hwc]
      clear hwc jmin jc j9 hqc hqm hqa j0
      have CWH : Hid (∀ X (ra : Option Addr) (rc R : Nat) (L : List Int) (r : Bool), L.length = R → R ≤ 1000 → Slw ra rc R → GC X B m a2 K c2 ys → IAt X ra L → (r = true ↔ WholeL m ys L) → Calls Try.prog 16 #[.agg #[.int .i64 m, .slice a2 K c2], .slice ra R rc] X fun e w' => e = .returned (.bool r) ∧ Below X.heap.size X w') := fun X ra rc R L r hL hR1 hs hg hI hr => by
        subst hL
        rw [HK.out]
        exact HO.out.whole m a2 c2 ys ra rc L true r X (by rw [← HK.out]; omega) (by omega) HSL.out.w hs hg.at_ hI ⟨fun _ => HR.out, fun _ => rfl⟩ (hr.trans ⟨fun h => ⟨HR.out, h⟩, fun h => h.2⟩)
      have CNE : Hid (∀ X (x : Int), GC X B m a2 K c2 ys → Calls Try.prog 31 #[.agg #[.int .i64 m, .slice a2 K c2], .int .i64 x] X fun e w' => ∃ a' cap', e = .returned (.slice a' (nbL x ys).length cap') ∧ IAt w' a' (nbL x ys) ∧ Below X.heap.size X w') := fun X x hg => by
        rw [HK.out]
        exact near_any m a2 c2 ys x true (nbL x ys) X (by rw [← HK.out]; omega) hg.at_ ⟨fun _ => HR.out, fun _ => rfl⟩ (by rw [if_pos rfl])
      have CIN : Hid (∀ X (ra : Option Addr) (rc R : Nat) (L : List Int) (y : Int) (d : Bool), L.length = R → R ≤ 1000 → IAt X ra L → d = decide (y ∈ L) → Calls Try.prog 26 #[.slice ra R rc, .int .i64 y] X fun e w' => e = .returned (.bool d) ∧ w' = X) := fun X ra rc R L y d hL hR1 hI hd => by
        subst hL
        rw [hd]; exact in_any ra rc L y X (by omega) hI
      obtain ⟨r1, hr1⟩ := boolR_of (WholeL m ys A)
      have C5 := hid (CWH.out w3 a1 c1 M A r1 HM.out.symm (by omega) HS1.out.w HP3.out.gc HP3.out.ra hr1)
      obtain ⟨g0, g1⟩ := HP3.out.gc.cells
      clear HO
      go_wp2_with fail
      refine C5.out.mono ?_
      rintro e w5 ⟨rfl, hb5⟩
      have HP5 := hid (HP3.out.on hb5)
      clear hb5 C5 HP3 g0 g1
      cases r1 with
      | false =>
        have HBE := hid HP5.out.bel
        clear hr1
        go_wp2
        go_ret
        exact ⟨rfl, HBE.out⟩
      | true =>
        have HWA := hid (hr1.1 rfl)
        clear hr1
        go_wp2
        go_loopg [9] M (fun G i wz => ∃ k : Nat, k ≤ M ∧ M - k ≤ G ∧ i = .int .i64 k ∧ Hid (PSt w wz B m a2 K c2 ys a1 A qa Bs))
        case atStart => exact ⟨0, Nat.zero_le _, by omega, rfl, HP5⟩
        case round =>
          obtain ⟨k, hk, hG, rfl, hps⟩ := hrel
          by_cases hlt : k < M
          · have hka : k < A.length := by rw [← HM.out]; exact hlt
            obtain ⟨g, off, ha1, hgl, hcs⟩ := hps.out.ra (by omega)
            subst ha1
            have d0 := hcs k hka
            obtain ⟨x, hx⟩ := ex_eq A[k]
            rw [← hx] at d0
            have HXA : Hid (x ∈ A) := by show x ∈ A; rw [hx]; exact List.getElem_mem hka
            obtain ⟨g0, g1⟩ := hps.out.gc.cells
            have q1 : (k : Int) < (M : Int) := by omega
            have q2 : (0 : Int) ≤ (k : Int) := by omega
            have HPd := hid (hps.out.on (Below.refl _ _).drew)
            have hS : wr.drew.cell? ⟨B, 0, none⟩ = some (.int .i64 m) ∧ wr.drew.cell? ⟨B, 1, none⟩ = some (.slice a2 K c2) ∧ wr.drew.cell? ⟨g, off + k, none⟩ = some (.int .i64 x) := ⟨g0, g1, d0⟩
            have HKP : Hid (∀ X, Below wr.heap.size wr.drew X → X.cell? ⟨B, 0, none⟩ = some (.int .i64 m) ∧ X.cell? ⟨B, 1, none⟩ = some (.slice a2 K c2) ∧ X.cell? ⟨g, off + k, none⟩ = some (.int .i64 x)) := fun X h =>
              ⟨(h.cell (p := ⟨B, 0, none⟩) (block_lt_of_cell g0)).trans g0, (h.cell (p := ⟨B, 1, none⟩) (block_lt_of_cell g1)).trans g1, (h.cell (p := ⟨g, off + k, none⟩) (block_lt_of_cell d0)).trans d0⟩
            obtain ⟨L, hLL⟩ := ex_eq (nbL x ys)
            have HLL := hid hLL
            have hLlen : L.length ≤ 4000 := by rw [hLL]; exact Nat.le_trans (nbL_len _ _) HR.out.2.2.1
            have CQ : Hid (Calls Try.prog 31 #[.agg #[.int .i64 m, .slice a2 K c2], .int .i64 x] wr.drew fun e w' => ∃ a' cap', e = .returned (.slice a' L.length cap') ∧ IAt w' a' L ∧ Below wr.heap.size wr.drew w') := by
              show Calls _ _ _ _ _
              rw [hLL]; exact CNE.out wr.drew x HPd.out.gc
            clear hcs hx hps hLL
            go_wp2_with fail
            go_region_held3 (fun X => X.cell? ⟨B, 0, none⟩ = some (.int .i64 m) ∧ X.cell? ⟨B, 1, none⟩ = some (.slice a2 K c2) ∧ X.cell? ⟨g, off + k, none⟩ = some (.int .i64 x)) (first | exact hS | exact hS7)
              (first | (go_at_call 31; refine CQ.out.mono ?_; rintro e w7 ⟨a7, c7, rfl, hI7, hb7⟩; have hS7 := HKP.out w7 hb7))
            all_goals
              have HP7 := hid (HPd.out.on hb7)
              have HI7 := hid hI7
              obtain ⟨Q, hQ⟩ := ex_eq L.length
              have HQ := hid hQ
              rw [← hQ] at hLlen ⊢
              clear hQ hS hS7 hb7 hI7 HKP CQ g0 g1 d0 HPd
              go_wp2
              go_loopg [11] Q (fun G i wz => ∃ j : Nat, j ≤ Q ∧ Q - j ≤ G ∧ i = .int .i64 j ∧ Hid (PSt w wz B m a2 K c2 ys (some ⟨g, off, none⟩) A qa Bs) ∧ Hid (IAt wz a7 L))
              case atStart => exact ⟨0, Nat.zero_le _, by omega, rfl, HP7, HI7⟩
              case round =>
                obtain ⟨j, hj, hGj, rfl, hps, hil⟩ := hrel
                by_cases hjl : j < Q
                · have hjL : j < L.length := by rw [← HQ.out]; exact hjl
                  obtain ⟨g7, o7, ha7, hg7, hc7⟩ := hil.out (by omega)
                  subst ha7
                  have cy := hc7 j hjL
                  obtain ⟨y, hy⟩ := ex_eq L[j]
                  rw [← hy] at cy
                  have HADJ : Hid (Adj ys x y) := (nbL_right HR.out).1 (by rw [hy, ← HLL.out]; exact List.getElem_mem _)
                  obtain ⟨g0, g1⟩ := hps.out.gc.cells
                  have q3 : (j : Int) < (Q : Int) := by omega
                  have q4 : (0 : Int) ≤ (j : Int) := by omega
                  have HPd := hid (hps.out.on (Below.refl _ _).drew)
                  have HId := hid (hil.out.below (Below.refl _ _).drew)
                  have HIAd := hid HPd.out.ra
                  have HSS : Hid (∀ X, Below wr.heap.size wr.drew X → X.cell? ⟨B, 0, none⟩ = some (.int .i64 m) ∧ X.cell? ⟨B, 1, none⟩ = some (.slice a2 K c2) ∧ X.cell? ⟨g7, o7 + j, none⟩ = some (.int .i64 y)) := fun X h =>
                    ⟨(h.cell (p := ⟨B, 0, none⟩) (block_lt_of_cell g0)).trans g0, (h.cell (p := ⟨B, 1, none⟩) (block_lt_of_cell g1)).trans g1, (h.cell (p := ⟨g7, o7 + j, none⟩) (block_lt_of_cell cy)).trans cy⟩
                  have hS := HSS.out wr.drew (Below.refl _ _)
                  by_cases hya : y ∈ A
                  · have CI : Hid (∀ X, IAt X (some ⟨g, off, none⟩) A → Calls Try.prog 26 #[.slice (some ⟨g, off, none⟩) M c1, .int .i64 y] X fun e w' => e = .returned (.bool true) ∧ w' = X) := fun X h => CIN.out X _ c1 M A y true HM.out.symm (by omega) h (decide_eq_true hya).symm
                    clear hc7 hy hps hil hya g0 g1 cy
                    go_wp2_with fail
                    refine wp_region_held_drew (S := (fun X => X.cell? ⟨B, 0, none⟩ = some (.int .i64 m) ∧ X.cell? ⟨B, 1, none⟩ = some (.slice a2 K c2) ∧ X.cell? ⟨g7, o7 + j, none⟩ = some (.int .i64 y))) (by kernel_rfl) hS (fun hHeld => ?_)
                    (refine takeW (i := 0) (dst := some 53) (v := ?_) rfl rfl (by kernel_rfl) (by kernel_rfl) (by kernel_rfl) (fun _ _ _ h => h) (Or.inl ⟨by rfl, ?_⟩) hHeld ?_; rotate_left; focus (intro w hSw; (try dsimp only at hSw); go_simp; (try with_reducible rfl); done))
                    try simp only [Act.put, List.setIfInBounds_toArray, List.set_cons_zero, List.set_cons_succ]
                    (refine takeW (i := 1) (dst := some 54) (v := ?_) rfl rfl (by kernel_rfl) (by kernel_rfl) (by kernel_rfl) (fun _ _ _ h => h) (Or.inl ⟨by rfl, ?_⟩) hHeld ?_; rotate_left; focus (intro w hSw; (try dsimp only at hSw); go_simp; (try with_reducible rfl); done))
                    try simp only [Act.put, List.setIfInBounds_toArray, List.set_cons_zero, List.set_cons_succ]
                    (refine takeW (i := 2) (dst := some 55) (v := ?_) rfl rfl (by kernel_rfl) (by kernel_rfl) (by kernel_rfl) (fun _ _ _ h => h) (Or.inl ⟨by rfl, ?_⟩) hHeld ?_; rotate_left; focus (intro w hSw; (try dsimp only at hSw); go_simp; (try with_reducible rfl); done))
                    try simp only [Act.put, List.setIfInBounds_toArray, List.set_cons_zero, List.set_cons_succ]
                    (refine takeW (i := 3) (dst := some 56) (v := ?_) rfl rfl (by kernel_rfl) (by kernel_rfl) (by kernel_rfl) (fun _ _ _ h => h) (Or.inl ⟨by rfl, ?_⟩) hHeld ?_; rotate_left; focus (intro w hSw; (try dsimp only at hSw); go_simp; (try with_reducible rfl); done))
                    try simp only [Act.put, List.setIfInBounds_toArray, List.set_cons_zero, List.set_cons_succ]
                    (refine takeW (i := 4) (dst := some 57) (v := ?_) rfl rfl (by kernel_rfl) (by kernel_rfl) (by kernel_rfl) (fun _ _ _ h => h) (Or.inl ⟨by rfl, ?_⟩) hHeld ?_; rotate_left; focus (intro w hSw; (try dsimp only at hSw); go_simp; (try with_reducible rfl); done))
                    try simp only [Act.put, List.setIfInBounds_toArray, List.set_cons_zero, List.set_cons_succ]
                    refine wpAnyH_ready (rs := [5]) (by kernel_rfl) (by simp) ?_
                    refine AllReadyH.cons (o := _) rfl (fun KK hK => ?_) AllReadyH.nil
                    go_simp
                    refine (CI.out _ HIAd.out).mono ?_
                    rintro e y1 ⟨rfl, hy1⟩
                    subst hy1
                    refine hK.out _ _ hHeld (fun hHeld => ?_)
                    clear hK KK
                    try simp only [Act.put, List.setIfInBounds_toArray, List.set_cons_zero, List.set_cons_succ]
                    (refine takeW (i := 6) (dst := some 59) (v := ?_) rfl rfl (by kernel_rfl) (by kernel_rfl) (by kernel_rfl) (fun _ _ _ h => h) (Or.inl ⟨by rfl, ?_⟩) hHeld ?_; rotate_left; focus (intro w hSw; (try dsimp only at hSw); go_simp; (try with_reducible rfl); done))
                    try simp only [Act.put, List.setIfInBounds_toArray, List.set_cons_zero, List.set_cons_succ]
                    (refine takeW (i := 7) (dst := some 60) (v := ?_) rfl rfl (by kernel_rfl) (by kernel_rfl) (by kernel_rfl) (fun _ _ _ h => h) (Or.inl ⟨by rfl, ?_⟩) hHeld ?_; rotate_left; focus (intro w hSw; (try dsimp only at hSw); go_simp; (try with_reducible rfl); done))
                    try simp only [Act.put, List.setIfInBounds_toArray, List.set_cons_zero, List.set_cons_succ]
                    first | refine takeW (i := 8) (dst := some 61) (v := undef) rfl rfl (by kernel_rfl) (by kernel_rfl) (by kernel_rfl) (fun _ _ _ h => h) (Or.inr ⟨by rfl, rfl⟩) hHeld ?_ | (refine takeW (i := 8) (dst := some 61) (v := ?_) rfl rfl (by kernel_rfl) (by kernel_rfl) (by kernel_rfl) (fun _ _ _ h => h) (Or.inl ⟨by rfl, ?_⟩) hHeld ?_; rotate_left; focus (intro w hSw; (try dsimp only at hSw); go_simp; (try with_reducible rfl); done))
                    try simp only [Act.put, List.setIfInBounds_toArray, List.set_cons_zero, List.set_cons_succ]
                    first | refine takeW (i := 9) (dst := some 62) (v := undef) rfl rfl (by kernel_rfl) (by kernel_rfl) (by kernel_rfl) (fun _ _ _ h => h) (Or.inr ⟨by rfl, rfl⟩) hHeld ?_ | (refine takeW (i := 9) (dst := some 62) (v := ?_) rfl rfl (by kernel_rfl) (by kernel_rfl) (by kernel_rfl) (fun _ _ _ h => h) (Or.inl ⟨by rfl, ?_⟩) hHeld ?_; rotate_left; focus (intro w hSw; (try dsimp only at hSw); go_simp; (try with_reducible rfl); done))
                    try simp only [Act.put, List.setIfInBounds_toArray, List.set_cons_zero, List.set_cons_succ]
                    first | refine takeW (i := 10) (dst := some 63) (v := undef) rfl rfl (by kernel_rfl) (by kernel_rfl) (by kernel_rfl) (fun _ _ _ h => h) (Or.inr ⟨by rfl, rfl⟩) hHeld ?_ | (refine takeW (i := 10) (dst := some 63) (v := ?_) rfl rfl (by kernel_rfl) (by kernel_rfl) (by kernel_rfl) (fun _ _ _ h => h) (Or.inl ⟨by rfl, ?_⟩) hHeld ?_; rotate_left; focus (intro w hSw; (try dsimp only at hSw); go_simp; (try with_reducible rfl); done))
                    try simp only [Act.put, List.setIfInBounds_toArray, List.set_cons_zero, List.set_cons_succ]
                    first | refine takeW (i := 11) (dst := some 64) (v := undef) rfl rfl (by kernel_rfl) (by kernel_rfl) (by kernel_rfl) (fun _ _ _ h => h) (Or.inr ⟨by rfl, rfl⟩) hHeld ?_ | (refine takeW (i := 11) (dst := some 64) (v := ?_) rfl rfl (by kernel_rfl) (by kernel_rfl) (by kernel_rfl) (fun _ _ _ h => h) (Or.inl ⟨by rfl, ?_⟩) hHeld ?_; rotate_left; focus (intro w hSw; (try dsimp only at hSw); go_simp; (try with_reducible rfl); done))
                    try simp only [Act.put, List.setIfInBounds_toArray, List.set_cons_zero, List.set_cons_succ]
                    first | refine takeW (i := 12) (dst := some 65) (v := undef) rfl rfl (by kernel_rfl) (by kernel_rfl) (by kernel_rfl) (fun _ _ _ h => h) (Or.inr ⟨by rfl, rfl⟩) hHeld ?_ | (refine takeW (i := 12) (dst := some 65) (v := ?_) rfl rfl (by kernel_rfl) (by kernel_rfl) (by kernel_rfl) (fun _ _ _ h => h) (Or.inl ⟨by rfl, ?_⟩) hHeld ?_; rotate_left; focus (intro w hSw; (try dsimp only at hSw); go_simp; (try with_reducible rfl); done))
                    try simp only [Act.put, List.setIfInBounds_toArray, List.set_cons_zero, List.set_cons_succ]
                    first | refine takeW (i := 13) (dst := some 66) (v := undef) rfl rfl (by kernel_rfl) (by kernel_rfl) (by kernel_rfl) (fun _ _ _ h => h) (Or.inr ⟨by rfl, rfl⟩) hHeld ?_ | (refine takeW (i := 13) (dst := some 66) (v := ?_) rfl rfl (by kernel_rfl) (by kernel_rfl) (by kernel_rfl) (fun _ _ _ h => h) (Or.inl ⟨by rfl, ?_⟩) hHeld ?_; rotate_left; focus (intro w hSw; (try dsimp only at hSw); go_simp; (try with_reducible rfl); done))
                    try simp only [Act.put, List.setIfInBounds_toArray, List.set_cons_zero, List.set_cons_succ]
                    first | refine takeW (i := 14) (dst := some 67) (v := undef) rfl rfl (by kernel_rfl) (by kernel_rfl) (by kernel_rfl) (fun _ _ _ h => h) (Or.inr ⟨by rfl, rfl⟩) hHeld ?_ | (refine takeW (i := 14) (dst := some 67) (v := ?_) rfl rfl (by kernel_rfl) (by kernel_rfl) (by kernel_rfl) (fun _ _ _ h => h) (Or.inl ⟨by rfl, ?_⟩) hHeld ?_; rotate_left; focus (intro w hSw; (try dsimp only at hSw); go_simp; (try with_reducible rfl); done))
                    try simp only [Act.put, List.setIfInBounds_toArray, List.set_cons_zero, List.set_cons_succ]
                    first | refine takeW (i := 15) (dst := some 68) (v := undef) rfl rfl (by kernel_rfl) (by kernel_rfl) (by kernel_rfl) (fun _ _ _ h => h) (Or.inr ⟨by rfl, rfl⟩) hHeld ?_ | (refine takeW (i := 15) (dst := some 68) (v := ?_) rfl rfl (by kernel_rfl) (by kernel_rfl) (by kernel_rfl) (fun _ _ _ h => h) (Or.inl ⟨by rfl, ?_⟩) hHeld ?_; rotate_left; focus (intro w hSw; (try dsimp only at hSw); go_simp; (try with_reducible rfl); done))
                    try simp only [Act.put, List.setIfInBounds_toArray, List.set_cons_zero, List.set_cons_succ]
                    first | refine takeW (i := 16) (dst := some 69) (v := undef) rfl rfl (by kernel_rfl) (by kernel_rfl) (by kernel_rfl) (fun _ _ _ h => h) (Or.inr ⟨by rfl, rfl⟩) hHeld ?_ | (refine takeW (i := 16) (dst := some 69) (v := ?_) rfl rfl (by kernel_rfl) (by kernel_rfl) (by kernel_rfl) (fun _ _ _ h => h) (Or.inl ⟨by rfl, ?_⟩) hHeld ?_; rotate_left; focus (intro w hSw; (try dsimp only at hSw); go_simp; (try with_reducible rfl); done))
                    try simp only [Act.put, List.setIfInBounds_toArray, List.set_cons_zero, List.set_cons_succ]
                    first | refine takeW (i := 17) (dst := some 70) (v := undef) rfl rfl (by kernel_rfl) (by kernel_rfl) (by kernel_rfl) (fun _ _ _ h => h) (Or.inr ⟨by rfl, rfl⟩) hHeld ?_ | (refine takeW (i := 17) (dst := some 70) (v := ?_) rfl rfl (by kernel_rfl) (by kernel_rfl) (by kernel_rfl) (fun _ _ _ h => h) (Or.inl ⟨by rfl, ?_⟩) hHeld ?_; rotate_left; focus (intro w hSw; (try dsimp only at hSw); go_simp; (try with_reducible rfl); done))
                    try simp only [Act.put, List.setIfInBounds_toArray, List.set_cons_zero, List.set_cons_succ]
                    (refine takeW (i := 18) (dst := some 71) (v := ?_) rfl rfl (by kernel_rfl) (by kernel_rfl) (by kernel_rfl) (fun _ _ _ h => h) (Or.inl ⟨by rfl, ?_⟩) hHeld ?_; rotate_left; focus (intro w hSw; (try dsimp only at hSw); go_simp; (try with_reducible rfl); done))
                    try simp only [Act.put, List.setIfInBounds_toArray, List.set_cons_zero, List.set_cons_succ]
                    refine wpAnyH_done (by kernel_rfl) ?_ _
                    clear hHeld hS HSS CI
                    go_wp2
                    go_roundg (Q - (j + 1))
                    case measure => omega
                    case rel => exact ⟨j + 1, by omega, Nat.le_refl _, by go_num, HPd, HId⟩
                  · have CI : Hid (∀ X, IAt X (some ⟨g, off, none⟩) A → Calls Try.prog 26 #[.slice (some ⟨g, off, none⟩) M c1, .int .i64 y] X fun e w' => e = .returned (.bool false) ∧ w' = X) := fun X h => CIN.out X _ c1 M A y false HM.out.symm (by omega) h (decide_eq_false hya).symm
                    have HWY : Hid (WholeL m ys (y :: A)) := whole_cons HR.out HWA.out HXA.out HADJ.out hya
                    have HOW : Hid ((wr.drew.alloc (.cells #[.int .i64 y] 3)).ownsRow wr.heap.size 3 1 (.slice (some ⟨wr.heap.size, 0, none⟩) 1 1) 1 [.int .i64 y]) := own_oneI wr.drew y
                    have HNIL : Hid ((some ⟨g, off, none⟩ : Option Addr) = none → M = 0 ∧ c1 = 0) := fun h => by cases h
                    have HNW : Hid (∀ q, (some ⟨g, off, none⟩ : Option Addr) = some q → ∀ j u, (A.map (Value.int .i64))[j]? = some u → (wr.drew.alloc (.cells #[.int .i64 y] 3)).cell? (q.add j) = some u) := fun q hq j u hu' => by
                      cases hq
                      rw [List.getElem?_map] at hu'
                      have hjl : j < A.length := by
                        by_cases hh : j < A.length
                        · exact hh
                        · rw [List.getElem?_eq_none (by omega)] at hu'; cases hu'
                      rw [List.getElem?_eq_getElem hjl] at hu'
                      cases hu'
                      obtain ⟨g', off', hg', _, hc'⟩ := HIAd.out (by omega)
                      cases hg'
                      rw [add_at]
                      exact cell_alloc_old (hc' j hjl) _
                    have HON : Hid (∀ v ∈ A.map (Value.int .i64), v.oneCell' = true) := fun v hv => by obtain ⟨z, _, rfl⟩ := List.mem_map.1 hv; rfl
                    have HLN : Hid ((A.map (Value.int .i64)).length = M * 1) := by show _ = _; rw [List.length_map, HM.out, Nat.mul_one]
                    have H63 : Hid (1 + M ≤ maxLen) := by show 1 + M ≤ maxLen; unfold maxLen; omega
                    have HBS : Hid (wr.heap.size ≤ (wr.drew.alloc (.cells #[.int .i64 y] 3)).heap.size) := by show wr.heap.size ≤ _; simp
                    have HPUT : Hid (∀ v4 w4, w4.ownsRow wr.heap.size 3 1 v4 (1 + M) ([.int .i64 y] ++ A.map (Value.int .i64)) → (wr.drew.alloc (.cells #[.int .i64 y] 3)).grownBy w4 (Value.slice (some ⟨wr.heap.size, 0, none⟩) 1 1).ownBlock → ∃ a5 c5, v4 = .slice a5 (1 + M) c5 ∧ Slw a5 c5 (1 + M) ∧ IAt w4 a5 (y :: A) ∧ Below wr.heap.size wr.drew w4) := fun v4 w4 h1 h2 => by
                      have e1 : (y :: A).length = 1 + M := by rw [List.length_cons, ← HM.out]; omega
                      have h1' : w4.ownsRow wr.heap.size 3 1 v4 (y :: A).length ((y :: A).map (Value.int .i64)) := by rw [e1]; exact h1
                      obtain ⟨a3, c3, hv3, hsl3⟩ := sl_own h1'
                      obtain ⟨a3', c3', hv3', hI3⟩ := iat_own h1'
                      rw [hv3] at hv3'
                      simp only [Value.slice.injEq, true_and] at hv3'
                      obtain ⟨rfl, rfl⟩ := hv3'
                      rw [e1] at hv3 hsl3
                      exact ⟨a3, c3, hv3, hsl3.w, hI3, Below.grown (below_one wr.drew _) h2 (by simp) (fun j hj => (HOW.out.lt j hj).1)⟩
                    have CWW : Hid (∀ X a5 c5, Slw a5 c5 (1 + M) → IAt X a5 (y :: A) → Below wr.heap.size wr.drew X → Calls Try.prog 16 #[.agg #[.int .i64 m, .slice a2 K c2], .slice a5 (1 + M) c5] X fun e w' => e = .returned (.bool true) ∧ Below X.heap.size X w') := fun X a5 c5 hs hI hbX => CWH.out X a5 c5 (1 + M) (y :: A) true (by rw [List.length_cons, ← HM.out]; omega) (by omega) hs (HPd.out.gc.on hbX) hI ⟨fun _ => HWY.out, fun _ => rfl⟩
                    clear hc7 hy hps hil hya g0 g1 cy
                    go_wp2_with fail
                    refine wp_region_held_drew (S := (fun X => X.cell? ⟨B, 0, none⟩ = some (.int .i64 m) ∧ X.cell? ⟨B, 1, none⟩ = some (.slice a2 K c2) ∧ X.cell? ⟨g7, o7 + j, none⟩ = some (.int .i64 y))) (by kernel_rfl) hS (fun hHeld => ?_)
                    (refine takeW (i := 0) (dst := some 53) (v := ?_) rfl rfl (by kernel_rfl) (by kernel_rfl) (by kernel_rfl) (fun _ _ _ h => h) (Or.inl ⟨by rfl, ?_⟩) hHeld ?_; rotate_left; focus (intro w hSw; (try dsimp only at hSw); go_simp; (try with_reducible rfl); done))
                    try simp only [Act.put, List.setIfInBounds_toArray, List.set_cons_zero, List.set_cons_succ]
                    (refine takeW (i := 1) (dst := some 54) (v := ?_) rfl rfl (by kernel_rfl) (by kernel_rfl) (by kernel_rfl) (fun _ _ _ h => h) (Or.inl ⟨by rfl, ?_⟩) hHeld ?_; rotate_left; focus (intro w hSw; (try dsimp only at hSw); go_simp; (try with_reducible rfl); done))
                    try simp only [Act.put, List.setIfInBounds_toArray, List.set_cons_zero, List.set_cons_succ]
                    (refine takeW (i := 2) (dst := some 55) (v := ?_) rfl rfl (by kernel_rfl) (by kernel_rfl) (by kernel_rfl) (fun _ _ _ h => h) (Or.inl ⟨by rfl, ?_⟩) hHeld ?_; rotate_left; focus (intro w hSw; (try dsimp only at hSw); go_simp; (try with_reducible rfl); done))
                    try simp only [Act.put, List.setIfInBounds_toArray, List.set_cons_zero, List.set_cons_succ]
                    (refine takeW (i := 3) (dst := some 56) (v := ?_) rfl rfl (by kernel_rfl) (by kernel_rfl) (by kernel_rfl) (fun _ _ _ h => h) (Or.inl ⟨by rfl, ?_⟩) hHeld ?_; rotate_left; focus (intro w hSw; (try dsimp only at hSw); go_simp; (try with_reducible rfl); done))
                    try simp only [Act.put, List.setIfInBounds_toArray, List.set_cons_zero, List.set_cons_succ]
                    (refine takeW (i := 4) (dst := some 57) (v := ?_) rfl rfl (by kernel_rfl) (by kernel_rfl) (by kernel_rfl) (fun _ _ _ h => h) (Or.inl ⟨by rfl, ?_⟩) hHeld ?_; rotate_left; focus (intro w hSw; (try dsimp only at hSw); go_simp; (try with_reducible rfl); done))
                    try simp only [Act.put, List.setIfInBounds_toArray, List.set_cons_zero, List.set_cons_succ]
                    refine wpAnyH_ready (rs := [5]) (by kernel_rfl) (by simp) ?_
                    refine AllReadyH.cons (o := _) rfl (fun KK hK => ?_) AllReadyH.nil
                    go_simp
                    refine (CI.out _ HIAd.out).mono ?_
                    rintro e y1 ⟨rfl, hy1⟩
                    subst hy1
                    refine hK.out _ _ hHeld (fun hHeld => ?_)
                    clear hK KK
                    try simp only [Act.put, List.setIfInBounds_toArray, List.set_cons_zero, List.set_cons_succ]
                    (refine takeW (i := 6) (dst := some 59) (v := ?_) rfl rfl (by kernel_rfl) (by kernel_rfl) (by kernel_rfl) (fun _ _ _ h => h) (Or.inl ⟨by rfl, ?_⟩) hHeld ?_; rotate_left; focus (intro w hSw; (try dsimp only at hSw); go_simp; (try with_reducible rfl); done))
                    try simp only [Act.put, List.setIfInBounds_toArray, List.set_cons_zero, List.set_cons_succ]
                    (refine takeW (i := 7) (dst := some 60) (v := ?_) rfl rfl (by kernel_rfl) (by kernel_rfl) (by kernel_rfl) (fun _ _ _ h => h) (Or.inl ⟨by rfl, ?_⟩) hHeld ?_; rotate_left; focus (intro w hSw; (try dsimp only at hSw); go_simp; (try with_reducible rfl); done))
                    try simp only [Act.put, List.setIfInBounds_toArray, List.set_cons_zero, List.set_cons_succ]
                    first | refine takeW (i := 8) (dst := some 61) (v := undef) rfl rfl (by kernel_rfl) (by kernel_rfl) (by kernel_rfl) (fun _ _ _ h => h) (Or.inr ⟨by rfl, rfl⟩) hHeld ?_ | (refine takeW (i := 8) (dst := some 61) (v := ?_) rfl rfl (by kernel_rfl) (by kernel_rfl) (by kernel_rfl) (fun _ _ _ h => h) (Or.inl ⟨by rfl, ?_⟩) hHeld ?_; rotate_left; focus (intro w hSw; (try dsimp only at hSw); go_simp; (try with_reducible rfl); done))
                    try simp only [Act.put, List.setIfInBounds_toArray, List.set_cons_zero, List.set_cons_succ]
                    first | refine takeW (i := 9) (dst := some 62) (v := undef) rfl rfl (by kernel_rfl) (by kernel_rfl) (by kernel_rfl) (fun _ _ _ h => h) (Or.inr ⟨by rfl, rfl⟩) hHeld ?_ | (refine takeW (i := 9) (dst := some 62) (v := ?_) rfl rfl (by kernel_rfl) (by kernel_rfl) (by kernel_rfl) (fun _ _ _ h => h) (Or.inl ⟨by rfl, ?_⟩) hHeld ?_; rotate_left; focus (intro w hSw; (try dsimp only at hSw); go_simp; (try with_reducible rfl); done))
                    try simp only [Act.put, List.setIfInBounds_toArray, List.set_cons_zero, List.set_cons_succ]
                    first | refine takeW (i := 10) (dst := some 63) (v := undef) rfl rfl (by kernel_rfl) (by kernel_rfl) (by kernel_rfl) (fun _ _ _ h => h) (Or.inr ⟨by rfl, rfl⟩) hHeld ?_ | (refine takeW (i := 10) (dst := some 63) (v := ?_) rfl rfl (by kernel_rfl) (by kernel_rfl) (by kernel_rfl) (fun _ _ _ h => h) (Or.inl ⟨by rfl, ?_⟩) hHeld ?_; rotate_left; focus (intro w hSw; (try dsimp only at hSw); go_simp; (try with_reducible rfl); done))
                    try simp only [Act.put, List.setIfInBounds_toArray, List.set_cons_zero, List.set_cons_succ]
                    first | refine takeW (i := 11) (dst := some 64) (v := undef) rfl rfl (by kernel_rfl) (by kernel_rfl) (by kernel_rfl) (fun _ _ _ h => h) (Or.inr ⟨by rfl, rfl⟩) hHeld ?_ | (refine takeW (i := 11) (dst := some 64) (v := ?_) rfl rfl (by kernel_rfl) (by kernel_rfl) (by kernel_rfl) (fun _ _ _ h => h) (Or.inl ⟨by rfl, ?_⟩) hHeld ?_; rotate_left; focus (intro w hSw; (try dsimp only at hSw); go_simp; (try with_reducible rfl); done))
                    try simp only [Act.put, List.setIfInBounds_toArray, List.set_cons_zero, List.set_cons_succ]
                    first | refine takeW (i := 12) (dst := some 65) (v := undef) rfl rfl (by kernel_rfl) (by kernel_rfl) (by kernel_rfl) (fun _ _ _ h => h) (Or.inr ⟨by rfl, rfl⟩) hHeld ?_ | (refine takeW (i := 12) (dst := some 65) (v := ?_) rfl rfl (by kernel_rfl) (by kernel_rfl) (by kernel_rfl) (fun _ _ _ h => h) (Or.inl ⟨by rfl, ?_⟩) hHeld ?_; rotate_left; focus (intro w hSw; (try dsimp only at hSw); go_simp; (try with_reducible rfl); done))
                    try simp only [Act.put, List.setIfInBounds_toArray, List.set_cons_zero, List.set_cons_succ]
                    first | refine takeW (i := 14) (dst := some 67) (v := undef) rfl rfl (by kernel_rfl) (by kernel_rfl) (by kernel_rfl) (fun _ _ _ h => h) (Or.inr ⟨by rfl, rfl⟩) hHeld ?_ | (refine takeW (i := 14) (dst := some 67) (v := ?_) rfl rfl (by kernel_rfl) (by kernel_rfl) (by kernel_rfl) (fun _ _ _ h => h) (Or.inl ⟨by rfl, ?_⟩) hHeld ?_; rotate_left; focus (intro w hSw; (try dsimp only at hSw); go_simp; (try with_reducible rfl); done))
                    try simp only [Act.put, List.setIfInBounds_toArray, List.set_cons_zero, List.set_cons_succ]
                    refine wpAnyH_ready (rs := [13]) (by kernel_rfl) (by simp) ?_
                    refine AllReadyH.cons (o := _) rfl (fun KK hK => ?_) AllReadyH.nil
                    go_simp
                    refine hK.out _ _ (HSS.out (wr.drew.alloc (.cells #[.int .i64 y] 3)) (below_one wr.drew _)) (fun hHeld => ?_)
                    clear hK KK
                    try simp only [Act.put, List.setIfInBounds_toArray, List.set_cons_zero, List.set_cons_succ]
                    refine wpAnyH_ready (rs := [15]) (by kernel_rfl) (by simp) ?_
                    refine AllReadyH.cons (o := _) rfl (fun KK hK => ?_) AllReadyH.nil
                    rw [if_pos (by rfl)]
                    refine wp_append_any _ (.tmp 66) (.tmp 67) 25 rfl wr.heap.size 3 i0 _ 1 8 Try.underlying25 hi0 hz0 hz1 hz2 rfl (by decide) (.slice (some ⟨wr.heap.size, 0, none⟩) 1 1) 1 [.int .i64 y] (by simp [Act.eval]) HOW.out (some ⟨g, off, none⟩) M c1 (A.map (Value.int .i64)) (by simp [Act.eval]) HNIL.out HLN.out HNW.out HON.out H63.out (by omega) HBS.out ?_
                    intro v4 w4 hown4 hgrow4 _
                    obtain ⟨a5, c5, hv5, hs5, hI5, hb5⟩ := HPUT.out v4 w4 (by simpa using hown4) hgrow4
                    subst hv5
                    have HI5 := hid hI5
                    have HB5 := hid hb5
                    have CW := hid (CWW.out w4 a5 c5 hs5 hI5 hb5)
                    clear hown4 hgrow4 hs5 hI5
                    refine hK.out _ _ (HSS.out w4 hb5) (fun hHeld => ?_)
                    clear hK KK
                    try simp only [Act.put, List.setIfInBounds_toArray]
                    refine wpAnyH_ready (rs := [16]) (by kernel_rfl) (by simp) ?_
                    refine AllReadyH.cons (o := _) rfl (fun KK hK => ?_) AllReadyH.nil
                    go_simp
                    refine CW.out.mono ?_
                    rintro e y6 ⟨rfl, hb6⟩
                    have HB6 : Hid (Below wr.heap.size wr.drew y6) := HB5.out.trans (hb6.mono HB5.out.size)
                    clear hb6 CW
                    refine hK.out _ _ (HSS.out y6 HB6.out) (fun hHeld => ?_)
                    clear hK KK
                    try simp only [Act.put, List.setIfInBounds_toArray, List.set_cons_zero, List.set_cons_succ]
                    first | refine takeW (i := 17) (dst := some 70) (v := undef) rfl rfl (by kernel_rfl) (by kernel_rfl) (by kernel_rfl) (fun _ _ _ h => h) (Or.inr ⟨by rfl, rfl⟩) hHeld ?_ | (refine takeW (i := 17) (dst := some 70) (v := ?_) rfl rfl (by kernel_rfl) (by kernel_rfl) (by kernel_rfl) (fun _ _ _ h => h) (Or.inl ⟨by rfl, ?_⟩) hHeld ?_; rotate_left; focus (intro w hSw; (try dsimp only at hSw); go_simp; (try with_reducible rfl); done))
                    try simp only [Act.put, List.setIfInBounds_toArray, List.set_cons_zero, List.set_cons_succ]
                    (refine takeW (i := 18) (dst := some 71) (v := ?_) rfl rfl (by kernel_rfl) (by kernel_rfl) (by kernel_rfl) (fun _ _ _ h => h) (Or.inl ⟨by rfl, ?_⟩) hHeld ?_; rotate_left; focus (intro w hSw; (try dsimp only at hSw); go_simp; (try with_reducible rfl); done))
                    try simp only [Act.put, List.setIfInBounds_toArray, List.set_cons_zero, List.set_cons_succ]
                    refine wpAnyH_done (by kernel_rfl) ?_ _
                    have HPE := hid (HPd.out.on HB6.out)
                    have HIE := hid (HId.out.below HB6.out)
                    clear hHeld hS HSS CI HPd HId HIAd HOW HNIL HNW HON HLN H63 HBS HPUT CWW HB5 HB6 HI5
                    go_wp2
                    go_roundg (Q - (j + 1))
                    case measure => omega
                    case rel => exact ⟨j + 1, by omega, Nat.le_refl _, by go_num, HPE, HIE⟩
                · obtain rfl : j = Q := by omega
                  clear hil
                  go_wp2
                  go_roundg (M - (k + 1))
                  case measure => omega
                  case rel => exact ⟨k + 1, by omega, Nat.le_refl _, by go_num, hps⟩
          · obtain rfl : k = M := by omega
            have hA0 : 0 < A.length := List.length_pos_iff.2 HWA.out.ne
            obtain ⟨g, off, ha1, _, _⟩ := hps.out.ra hA0
            subst ha1
            obtain ⟨r2, hr2⟩ := boolR_of (WholeL m ys Bs)
            have C6 := hid (CWH.out wr qa qc M2 Bs r2 HM2.out.symm (by omega) HSQ.out hps.out.gc hps.out.rb hr2)
            obtain ⟨g0, g1⟩ := hps.out.gc.cells
            go_wp2_with fail
            refine C6.out.mono ?_
            rintro e w8 ⟨rfl, hb8⟩
            have HP8 := hid (hps.out.on hb8)
            clear hb8 C6 hps g0 g1 HP5
            cases r2 with
            | false =>
              have HBE := hid HP8.out.bel
              clear hr2
              go_wp2
              go_ret
              exact ⟨rfl, HBE.out⟩
            | true =>
              have HWB := hid (hr2.1 rfl)
              have HOW : Hid ((w8.alloc (.cells #[] 3)).ownsRow w8.heap.size 3 1 (.slice (some ⟨w8.heap.size, 0, none⟩) 0 0) 0 []) := own_emptyI _ rfl
              have HNW : Hid (∀ q, (some ⟨g, off, none⟩ : Option Addr) = some q → ∀ j u, (A.map (Value.int .i64))[j]? = some u → (w8.alloc (.cells #[] 3)).cell? (q.add j) = some u) := fun q hq j u hu' => by
                cases hq
                rw [List.getElem?_map] at hu'
                have hjl : j < A.length := by
                  by_cases hh : j < A.length
                  · exact hh
                  · rw [List.getElem?_eq_none (by omega)] at hu'; cases hu'
                rw [List.getElem?_eq_getElem hjl] at hu'
                cases hu'
                obtain ⟨g', off', hg', _, hc'⟩ := HP8.out.ra (by omega)
                cases hg'
                rw [add_at]
                exact cell_alloc_old (hc' j hjl) _
              have HON : Hid (∀ v ∈ A.map (Value.int .i64), v.oneCell' = true) := fun v hv => by obtain ⟨z, _, rfl⟩ := List.mem_map.1 hv; rfl
              have HLN : Hid ((A.map (Value.int .i64)).length = k * 1) := by show _ = _; rw [List.length_map, HM.out, Nat.mul_one]
              have H63 : Hid (0 + k ≤ maxLen) := by show 0 + k ≤ maxLen; unfold maxLen; omega
              have HBS : Hid (w8.heap.size ≤ (w8.alloc (.cells #[] 3)).heap.size) := by show _ ≤ _; simp
              clear hr2
              go_wp2_with (at_builtin; refine wpList_append_any _ rfl _ _ 25 rfl w8.heap.size 3 i0 _ 1 8 Try.underlying25 hi0 hz0 hz1 hz2 rfl (by decide) _ _ _ rfl HOW.out (some ⟨g, off, none⟩) k c1 (A.map (Value.int .i64)) rfl (fun h => by cases h) HLN.out HNW.out HON.out H63.out ?c4 HBS.out ?_)
              case c4 => omega
              intro v9 w9 hown9 hgrow9 _
              have hb9 : Below w8.heap.size w8 w9 := Below.grown (below_one _ _) hgrow9 (by simp) (fun j hj => (HOW.out.lt j hj).1)
              have HB9 : Hid (Below w8.heap.size w8 w9) := hb9
              have HOW9 : Hid (w9.ownsRow w8.heap.size 3 1 v9 (bothL A (Bs.take 0)).length ((bothL A (Bs.take 0)).map (Value.int .i64))) := by
                have e1 : bothL A (Bs.take 0) = A := by unfold bothL; simp
                show World.ownsRow _ _ _ _ _ _ _
                rw [e1, ← HM.out]; simpa using hown9
              clear hown9 hgrow9 hb9 HOW HNW HON HLN H63 HBS
              go_wp2
              go_loopg [12, 13, 14] M2 (fun G mt v i wz => ∃ (t : Nat) (o : Bool), t ≤ M2 ∧ M2 - t ≤ G ∧ mt = .bool o ∧ i = .int .i64 t ∧ Hid (MeetIs A Bs t o) ∧ Hid (wz.ownsRow w8.heap.size 3 1 v (bothL A (Bs.take t)).length ((bothL A (Bs.take t)).map (Value.int .i64))) ∧ Hid (Below w8.heap.size w8 wz))
              case atStart => exact ⟨0, false, Nat.zero_le _, by omega, rfl, rfl, ⟨fun h => (by cases h), fun ⟨z, h, _⟩ => by simp at h⟩, HOW9, HB9⟩
              case round =>
                obtain ⟨t, o, ht, hGt, rfl, rfl, ho, hown, hbz⟩ := hrel
                have HPz := hid (HP8.out.on hbz.out)
                by_cases htl : t < M2
                · have htb : t < Bs.length := by rw [← HM2.out]; exact htl
                  obtain ⟨gb, ob, hqa', _, hcb⟩ := HPz.out.rb (by omega)
                  subst hqa'
                  have d0 := hcb t htb
                  obtain ⟨y, hy⟩ := ex_eq Bs[t]
                  rw [← hy] at d0
                  have HY := hid hy
                  have q1 : (t : Int) < (M2 : Int) := by omega
                  have q2 : (0 : Int) ≤ (t : Int) := by omega
                  have hblen : (bothL A (Bs.take t)).length ≤ 40 := by
                    have := both_len A (Bs.take t)
                    rw [List.length_take, ← HM.out, ← HM2.out] at this
                    omega
                  obtain ⟨R, hRl⟩ := ex_eq (bothL A (Bs.take t)).length
                  have HRl := hid hRl
                  rw [← hRl] at hblen
                  have HTK : Hid ((∃ z ∈ Bs.take (t + 1), z ∈ A) ↔ ((∃ z ∈ Bs.take t, z ∈ A) ∨ y ∈ A)) := by
                    rw [List.take_succ_eq_append_getElem htb, ← hy]
                    constructor
                    · rintro ⟨z, hz, h⟩
                      rcases List.mem_append.1 hz with e | e
                      · exact Or.inl ⟨z, e, h⟩
                      · simp at e; subst e; exact Or.inr h
                    · rintro (⟨z, hz, h⟩ | h)
                      · exact ⟨z, List.mem_append_left _ hz, h⟩
                      · exact ⟨y, by simp, h⟩
                  by_cases hya : y ∈ A
                  · have CI := hid (CIN.out wr (some ⟨g, off, none⟩) c1 k A y true HM.out.symm (by omega) HPz.out.ra (decide_eq_true hya).symm)
                    have HNXD : Hid (MeetIs A Bs (t + 1) true) := ⟨fun _ => HTK.out.2 (Or.inr hya), fun _ => rfl⟩
                    have HOX : Hid (wr.ownsRow w8.heap.size 3 1 u13 (bothL A (Bs.take (t + 1))).length ((bothL A (Bs.take (t + 1))).map (Value.int .i64))) := by
                      show World.ownsRow _ _ _ _ _ _ _
                      rw [both_yes htb (by rw [← HY.out]; exact hya)]; exact hown.out
                    clear hcb hy hya ho hown hRl
                    cases o with
                    | true =>
                      go_wp2_with fail
                      refine CI.out.mono ?_
                      rintro e w10 ⟨rfl, hw10⟩
                      rw [hw10]
                      go_wp2
                      go_roundg (M2 - (t + 1))
                      case measure => omega
                      case rel => exact ⟨t + 1, true, by omega, Nat.le_refl _, rfl, by go_num, HNXD, HOX, hbz⟩
                    | false =>
                      go_wp2_with fail
                      refine CI.out.mono ?_
                      rintro e w10 ⟨rfl, hw10⟩
                      rw [hw10]
                      clear hw10
                      go_wp2_with fail
                      refine CI.out.mono ?_
                      rintro e w10 ⟨rfl, hw10⟩
                      rw [hw10]
                      go_wp2
                      go_roundg (M2 - (t + 1))
                      case measure => omega
                      case rel => exact ⟨t + 1, true, by omega, Nat.le_refl _, rfl, by go_num, HNXD, HOX, hbz⟩
                  · have CI := hid (CIN.out wr (some ⟨g, off, none⟩) c1 k A y false HM.out.symm (by omega) HPz.out.ra (decide_eq_false hya).symm)
                    have HNX : Hid (MeetIs A Bs (t + 1) o) := by
                      have h := ho.out
                      unfold MeetIs at h ⊢
                      show o = true ↔ _
                      rw [HTK.out, h]
                      exact ⟨Or.inl, fun h => h.elim id (fun h => absurd h hya)⟩
                    obtain ⟨X, hX⟩ := ex_eq (bothL A (Bs.take t))
                    have HX := hid hX
                    have HOW : Hid ((wr.alloc (.cells #[.int .i64 y] 3)).ownsRow w8.heap.size 3 1 u13 R (X.map (Value.int .i64))) := by
                      show World.ownsRow _ _ _ _ _ _ _
                      rw [hX, hRl]; exact hown.out.alloc _
                    have HNW : Hid (∀ p, some (⟨wr.heap.size, 0, none⟩ : Addr) = some p → ∀ j u, [Value.int .i64 y][j]? = some u → (wr.alloc (.cells #[.int .i64 y] 3)).cell? (p.add j) = some u) := news_one _
                    have HON : Hid (∀ v' ∈ [Value.int .i64 y], v'.oneCell' = true) := fun v' hv => by simp at hv; rw [hv]; rfl
                    have H63 : Hid (R + 1 ≤ maxLen) := by show R + 1 ≤ maxLen; unfold maxLen; omega
                    have HBS : Hid (w8.heap.size ≤ (wr.alloc (.cells #[.int .i64 y] 3)).heap.size) := by
                      have := hbz.out.size
                      show w8.heap.size ≤ _; simp; omega
                    have HPUT : Hid (∀ v4 w4, w4.ownsRow w8.heap.size 3 1 v4 (R + 1) (X.map (Value.int .i64) ++ [.int .i64 y]) → (wr.alloc (.cells #[.int .i64 y] 3)).grownBy w4 u13.ownBlock → w4.ownsRow w8.heap.size 3 1 v4 (bothL A (Bs.take (t + 1))).length ((bothL A (Bs.take (t + 1))).map (Value.int .i64)) ∧ Below w8.heap.size w8 w4) := fun v4 w4 h1 h2 => by
                      refine ⟨?_, Below.grown (hbz.out.alloc hbz.out.size _) h2 HBS.out (fun j hj => (hown.out.lt j hj).1)⟩
                      rw [both_no htb (by rw [← HY.out]; exact hya), ← HY.out, ← HX.out, List.length_append, List.map_append, HX.out, ← HRl.out, ← HX.out]
                      exact h1
                    clear hcb hy hya ho hown hRl hX
                    cases o with
                    | true =>
                      go_wp2_with fail
                      refine CI.out.mono ?_
                      rintro e w10 ⟨rfl, hw10⟩
                      rw [hw10]
                      clear hw10
                      go_wp2_with (at_builtin; refine wpList_append_any _ rfl _ _ 25 rfl w8.heap.size 3 i0 _ 1 8 Try.underlying25 hi0 hz0 hz1 hz2 rfl (by decide) _ _ _ rfl HOW.out (some ⟨wr.heap.size, 0, none⟩) 1 1 [.int .i64 y] rfl (fun h => by cases h) rfl HNW.out HON.out H63.out ?c4 HBS.out ?_)
                      case c4 => omega
                      intro v4 w4 hown4 hgrow4 _
                      obtain ⟨h1, h2⟩ := HPUT.out v4 w4 hown4 hgrow4
                      have HO4 := hid h1
                      have HB4 := hid h2
                      clear hown4 hgrow4 h1 h2 HPUT HBS HON HNW HOW d0 CI HPz
                      go_wp2
                      go_roundg (M2 - (t + 1))
                      case measure => omega
                      case rel => exact ⟨t + 1, true, by omega, Nat.le_refl _, rfl, by go_num, HNX, HO4, HB4⟩
                    | false =>
                      go_wp2_with fail
                      refine CI.out.mono ?_
                      rintro e w10 ⟨rfl, hw10⟩
                      rw [hw10]
                      clear hw10
                      go_wp2_with fail
                      refine CI.out.mono ?_
                      rintro e w10 ⟨rfl, hw10⟩
                      rw [hw10]
                      clear hw10
                      go_wp2_with (at_builtin; refine wpList_append_any _ rfl _ _ 25 rfl w8.heap.size 3 i0 _ 1 8 Try.underlying25 hi0 hz0 hz1 hz2 rfl (by decide) _ _ _ rfl HOW.out (some ⟨wr.heap.size, 0, none⟩) 1 1 [.int .i64 y] rfl (fun h => by cases h) rfl HNW.out HON.out H63.out ?c4 HBS.out ?_)
                      case c4 => omega
                      intro v4 w4 hown4 hgrow4 _
                      obtain ⟨h1, h2⟩ := HPUT.out v4 w4 hown4 hgrow4
                      have HO4 := hid h1
                      have HB4 := hid h2
                      clear hown4 hgrow4 h1 h2 HPUT HBS HON HNW HOW d0 CI HPz
                      go_wp2
                      go_roundg (M2 - (t + 1))
                      case measure => omega
                      case rel => exact ⟨t + 1, false, by omega, Nat.le_refl _, rfl, by go_num, HNX, HO4, HB4⟩
                · obtain rfl : t = M2 := by omega
                  have htk : Bs.take t = Bs := List.take_of_length_le (by rw [← HM2.out]; exact Nat.le_refl _)
                  rw [htk] at hown
                  have ho' : o = true ↔ ∃ z ∈ Bs, z ∈ A := by have h := ho.out; unfold MeetIs at h; rw [htk] at h; exact h
                  obtain ⟨g0, g1⟩ := HPz.out.gc.cells
                  cases o with
                  | false =>
                    have HBE := hid HPz.out.bel
                    clear ho ho' hown
                    go_wp2
                    go_ret
                    exact ⟨rfl, HBE.out⟩
                  | true =>
                    obtain ⟨z, hz1', hz2'⟩ := ho'.1 rfl
                    have hW := whole_both HWA.out HWB.out hz2' hz1'
                    obtain ⟨a5, c5, hv5, hs5⟩ := sl_own hown.out
                    obtain ⟨a5', c5', hv5', hI5⟩ := iat_own hown.out
                    rw [hv5] at hv5'
                    simp only [Value.slice.injEq, true_and] at hv5'
                    obtain ⟨rfl, rfl⟩ := hv5'
                    have hbl := both_len A Bs
                    rw [← HM.out, ← HM2.out] at hbl
                    obtain ⟨R, hRl⟩ := ex_eq (bothL A Bs).length
                    rw [← hRl] at hv5 hs5 hbl
                    subst hv5
                    have CF := hid (CWH.out wr a5 c5 R (bothL A Bs) true hRl.symm (by omega) hs5.w HPz.out.gc hI5 ⟨fun _ => hW, fun _ => rfl⟩)
                    have HBE := hid HPz.out.bel
                    clear ho ho' hown hz1' hz2' hW hs5 hI5 hRl
                    go_wp2_with fail
                    refine CF.out.mono ?_
                    rintro e w11 ⟨rfl, hb11⟩
                    have HBF : Hid (Below w.heap.size w w11) := HBE.out.trans (hb11.mono HBE.out.size)
                    clear hb11 CF
                    go_wp2
                    go_ret
                    exact ⟨rfl, HBF.out⟩
end Go.Proofs.Ytccbheijfnodjaa
