/-
  How low one comes: the program's closure keeps its contract (layer 7).
  The program's blocks that some edges make (layer 7).
-/
import Derived.Test.YtplhpinaadgkkaaB17
import Derived.Lib.Walk
import Derived.ArgAppend
import Derived.Laws.EntriesVeiled
namespace Go.Proofs.Ytplhpinaadgkkaa
open Go.RowKit Go.Lib

theorem Try.infoRow28 : (Try.prog.info? 28).map (fun i => (i.zero, i.size, i.bytes)) = some (some (.slice none 0 0), 1, 24) := by kernel_rfl

set_option maxHeartbeats 4000000 in
set_option maxRecDepth 100000 in
theorem low_any {W0 : World} {nr bl gn nm ct go lw D gw m : Nat} {es : List (Int × Int)} (hR : RightG m es) : ∀ (k : Nat) (s : Dst) (v : Nat) (w : World), (∃ gv uv us, DMem w W0 nr bl gn nm ct go lw D gw m es s gv uv us) → DSz m s → v < m → s.num v = 0 → unv m s.num ≤ k →
    Calls Try.prog 55 #[.int .i64 v, .pointer (some ⟨ct, 0, none⟩), .pointer (some ⟨nm, 0, none⟩), .pointer (some ⟨go, 0, none⟩), .pointer (some ⟨nr, 0, none⟩), .pointer (some ⟨lw, 0, none⟩), .pointer (some ⟨bl, 0, none⟩)] w fun e w' =>
      e = .returned (.int .i64 (lowF (fun v => nbL (v : Int) es) k s v).2) ∧ ∃ gv uv us, DMem w' W0 nr bl gn nm ct go lw D gw m es (lowF (fun v => nbL (v : Int) es) k s v).1 gv uv us := by
  intro k
  induction k with
  | zero => intro s v w _ _ hv h0 hk; have := unv_pos hv h0; omega
  | succ k ih =>
    intro s v w hM hs hv h0 hk
    obtain ⟨gv, uv, us, hM⟩ := hM
    have hm : m ≤ 1000 := by have := hR.2.1; omega
    have hin : ∀ (v : Nat) x, x ∈ nbL (v : Int) es → 0 ≤ x ∧ x < m := fun v x hx => ((nb_adj hR).1 hx |>.in hR).2.1
    have hgr := low_gr (nb := fun v => nbL (v : Int) es) hin k
    obtain ⟨Lo, hLo⟩ := ex_eq (fun t : Nat => ((nbL (v : Int) es).take t).foldl (lowStep (lowF (fun v => nbL (v : Int) es) k) v) (s.enter v, (s.cnt : Int) + 1))
    have HGR : Hid (∀ t, DGr m s (Lo t).1 1) := fun t => by
      rw [hLo]
      exact fold_gr hs hk hgr _ _ (fun x hx => hin v x (List.mem_of_mem_take hx)) (start_gr hs hv h0)
    have HL0 : Hid (Lo 0 = (s.enter v, (s.cnt : Int) + 1)) := by show _ = _; rw [hLo]; rfl
    have HLS : Hid (∀ t (h : t < (nbL (v : Int) es).length), Lo (t + 1) = lowStep (lowF (fun v => nbL (v : Int) es) k) v (Lo t) (nbL (v : Int) es)[t]) := fun t h => by
      rw [hLo]
      simp only
      rw [← List.take_append_getElem h, List.foldl_append]
      rfl
    have HLE : Hid (lowF (fun v => nbL (v : Int) es) (k + 1) s v = Lo (nbL (v : Int) es).length) := by
      show _ = _
      rw [hLo]
      simp only [List.take_length]
      rfl
    obtain ⟨c, hc⟩ := ex_eq s.cnt
    have hc1 : c ≤ 1000 := by have := hs.sum; omega
    have HIH := hid ih
    have HUN := hid hk
    have HSZ := hid hs
    have HIN := hid hin
    have HGRR := hid hgr
    have hM1 := hM.count (c + 1)
    have hM2 := hM1.number hv ((c + 1 : Nat) : Int)
    have hM0 := hid hM
    have q0 : IntKind.i64.wrap ((c : Int) + 1) = (c : Int) + 1 := by simp [IntKind.wrap, IntKind.bits, IntKind.signed]; omega
    have q1 : (v : Int) < (m : Int) := by omega
    have ecc : ((c + 1 : Nat) : Int) = (c : Int) + 1 := by omega
    rw [ecc] at hM1 hM2
    obtain ⟨W1, hW1⟩ := ex_eq (w.setCell ⟨ct, 0, none⟩ (.int .i64 ((c : Int) + 1)))
    obtain ⟨W2, hW2⟩ := ex_eq (W1.setCell ⟨gn, v, none⟩ (.int .i64 ((c : Int) + 1)))
    rw [← hW1] at hM1 hM2
    rw [← hW2] at hM2
    have HW1 := hid hW1
    have HW2 := hid hW2
    have HM1 := hid hM1
    have HM2 := hid hM2
    have HC := hid hc
    obtain ⟨i0, hi0, hz0, hz1, hz2⟩ := info_parts Try.info3
    obtain ⟨a0, f0⟩ := hM.cct
    rw [← hc] at a0
    have hz : 0 < w.heap.size := by have := hM.size; omega
    clear hW1 hW2 hc ih hk hs hin hgr hM hM1 hM2 hLo
    go_enter Try.func55, Try.ntmps55
    go_upto_region 2 with fail
    rw [← HW1.out]
    clear HW1 a0 f0
    have b1 := HM1.out.cnm
    have b2 : W1.cell? ⟨ct, 0, none⟩ = some (.int .i64 ((c : Int) + 1)) := by rw [← ecc]; exact HM1.out.cct.1
    obtain ⟨b3, b4⟩ := HM1.out.num.2 v hv
    go_upto_region 3 with fail
    rw [← HW2.out]
    clear HW2 b1 b2 b3 b4 HM1
    obtain ⟨b1, b2⟩ := HM2.out.cgo
    have hown2 := HM2.out.gone
    obtain ⟨n0, hn0⟩ := ex_eq s.gone.length
    obtain ⟨xs0, hxs0⟩ := ex_eq (s.gone.map (Value.int .i64))
    have hn0l : n0 ≤ 1000 := by have := HSZ.out.gone; have := HSZ.out.sum; omega
    have HPU := hid (fun (w4 : World) (v' : Value) => HM2.out.push (wa := W2.alloc (.cells #[.int .i64 v] 3)) (w4 := w4) (v' := v') (x := (v : Int)) ((Below.refl _ _).alloc (Nat.le_refl _) _))
    simp only at hown2 HPU
    rw [← hn0, ← hxs0] at hown2 HPU
    have hD2 : D ≤ W2.heap.size := HM2.out.sz
    clear hn0 hxs0
    go_upto_region 4 with (at_builtin; refine wpList_append_any _ rfl _ _ 28 rfl D 3 i0 _ 1 8 Try.underlying28 hi0 hz0 hz1 hz2 rfl (by decide) gv n0 xs0 rfl (hown2.alloc _) (some ⟨W2.heap.size, 0, none⟩) 1 1 [.int .i64 v] rfl (fun h => by cases h) rfl (fun pp hpp => by cases hpp; exact cells_one (heap_alloc_new _ _)) (fun u hu => by simp at hu; rw [hu]; rfl) (by unfold maxLen; omega) (by omega) (by simp; omega) ?_; intro v' w4 hown4 hgrow4 hat4; obtain ⟨va, vc, rfl, _⟩ := sl_own hown4; obtain ⟨⟨c4, f4⟩, hM4⟩ := HPU.out w4 _ hown4 hgrow4 hat4)
    obtain ⟨W5, hW5⟩ := ex_eq (w4.setCell ⟨go, 0, none⟩ (.slice va (n0 + 1) vc))
    rw [← hW5] at hM4
    have HW5 := hid hW5
    have eE : (⟨fun i => if i = v then (c : Int) + 1 else s.num i, c + 1, s.gone ++ [(v : Int)], s.blk⟩ : Dst) = s.enter v := by rw [HC.out]; rfl
    rw [eE] at hM4
    have HM5 : Hid (∃ gv uv us, DMem W5 W0 nr bl gn nm ct go lw D gw m es (Lo 0).1 gv uv us) := by
      show ∃ gv uv us, _
      rw [HL0.out]
      exact ⟨_, _, _, hM4⟩
    have d1 : W5.cell? ⟨ct, 0, none⟩ = some (.int .i64 ((c : Int) + 1)) := by
      have h := hM4.cct.1
      have e2 : (((s.enter v).cnt : Nat) : Int) = (c : Int) + 1 := by rw [HC.out]; show ((s.cnt + 1 : Nat) : Int) = _; omega
      rw [e2] at h
      exact h
    have d2 := hM4.cnr
    have hbel := hM4.bel
    have HNE := hid hM4.near
    obtain ⟨aj, cj, d3, hI, hsl⟩ := (hM4.near.below hbel).2 v hv
    obtain ⟨L, hL⟩ := ex_eq (nbL (v : Int) es).length
    rw [← hL] at d3
    have HL := hid hL
    have hL8 : L ≤ 8000 := by
      have h1 := nb_len (v : Int) es
      have h2 := hR.2.2.1
      omega
    have hI0 := hM4.near
    have HI0 : Hid (∀ X, Below W0.heap.size W0 X → IAt X aj (nbL (v : Int) es)) := fun X hX => by
      obtain ⟨aj', cj', e3, hI', _⟩ := hI0.2 v hv
      have e4 := (hbel.cell (p := ⟨gw, v, none⟩) hI0.1).trans e3
      rw [d3] at e4
      simp only [Option.some.injEq, Value.slice.injEq] at e4
      obtain ⟨rfl, _, rfl⟩ := e4
      exact hI'.below hX
    clear hW5 hM4 hL hI hsl hI0 hown4 hgrow4 hat4 c4 f4 b1 b2 hown2 HPU HM2 eE
    rw [← HW5.out]
    clear HW5
    go_wp2
    clear d1 d2 d3
    go_loopw [9, 31] (fun b i wz => ∃ t : Nat, t ≤ L ∧ i = .int .i64 t ∧ Hid (b = .int .i64 (Lo t).2) ∧ Hid (∃ gv uv us, DMem wz W0 nr bl gn nm ct go lw D gw m es (Lo t).1 gv uv us)) (fun _ i _ => L - (RowKit.intOf i).toNat)
    case atStart => exact ⟨0, Nat.zero_le _, rfl, (by show _ = _; rw [HL0.out, HC.out]), HM5.out⟩
    case round =>
      obtain ⟨t, ht, rfl, hbt, hmt⟩ := hrel
      obtain ⟨T, hT⟩ := ex_eq (Lo t).1
      obtain ⟨r, hr⟩ := ex_eq (Lo t).2
      rw [← hr] at hbt
      rw [← hT] at hmt
      have hbt := hbt.out
      subst hbt
      have hgrt := HGR.out t
      rw [← hT] at hgrt
      by_cases hlt : t < L
      · have htl : t < (nbL (v : Int) es).length := by rw [← HL.out]; exact hlt
        have hx := HIN.out v _ (List.getElem_mem htl)
        obtain ⟨x, hxe⟩ : ∃ x : Nat, (nbL (v : Int) es)[t] = (x : Int) := ⟨((nbL (v : Int) es)[t]).toNat, by omega⟩
        rw [hxe] at hx
        have hxm : x < m := by omega
        obtain ⟨gv1, uv1, us1, hD⟩ := hmt.out
        have hst : Lo (t + 1) = lowStep (lowF (fun v => nbL (v : Int) es) k) v (T, r) (x : Int) := by rw [HLS.out t htl, hxe, hT, hr]
        unfold lowStep at hst
        simp only [Int.toNat_natCast] at hst
        obtain ⟨gj, oj, rfl, hgj, hcs⟩ := HI0.out wr hD.bel (by omega)
        have e0 := hcs t htl
        rw [hxe] at e0
        obtain ⟨e1, _⟩ := hD.num.2 x hxm
        have e2 := hD.cnm
        have p1 : (x : Int) < (m : Int) := by omega
        have p2 : (t : Int) < (L : Int) := by omega
        clear hcs hxe hx htl hT hr
        by_cases hvis : 0 < T.num x
        · rw [if_pos hvis] at hst
          obtain ⟨y, hy⟩ := ex_eq (T.num x)
          rw [← hy] at e1 hvis hst
          have HN : Hid (∃ gv uv us, DMem wr W0 nr bl gn nm ct go lw D gw m es (Lo (t + 1)).1 gv uv us) := by
            show ∃ gv uv us, _
            rw [hst]
            exact ⟨_, _, _, hD⟩
          have HB : Hid (Value.int .i64 (min r y) = .int .i64 (Lo (t + 1)).2) := by
            show _ = _
            rw [hst]
          clear hst hy hD hmt hgrt
          go_wp2
          go_roundw
          case rel => exact ⟨t + 1, by omega, by go_num, HB, HN⟩
          case measure => simp [RowKit.intOf]; omega
        · rw [if_neg hvis] at hst
          have hTx : T.num x = 0 := by have := hgrt.sz.pos x; omega
          have hkT : unv m T.num ≤ k := by have := hgrt.unv; have := HUN.out; omega
          have hg2 := HGRR.out T x hgrt.sz hxm hTx hkT
          have C := hid (HIH.out T x wr hmt.out hgrt.sz hxm hTx hkT)
          obtain ⟨R, hRR⟩ := ex_eq (lowF (fun v => nbL (v : Int) es) k T x)
          rw [← hRR] at C hg2 hst
          obtain ⟨T2, hT2⟩ := ex_eq R.1
          obtain ⟨r2, hr2⟩ := ex_eq R.2
          rw [← hT2] at C hg2 hst
          rw [← hr2] at C hst
          rw [hTx] at e1
          have hglen : 0 < T.gone.length := by
            obtain ⟨Z, z1, _, z3⟩ := hgrt.gone
            rw [z1, List.length_append]; omega
          obtain ⟨g1, c1, rfl, hg1D, hg1l, hc1c, _⟩ := own_row hD.gone hglen
          obtain ⟨nT, hnT⟩ := ex_eq T.gone.length
          have e3 := hD.cgo.1
          rw [← hnT] at e3 hst
          have e4 := hD.clw
          have HHT : Hid (nT < T2.gone.length ∧ T2.gone.length ≤ 1000 ∧ T2.blk.length ≤ 1000) := by
            obtain ⟨Z, z1, _, z3⟩ := hg2.gone
            have z4 := hg2.sz.gone
            have z5 := hg2.sz.sum
            have z6 := hg2.sz.blk
            refine ⟨?_, by omega, by omega⟩
            rw [z1, List.length_append, hnT]; omega
          have HST := hid hst
          clear hgrt hmt hvis hD hRR hT2 hr2 hst hTx hkT hg2 hglen hnT HGR HL0 HLS HLE hlt
          go_wp2_with fail
          refine C.out.mono ?_
          rintro e w2 ⟨rfl, gv2, uv2, us2, hD2⟩
          clear e0 e1 e2 e3 e4 C
          have e5 := hD2.cnm
          obtain ⟨e6, _⟩ := hD2.num.2 v hv
          obtain ⟨y2, hy2⟩ := ex_eq (T2.num v)
          rw [← hy2] at e6
          have hst := HST.out
          rw [← hy2] at hst
          by_cases hcut : r2 < y2
          · rw [if_pos hcut] at hst
            have HN : Hid (∃ gv uv us, DMem w2 W0 nr bl gn nm ct go lw D gw m es (Lo (t + 1)).1 gv uv us) := by
              show ∃ gv uv us, _
              rw [hst]
              exact ⟨_, _, _, hD2⟩
            have HB : Hid (Value.int .i64 (min r r2) = .int .i64 (Lo (t + 1)).2) := by
              show _ = _
              rw [hst]
            clear hst HST hy2 hD2 HHT
            go_wp2
            go_roundw
            case rel => exact ⟨t + 1, by omega, by go_num, HB, HN⟩
            case measure => simp [RowKit.intOf]; omega
          · rw [if_neg hcut] at hst
            have HST2 := hid hst
            obtain ⟨hh1, hh2, hh3⟩ := HHT.out
            obtain ⟨g2, cap2, rfl, hg2D, hg2l, hcap2, hcs2⟩ := own_row hD2.gone (by omega)
            obtain ⟨n2, hn2⟩ := ex_eq T2.gone.length
            rw [← hn2] at hh1 hh2
            have e7 := hD2.cgo.1
            rw [← hn2] at e7 hcap2
            obtain ⟨olds, hol⟩ := ex_eq ((T2.gone.drop nT).map (Value.int .i64))
            have HOL1 : Hid (olds.length = (n2 - nT) * 1) := by show _ = _; rw [hol]; simp [hn2]
            have HOL2 : Hid (∀ b, some (⟨g2, nT, none⟩ : Addr) = some b → ∀ j u, olds[j]? = some u → (w2.alloc (.cells #[.int .i64 v] 3)).cell? (b.add j) = some u) := fun b hb j u hu => by
              cases hb
              rw [add_at, (kept_alloc w2 _ (fun _ => False)).cell (p := ⟨g2, nT + j, none⟩) hg2l (fun e => e)]
              refine hcs2 (nT + j) u ?_
              rw [hol, List.getElem?_map, List.getElem?_drop] at hu
              rw [List.getElem?_map]; exact hu
            have HOLD := hid hol
            have HD2 := hid hD2
            have HN2 := hid hn2
            have HY2 := hid hy2
            have q5 : ¬ n2 = nT := by omega
            have q6 : (nT : Int) ≤ (n2 : Int) := by omega
            have q7 : (n2 : Int) ≤ (cap2 : Int) := by omega
            have q8 : (0 : Int) ≤ (nT : Int) := by omega
            have q9 : nT ≤ cap2 := by omega
            have HBL : Hid (T2.blk.length ≤ 1000) := hh3
            clear hst HST hcs2 hol hD2 hn2 hy2 HHT hh3
            go_upto_region 15 with (at_builtin; refine wpList_append_grows _ rfl _ _ 28 rfl 3 i0 _ 1 8 Try.underlying28 hi0 hz0 hz1 hz2 rfl (by decide) (some ⟨g2, nT, none⟩) (n2 - nT) (n2 - nT) olds rfl (fun h => by cases h) HOL1.out HOL2.out ⟨w2.heap.size, 0, none⟩ 1 1 [.int .i64 v] rfl rfl (cells_one (heap_alloc_new _ _)) (fun u hu => by simp at hu; rw [hu]; rfl) (by omega) (by unfold maxLen; omega) (by omega) ?_; intro v3 w3 hown3 hgrow3)
            obtain ⟨xs, hxs⟩ := ex_eq (T2.gone.drop nT ++ [(v : Int)])
            have hxl : xs.length = n2 - nT + 1 := by rw [hxs, HN2.out]; simp
            have hown3' : w3.ownsRow (w2.alloc (.cells #[.int .i64 v] 3)).heap.size 3 1 v3 xs.length (xs.map (Value.int .i64)) := by
              rw [hxl, hxs, List.map_append, ← HOLD.out]
              exact hown3
            obtain ⟨g3, cap3, rfl, hg3, hg3l, CS⟩ := bsort_any _ v3 xs w3 hown3' (by omega) (by omega)
            rw [hxl] at CS
            have HCS := hid CS
            have HXS := hid hxs
            have HXL := hid hxl
            have hbs3 : Below w2.heap.size w2 w3 := Below.grown ((Below.refl _ w2).alloc (Nat.le_refl _) _) hgrow3 (by simp) (fun j hj => by cases hj)
            have hg3w : w2.heap.size < g3 := by simp at hg3; omega
            have HB3 := hid hbs3
            clear CS hxs hxl hown3 hown3' hgrow3 hbs3 hg3 e5 e6 e7
            rw [HXL.out]
            go_wp2_with fail
            refine HCS.out.mono ?_
            rintro e w4 ⟨rfl, hgr4, hI4⟩
            have hb4 : Below w2.heap.size w2 w4 := Below.grown HB3.out hgr4 HB3.out.size (fun j hj => by cases hj; omega)
            have hD4 := HD2.out.below hb4
            obtain ⟨e8, f8⟩ := hD4.cgo
            obtain ⟨e9, f9⟩ := hD4.cbl
            rw [← HN2.out] at e8
            obtain ⟨nB, hnB⟩ := ex_eq T2.blk.length
            have HOB : Hid (w4.ownsRow D 28 1 uv2 nB us2) := by
              show World.ownsRow _ _ _ _ _ _ _
              rw [hnB]; exact hD4.blk.1
            have hnBl : nB ≤ 1000 := by
              rw [hnB]
              exact HBL.out
            have hown4u := hD4.own.2
            have hX : Below w4.heap.size w4 w4.drew := (Below.refl _ _).drew
            have hD4d := hD4.below hX
            have HCUT := hid (fun (w6 : World) (u' : Value) => hD4d.cut (X := .cells #[.slice (some ⟨g3, 0, none⟩) (n2 - nT + 1) cap3] 28) (w4 := w6) (u' := u') (k := nT) (ar := some ⟨g3, 0, none⟩) (cr := cap3) (L := isrt xs) rfl (by have := HN2.out; omega) (hI4.below hX) (fun g' off e h0 => by
              cases e
              exact ⟨by have := HD2.out.sz; omega, by omega, fun e => by have := (HD2.out.own.2 _ e).2.1; omega⟩))
            have hD8 : D ≤ w4.heap.size := hD4.sz
            have HI1 := hid (Try.infoRow28)
            have z2 : bl < w4.heap.size := hD4.size.2.1
            have z6 : go < w4.heap.size := hD4.size.2.2.2.2.2.1
            have hil : (isrt xs).length = n2 - nT + 1 := by rw [isrt_len, HXL.out]
            rw [hil, ← HN2.out, ← hnB] at HCUT
            have HIL := hid hil
            have HLN : Hid (Lo (t + 1) = (⟨T2.num, T2.cnt, T2.gone.take nT, T2.blk ++ [isrt xs]⟩, min r r2)) := by
              show _ = _
              rw [HST2.out, HXS.out]
              rfl
            have HB : Hid (Value.int .i64 (min r r2) = .int .i64 (Lo (t + 1)).2) := by
              show _ = _
              rw [HLN.out]
            obtain ⟨i1, hi1, hj0, hj1, hj2⟩ := info_parts Try.infoRow28
            clear hD4 hD4d hX hI4 hown4u hb4 hgr4 hnB hil HD2 HST2 HXS HOLD HOL1 HOL2 HI1
            go_wp2_with fail
            go_region_law (refine step_append_any _ rfl (.tmp 72) (.tmp 74) 29 rfl D 28 i1 _ 1 24 Try.underlying29 hi1 hj0 hj1 hj2 rfl (by decide) uv2 nB us2 (by first | rfl | (simp [Act.eval]; done) | (simp [Act.eval, Act.put]; done)) (own_below HOB.out ((Below.refl _ _).drew.alloc (Nat.le_refl _) _)) (some ⟨w4.heap.size, 0, none⟩) 1 1 [.slice (some ⟨g3, 0, none⟩) (n2 - nT + 1) cap3] (by first | rfl | (simp [Act.eval]; done) | (simp [Act.eval, Act.put]; done)) (fun h => by cases h) rfl (fun pp hpp => by cases hpp; exact cells_one (heap_alloc_new _ _)) (fun u hu => by simp at hu; rw [hu]; rfl) (by unfold maxLen; omega) (by omega) (by simp; omega) ?_; intro u' w6 hown6 hgrow6 hat6; obtain ⟨ua, uc, rfl, _⟩ := sl_own hown6; obtain ⟨⟨k1, k2⟩, ⟨k3, k4⟩, ⟨k5, k6⟩, hD6⟩ := HCUT.out w6 _ hown6 hgrow6 hat6; have HD6 := hid hD6; clear hD6 hown6 hgrow6 hat6)
            all_goals
              have HN : Hid (∃ gv uv us, DMem ((w6.setCell ⟨bl, 0, none⟩ (.slice ua (nB + 1) uc)).setCell ⟨go, 0, none⟩ (.slice (some ⟨g2, 0, none⟩) nT cap2)) W0 nr bl gn nm ct go lw D gw m es (Lo (t + 1)).1 gv uv us) := by
                show ∃ gv uv us, _
                rw [HLN.out]
                exact ⟨_, _, _, HD6.out⟩
              obtain ⟨W7, hW7⟩ := ex_eq ((w6.setCell ⟨bl, 0, none⟩ (.slice ua (nB + 1) uc)).setCell ⟨go, 0, none⟩ (.slice (some ⟨g2, 0, none⟩) nT cap2))
              rw [← hW7] at HN
              have HW7 := hid hW7
              clear hW7 HD6 HLN HCUT k1 k2 k3 k4 k5 k6 e8 f8 e9 f9
              rw [← HW7.out]
              go_wp2
              go_roundw
              case rel => exact ⟨t + 1, by omega, by go_num, HB, HN⟩
              case measure => simp [RowKit.intOf]; omega
      · obtain rfl : t = L := by omega
        have HF : Hid (lowF (fun v => nbL (v : Int) es) (k + 1) s v = (T, r)) := by
          show _ = _
          rw [HLE.out, ← HL.out, hT, hr]
        have HM := hmt
        clear hT hr hmt hgrt HGR HL0 HLS HLE
        go_wp2
        go_ret
        rw [HF.out]
        exact ⟨rfl, HM.out⟩
end Go.Proofs.Ytplhpinaadgkkaa
namespace Go.Proofs.Ytplhpinaadgkkaa
open Go.RowKit Go.Lib

theorem alloc_keep {w : World} {o : Obj} {k : Nat} {x : Obj} (h : w.heap[k]? = some x) : (w.alloc o).heap[k]? = some x := by
  rw [alloc_at (Array.getElem?_eq_some_iff.1 h).1]; exact h
/-- The search begins. -/
theorem dmem_start {w1 W2 W3 : World} {gw m : Nat} {es : List (Int × Int)} (hW2 : W2 = (w1.alloc (.cells #[.slice (some ⟨gw, 0, none⟩) m m] 29)).alloc (.cells #[.slice none 0 0] 29)) (hN : NearAt w1 gw m es)
    (hown : W3.ownsRow W2.heap.size 3 1 (.slice (some ⟨W2.heap.size, 0, none⟩) m m) m (madeCells (Value.int .i64 0).cells (m * 1)).toList) (hg : W2.grownBy W3 none) :
    DMem ((((W3.alloc (.cells #[.slice (some ⟨W2.heap.size, 0, none⟩) m m] 28)).alloc (.cells #[.int .i64 0] 3)).alloc (.cells #[.slice none 0 0] 28)).alloc (.cells #[.func (.func 55) #[] #[.pointer (some ⟨W3.heap.size + 1, 0, none⟩), .pointer (some ⟨W3.heap.size, 0, none⟩), .pointer (some ⟨W3.heap.size + 1 + 1, 0, none⟩), .pointer (some ⟨w1.heap.size, 0, none⟩), .pointer (some ⟨W3.heap.size + 1 + 1 + 1, 0, none⟩), .pointer (some ⟨w1.heap.size + 1, 0, none⟩)]] 77))
      w1 w1.heap.size (w1.heap.size + 1) W2.heap.size W3.heap.size (W3.heap.size + 1) (W3.heap.size + 1 + 1) (W3.heap.size + 1 + 1 + 1) (W3.heap.size + 1 + 1 + 1 + 1) gw m es Dst.zero (.slice none 0 0) (.slice none 0 0) [] := by
  have hs2 : W2.heap.size = w1.heap.size + 1 + 1 := by rw [hW2]; simp
  have hlt := (hown.lt W2.heap.size rfl).2
  have hb12 : Below w1.heap.size w1 W2 := by rw [hW2]; exact ((Below.refl _ _).alloc (Nat.le_refl _) _).alloc (by simp) _
  have hb23 : Below W2.heap.size W2 W3 := Below.grown (Below.refl _ _) hg (Nat.le_refl _) (fun k hk => by cases hk)
  have hb13 := hb12.trans (hb23.mono (by omega))
  have r1 : W2.heap[w1.heap.size]? = some (.cells #[.slice (some ⟨gw, 0, none⟩) m m] 29 (0, 0)) := by rw [hW2]; exact alloc_keep (heap_alloc_new _ _)
  have r2 : W2.heap[w1.heap.size + 1]? = some (.cells #[.slice none 0 0] 29 (0, 0)) := by
    have h := heap_alloc_new (w1.alloc (.cells #[.slice (some ⟨gw, 0, none⟩) m m] 29)) (.cells #[.slice none 0 0] 29)
    rw [← hW2] at h
    simpa using h
  have r1' := (hb23.block _ (by omega)).trans r1
  have r2' := (hb23.block _ (by omega)).trans r2
  have hrow := row1_made hown hlt
  obtain ⟨V1, hV1⟩ := ex_eq (W3.alloc (.cells #[.slice (some ⟨W2.heap.size, 0, none⟩) m m] 28))
  obtain ⟨V2, hV2⟩ := ex_eq (V1.alloc (.cells #[.int .i64 0] 3))
  obtain ⟨V3, hV3⟩ := ex_eq (V2.alloc (.cells #[.slice none 0 0] 28))
  have s1 : V1.heap.size = W3.heap.size + 1 := by rw [hV1]; simp
  have s2 : V2.heap.size = W3.heap.size + 1 + 1 := by rw [hV2]; simp [s1]
  have s3 : V3.heap.size = W3.heap.size + 1 + 1 + 1 := by rw [hV3]; simp [s2]
  have k1 : V1.heap[W3.heap.size]? = some (.cells #[.slice (some ⟨W2.heap.size, 0, none⟩) m m] 28 (0, 0)) := by rw [hV1]; exact heap_alloc_new _ _
  have k2 : V2.heap[W3.heap.size + 1]? = some (.cells #[.int .i64 0] 3 (0, 0)) := by rw [hV2, ← s1]; exact heap_alloc_new _ _
  have k3 : V3.heap[W3.heap.size + 1 + 1]? = some (.cells #[.slice none 0 0] 28 (0, 0)) := by rw [hV3, ← s2]; exact heap_alloc_new _ _
  rw [← hV1, ← hV2, ← hV3]
  obtain ⟨X, hX⟩ := ex_eq (Obj.cells #[.func (.func 55) #[] #[.pointer (some ⟨W3.heap.size + 1, 0, none⟩), .pointer (some ⟨W3.heap.size, 0, none⟩), .pointer (some ⟨W3.heap.size + 1 + 1, 0, none⟩), .pointer (some ⟨w1.heap.size, 0, none⟩), .pointer (some ⟨W3.heap.size + 1 + 1 + 1, 0, none⟩), .pointer (some ⟨w1.heap.size + 1, 0, none⟩)]] 77 (0, 0))
  rw [← hX]
  have keep : ∀ {k : Nat} {x : Obj}, W3.heap[k]? = some x → (V3.alloc X).heap[k]? = some x := fun h => by
    refine alloc_keep ?_
    rw [hV3]
    refine alloc_keep ?_
    rw [hV2]
    refine alloc_keep ?_
    rw [hV1]
    exact alloc_keep h
  have j1 : (V3.alloc X).heap[W3.heap.size]? = some (.cells #[.slice (some ⟨W2.heap.size, 0, none⟩) m m] 28 (0, 0)) := by
    refine alloc_keep ?_
    rw [hV3]
    refine alloc_keep ?_
    rw [hV2]
    exact alloc_keep k1
  have j2 : (V3.alloc X).heap[W3.heap.size + 1]? = some (.cells #[.int .i64 0] 3 (0, 0)) := by
    refine alloc_keep ?_
    rw [hV3]
    exact alloc_keep k2
  have j3 := alloc_keep (o := X) k3
  have j4 : (V3.alloc X).heap[W3.heap.size + 1 + 1 + 1]? = some X := by rw [← s3]; exact heap_alloc_new _ _
  have hbV : Below W3.heap.size W3 (V3.alloc X) := by
    refine Below.alloc ?_ (by omega) _
    rw [hV3]
    refine Below.alloc ?_ (by omega) _
    rw [hV2]
    refine Below.alloc ?_ (by omega) _
    rw [hV1]
    exact (Below.refl _ _).alloc (Nat.le_refl _) _
  refine ⟨⟨Nat.le_refl _, by omega, by omega, by omega, by omega, by omega, by omega, by omega⟩, by simp [s3], hb13.trans (hbV.mono (by omega)), hN, cell_of_heap (keep r1') 0, cell_of_heap j1 0, ⟨cell_of_heap j2 0, frozen_of_heap j2 0⟩, ?_, hrow.kept (KeptBut.of_whole (fun _ => False) hbV) (fun e => e), ⟨cell_of_heap j3 0, frozen_of_heap j3 0⟩, ⟨cell_of_heap (keep r2') 0, frozen_of_heap (keep r2') 0⟩, World.ownsRow_nil _ _ _ _, ⟨World.ownsRow_nil _ _ _ _, rfl, fun g h => by simp [Value.ownBlock] at h, fun k hk => absurd hk (by simp [Dst.zero])⟩⟩
  subst hX
  exact cell_of_heap j4 0
theorem top_gr {m : Nat} {nb : Nat → List Int} (hnb : ∀ v x, x ∈ nb v → 0 ≤ x ∧ x < m) : ∀ (l : List Nat) (s : Dst), (∀ v ∈ l, v < m) → DSz m s → DSz m (topF nb m s l)
  | [], _, _, h => h
  | v :: l, s, hl, h => by
    have e : topF nb m s (v :: l) = topF nb m (if s.num v = 0 then (lowF nb m s v).1 else s) l := rfl
    rw [e]
    refine top_gr hnb l _ (fun x hx => hl x (List.mem_cons_of_mem _ hx)) ?_
    split
    · rename_i h0
      exact (low_gr hnb m s v h (hl v (by simp)) h0 (top_sz m s h)).sz
    · exact h

set_option maxHeartbeats 4000000 in
set_option maxRecDepth 100000 in
theorem blocksOf_any (m : Nat) (a : Option Addr) (cap : Nat) (es : List (Int × Int)) (w : World) (hE : EAt w a es) (hR : RightG m es) :
    Calls Try.prog 27 #[.int .i64 m, .slice a es.length cap] w fun e w' => ∃ u us LL, e = .returned u ∧ LLOwn w' w.heap.size (fun k => w.heap.size ≤ k) u us LL ∧ (∀ B, B ∈ LL ↔ IsBlk es B) ∧ LL.Nodup ∧ LL.length ≤ 1000 ∧ Below w.heap.size w w' := by
  have hm : m ≤ 1000 := by have := hR.2.1; omega
  obtain ⟨N, hNe⟩ := ex_eq es.length
  have CN : Hid (Calls Try.prog 54 #[.int .i64 m, .slice a N cap] w fun e w' => ∃ g, e = .returned (.slice (some ⟨g, 0, none⟩) m m) ∧ w.heap.size ≤ g ∧ NearAt w' g m es ∧ Below w.heap.size w w') := by
    show Calls _ _ _ _ _
    rw [hNe]; exact bnear_any m a cap es w hE hR
  rw [← hNe]
  have HRG := hid hR
  have hsf := fun a c w => run_store (P := Try.prog) w a (.func (.func 55) #[] c) .plain rfl
  clear hNe hE hR
  go_enter Try.func27, Try.ntmps27
  go_wp2_with fail
  refine CN.out.mono ?_
  rintro e w1 ⟨gw, rfl, hgw, hnear, hb1⟩
  have HNR := hid hnear
  have HB1 := hid hb1
  clear hnear hb1 CN
  go_upto_region 3 with fail
  obtain ⟨W2, hW2⟩ := ex_eq ((w1.alloc (.cells #[.slice (some ⟨gw, 0, none⟩) m m] 29)).alloc (.cells #[.slice none 0 0] 29))
  rw [← hW2]
  have HW2 := hid hW2
  clear hW2
  obtain ⟨i0, hi, hz0, hz1, hz2⟩ := info_parts Try.info3
  obtain ⟨W3, hrun3, hown3, hgrow3⟩ := run_make_full (P := Try.prog) W2 W2.heap.size 28 3 i0 (.int .i64 0) 1 Try.underlying28 hi hz0 hz1 .i64 .i64 m (by rw [hz2]; omega) (by unfold maxLen; omega) (Nat.le_refl _)
  go_upto_region 7 with fail
  have hDM := dmem_start HW2.out HNR.out hown3 hgrow3
  obtain ⟨nb, hnb⟩ := ex_eq (fun v : Nat => nbL (v : Int) es)
  obtain ⟨W7, hW7⟩ := ex_eq ((((W3.alloc (.cells #[.slice (some ⟨W2.heap.size, 0, none⟩) m m] 28)).alloc (.cells #[.int .i64 0] 3)).alloc (.cells #[.slice none 0 0] 28)).alloc (.cells #[.func (.func 55) #[] #[.pointer (some ⟨W3.heap.size + 1, 0, none⟩), .pointer (some ⟨W3.heap.size, 0, none⟩), .pointer (some ⟨W3.heap.size + 1 + 1, 0, none⟩), .pointer (some ⟨w1.heap.size, 0, none⟩), .pointer (some ⟨W3.heap.size + 1 + 1 + 1, 0, none⟩), .pointer (some ⟨w1.heap.size + 1, 0, none⟩)]] 77))
  rw [← hW7] at hDM ⊢
  obtain ⟨ct, hct⟩ := ex_eq (W3.heap.size + 1)
  obtain ⟨go, hgo⟩ := ex_eq (W3.heap.size + 1 + 1)
  obtain ⟨lw, hlw⟩ := ex_eq (W3.heap.size + 1 + 1 + 1)
  obtain ⟨D, hD⟩ := ex_eq (W3.heap.size + 1 + 1 + 1 + 1)
  obtain ⟨bl, hbl⟩ := ex_eq (w1.heap.size + 1)
  obtain ⟨nm, hnm⟩ := ex_eq W3.heap.size
  obtain ⟨gn, hgn⟩ := ex_eq W2.heap.size
  obtain ⟨nr, hnr⟩ := ex_eq w1.heap.size
  rw [← hD, ← hlw, ← hgo, ← hct, ← hnm, ← hgn, ← hbl, ← hnr] at hDM
  rw [← hlw, ← hgo, ← hct, ← hnm, ← hgn, ← hbl, ← hnr]
  have hDl : nr ≤ D := by have := hDM.ord; omega
  have hwn : w.heap.size ≤ nr := by rw [hnr]; exact HB1.out.size
  have HS0 : Hid (nr = w1.heap.size) := hnr
  have HNB := hid hnb
  have HIN : Hid (∀ (v : Nat) x, x ∈ nb v → 0 ≤ x ∧ x < m) := fun v x hx => by
    rw [hnb] at hx
    exact ((nb_adj HRG.out).1 hx |>.in HRG.out).2.1
  have CL : Hid (∀ (s : Dst) (v : Nat) (X : World), (∃ gv uv us, DMem X w1 nr bl gn nm ct go lw D gw m es s gv uv us) → DSz m s → v < m → s.num v = 0 → Calls Try.prog 55 #[.int .i64 v, .pointer (some ⟨ct, 0, none⟩), .pointer (some ⟨nm, 0, none⟩), .pointer (some ⟨go, 0, none⟩), .pointer (some ⟨nr, 0, none⟩), .pointer (some ⟨lw, 0, none⟩), .pointer (some ⟨bl, 0, none⟩)] X fun e w' =>
      e = .returned (.int .i64 (lowF nb m s v).2) ∧ ∃ gv uv us, DMem w' w1 nr bl gn nm ct go lw D gw m es (lowF nb m s v).1 gv uv us) := fun s v X hM hs hv h0 => by
    rw [hnb]
    exact low_any HRG.out m s v X hM hs hv h0 (top_sz m s hs)
  have HDM : Hid (∃ gv uv us, DMem W7 w1 nr bl gn nm ct go lw D gw m es (topF nb m Dst.zero ((List.range m).take 0)) gv uv us) := ⟨_, _, _, hDM⟩
  clear hD hlw hgo hct hnm hgn hbl hnr hW7 hDM hown3 hgrow3 hrun3 hi hz0 hz1 hz2 HW2 hsf HNR hnb
  go_wp2
  go_loopw [19] (fun i wz => ∃ t : Nat, t ≤ m ∧ i = .int .i64 t ∧ Hid (∃ gv uv us, DMem wz w1 nr bl gn nm ct go lw D gw m es (topF nb m Dst.zero ((List.range m).take t)) gv uv us)) (fun i _ => m - (RowKit.intOf i).toNat)
  case atStart => exact ⟨0, Nat.zero_le _, rfl, HDM.out⟩
  case round =>
    obtain ⟨t, ht, rfl, hmt⟩ := hrel
    have hsz := top_gr HIN.out ((List.range m).take t) Dst.zero (fun v hv => List.mem_range.1 (List.mem_of_mem_take hv)) (top_zero es m).sz
    obtain ⟨T, hT⟩ := ex_eq (topF nb m Dst.zero ((List.range m).take t))
    rw [← hT] at hmt hsz
    by_cases hlt : t < m
    · have hnx : topF nb m Dst.zero ((List.range m).take (t + 1)) = (if T.num t = 0 then (lowF nb m T t).1 else T) := by
        have h1 : (List.range m).take (t + 1) = (List.range m).take t ++ [t] := by
          rw [← List.take_append_getElem (by simpa using hlt)]
          simp
        rw [h1, hT]
        unfold topF
        rw [List.foldl_append]
        rfl
      obtain ⟨gv, uv, us, hD⟩ := hmt.out
      have e1 := hD.cnm
      obtain ⟨e2, _⟩ := hD.num.2 t hlt
      have e3 := hD.clw
      have p1 : (t : Int) < (m : Int) := by omega
      by_cases h0 : T.num t = 0
      · rw [h0] at e2
        rw [if_pos h0] at hnx
        have C := hid (CL.out T t wr hmt.out hsz hlt h0)
        have HNX := hid hnx
        clear hnx hD hT hmt h0 hsz
        go_wp2_with fail
        refine C.out.mono ?_
        rintro e w2 ⟨rfl, hD2⟩
        have HN : Hid (∃ gv uv us, DMem w2 w1 nr bl gn nm ct go lw D gw m es (topF nb m Dst.zero ((List.range m).take (t + 1))) gv uv us) := by
          show ∃ gv uv us, _
          rw [HNX.out]; exact hD2
        clear hD2 C e1 e2 e3
        go_wp2
        go_roundw
        case rel => exact ⟨t + 1, by omega, by go_num, HN⟩
        case measure => simp [RowKit.intOf]; omega
      · rw [if_neg h0] at hnx
        have HN : Hid (∃ gv uv us, DMem wr w1 nr bl gn nm ct go lw D gw m es (topF nb m Dst.zero ((List.range m).take (t + 1))) gv uv us) := by
          show ∃ gv uv us, _
          rw [hnx]; exact hmt.out
        obtain ⟨y, hy⟩ := ex_eq (T.num t)
        rw [← hy] at e2 h0
        have b0 : (y == 0) = false := beq_eq_false_iff_ne.2 h0
        clear hnx hD hT hmt hsz hy e3
        go_wp2
        go_roundw
        case rel => exact ⟨t + 1, by omega, by go_num, HN⟩
        case measure => simp [RowKit.intOf]; omega
    · obtain rfl : t = m := by omega
      have htk : (List.range t).take t = List.range t := by rw [List.take_of_length_le (by simp)]
      rw [htk] at hT
      obtain ⟨hB, hnd⟩ := top_blocks (es := es) (nb := nb) HRG.out (fun v x => by rw [HNB.out]; exact nb_adj HRG.out)
      rw [← hT] at hB hnd
      obtain ⟨gv, uv, us, hD⟩ := hmt.out
      have e1 := hD.cbl.1
      have hbl := hD.blk.swap (A' := fun k => w.heap.size ≤ k) (fun k _ hA => by have := hA.1; omega)
      have HBL : Hid (LLOwn wr w.heap.size (fun k => w.heap.size ≤ k) uv us T.blk) := ⟨own_lower hbl.1 (by omega), hbl.2⟩
      have HBB : Hid (Below w.heap.size w wr) := HB1.out.trans (hD.bel.mono (by rw [← HS0.out]; exact hwn))
      have HBI := hid hB
      have hlen : T.blk.length ≤ 1000 := by have := hsz.blk; have := hsz.sum; omega
      clear hB hbl hD hmt hT hsz htk CL
      go_wp2
      go_ret
      exact ⟨uv, us, T.blk, rfl, HBL.out, HBI.out, hnd, hlen, HBB.out⟩
end Go.Proofs.Ytplhpinaadgkkaa
