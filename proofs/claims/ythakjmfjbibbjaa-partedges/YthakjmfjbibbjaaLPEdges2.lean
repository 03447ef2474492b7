/-
  carcanetlaw04.PartEdges answers true, for any part that keeps the contracts: the walk.
-/
import Derived.Test.YthakjmfjbibbjaaB14
namespace Go.Proofs.Ythakjmfjbibbjaa
open Go.RowKit Go.Lib

theorem Row1.belowE {w w' : World} {g n : Nat} {c : Nat → Int} (h : Row1 w g n c) (hB : Below w.heap.size w w') : Row1 w' g n c := by
  refine ⟨Nat.lt_of_lt_of_le h.1 hB.size, fun j hj => ⟨(hB.cell (p := ⟨g, j, none⟩) h.1).trans (h.2 j hj).1, ?_⟩⟩
  rw [← (h.2 j hj).2]
  exact hB.frozen (p := ⟨g, j, none⟩) h.1

set_option maxHeartbeats 4000000 in
set_option maxRecDepth 100000 in
theorem partEdges_law {PA : World → Addr → Nat → (Nat → Nat) → (Nat → Prop) → Prop} (O : PartOps PA) (n : Int) (a : Option Addr) (len cap : Nat) (l : List (Int × Int)) (w : World) (hl : len = l.length) (hE : EAt w a l) :
    Calls Try.prog 7 #[.int .i64 n, .slice a len cap] w fun e w' => e = .returned (.bool true) ∧ Below w.heap.size w w' := by
  have HO := hid O
  have HL := hid hl
  obtain ⟨b0, hb0⟩ := ex_eq w.heap.size
  have HB0 := hid hb0
  have HE : Hid (∀ X, Below b0 w X → EAt X a l) := fun X h => hE.below (by rw [← hb0]; exact h)
  have h00 : b0 ≤ w.heap.size := by omega
  clear O hl hE hb0
  go_enter Try.func7, Try.ntmps7
  go_wp2_with fail
  refine (pshown_any HO.out _).mono ?_
  rintro e w1 ⟨rfl, hb1⟩
  rw [← HB0.out] at hb1
  have hs1 : b0 ≤ w1.heap.size := Nat.le_trans h00 hb1.size
  have CA := hid (any_any n a len cap l 50 w1 (by omega) HL.out (HE.out w1 hb1))
  go_wp2_with fail
  refine CA.out.mono ?_
  rintro e w2 ⟨m, ys, a2, c2, rfl, hm50, hR, hys, hsl, hE2, hb2⟩
  obtain ⟨K, hK⟩ := ex_eq ys.length
  rw [← hK]
  have HK := hid hK
  obtain ⟨V2, hV2⟩ := ex_eq (w2.alloc (.cells #[.int .i64 m, .slice a2 K c2] 38))
  obtain ⟨B, hB⟩ := ex_eq w2.heap.size
  have hbV2 : Below w2.heap.size w2 V2 := by rw [hV2]; exact below_new _ _
  have HG2 : Hid (GC V2 B m a2 K c2 ys) := by
    show GC V2 _ _ _ _ _ _
    rw [hV2, hB]; exact gc_new hE2
  have hBX2 : Below w1.heap.size w1 V2 := hb2.trans (hbV2.mono hb2.size)
  have HB2 : Hid (Below b0 w V2) := hb1.trans (hBX2.mono hs1)
  have HV2 := hid hV2
  have HBB := hid hB
  have HR := hid hR
  have hK3 : K ≤ 300 := by omega
  obtain ⟨f, hPt, hTl⟩ := tells_ex (n := m) (prsN ys) (prsN_in hR)
  have HPT := hid hPt
  have HT := hid hTl
  have CX : Hid (∀ W, EAt W a2 ys → Calls Try.prog 22 #[.agg #[.int .i64 m, .slice a2 K c2]] W fun e w' => ∃ v, e = .returned v ∧ PComp W w' v (classesF m f)) := fun W h => by
    have := HO.out.comps m a2 c2 ys true f W (by omega) h ⟨fun _ => hR, fun _ => rfl⟩ (fun _ => ⟨hPt, hTl⟩)
    rw [if_pos rfl, ← hK] at this
    exact this
  have CN : Hid (∀ W (v : Nat), EAt W a2 ys → Calls Try.prog 25 #[.agg #[.int .i64 m, .slice a2 K c2], .int .i64 v] W fun e w' => ∃ a' cap', e = .returned (.slice a' (nbL (v : Int) ys).length cap') ∧ IAt w' a' (nbL (v : Int) ys) ∧ Below W.heap.size W w') := fun W v h => by
    rw [hK]; exact near_any m a2 c2 ys v true (nbL (v : Int) ys) W (by omega) h ⟨fun _ => hR, fun _ => rfl⟩ rfl
  clear hK hV2 hbV2 hBX2 hE2 hb2 hR hys hsl CA hb1 hs1 hB HE HL hPt hTl
  go_upto_region 3 with fail
  rw [← HV2.out, ← HBB.out]
  clear HV2 HBB
  obtain ⟨g0, g1⟩ := HG2.out.cells
  go_wp2_with fail
  refine (CX.out _ HG2.out.at_).mono ?_
  rintro e w5 ⟨v5, rfl, a5, c5, rfl, hI5, hb5⟩
  obtain ⟨X, hX⟩ := ex_eq (classesF m f).length
  rw [← hX]
  have HXX := hid hX
  have HXL : Hid ((repsF m f).length = X) := by show _ = X; rw [hX, classesF_len]
  have hXm : X ≤ m := by rw [hX, classesF_len]; exact reps_len _ _
  have HG5 := hid (HG2.out.on hb5)
  have HB5 : Hid (Below b0 w w5) := HB2.out.trans (hb5.mono (Nat.le_trans h00 HB2.out.size))
  have HI5 := hid hI5.at
  obtain ⟨s, hs⟩ := ex_eq w5.heap.size
  have HS := hid hs
  have hsb : b0 ≤ s := by rw [hs]; exact Nat.le_trans h00 HB5.out.size
  obtain ⟨i2, hk2, hx0, hx1, hx2⟩ := info_parts Try.info3
  obtain ⟨w6, hrun, hown, hgrow⟩ := run_make_full (P := Try.prog) w5 w5.heap.size 42 3 i2 (.int .i64 0) 1 Try.underlying42 hk2 hx0 hx1 .i64 .i64 m (by rw [hx2]; omega) (by unfold maxLen; omega) (Nat.le_refl _)
  have hb6 : Below s w5 w6 := by rw [hs]; exact Below.grown (Below.refl _ _) hgrow (Nat.le_refl _) (fun k hk => by cases hk)
  have hrow6 : Row1 w6 s m (fun _ => 0) := by rw [hs]; exact row1_made hown ((hown.lt w5.heap.size rfl).2)
  have HRW : Hid (∀ h : 0 < (repsF m f).length, Row1 w6 s m (ofTo m f (repsF m f)[0] 0)) := fun h => hrow6.congr (ofTo_start HPT.out h)
  have HRD : Hid (X = 0 → Row1 w6 s m (fun u => (cntF f (f u) : Int) + 1)) := fun h0 => by
    refine ⟨hrow6.1, fun j hj => ?_⟩
    obtain ⟨i, hi, _⟩ := rep_place HPT.out hj
    have := HXL.out
    omega
  have HGV : Hid (∀ Y, Below s w5 Y → GC Y B m a2 K c2 ys) := fun Y h => HG5.out.on (by rw [← hs]; exact h)
  have HLV : Hid (∀ Y, Below s w5 Y → LLAt Y a5 (classesF m f)) := fun Y h => HI5.out.below (by rw [← hs]; exact h)
  have hs6 : s < w6.heap.size := hrow6.1
  clear g0 g1
  obtain ⟨g0, g1⟩ := HG5.out.cells
  rw [← hs] at hrun
  clear hI5 hb5 hX hown hgrow hk2 hx0 hx1 hx2 hrow6 hs HG2 HB2 CX
  go_wp2
  clear hrun g0 g1
  go_loopg [9, 10] X (fun G cn i wz => ∃ (t d : Nat), t ≤ X ∧ X - t ≤ G ∧ i = .int .i64 t ∧ cn = .int .i64 d ∧ d = sumTo m f t ∧ Hid (∀ h : t < (repsF m f).length, Row1 wz s m (ofTo m f (repsF m f)[t] 0)) ∧ Hid (X = t → Row1 wz s m (fun u => (cntF f (f u) : Int) + 1)) ∧ Below s w5 wz)
  case atStart => exact ⟨0, 0, Nat.zero_le _, by omega, rfl, rfl, rfl, HRW, HRD, hb6⟩
  case round =>
    obtain ⟨t, d, htX, hGt, rfl, rfl, hd, hrw, hrd, hbr⟩ := hrel
    by_cases htl : t < X
    · have htr : t < (repsF m f).length := by rw [HXL.out]; exact htl
      have htc : t < (classesF m f).length := by rw [← HXX.out]; exact htl
      obtain ⟨r, hr⟩ := ex_eq (repsF m f)[t]
      have hrr := reps_at_is htr
      have hcl := classesF_at htc htr
      rw [← hr] at hrr hcl
      obtain ⟨rest, hhead⟩ := class_head HPT.out (i := r) (mem_reps.2 hrr)
      have HSS := hid (sumTo_succ htc)
      rw [hcl] at HSS
      obtain ⟨R, hR⟩ := ex_eq (classF m f r).length
      have HRR := hid hR
      have hR0 : 0 < R := by rw [hR, hhead]; simp
      have HAT : Hid (∀ Y, LLAt Y a5 (classesF m f) → ∃ g off gr or ck, a5 = some ⟨g, off, none⟩ ∧ Y.cell? ⟨g, off + t, none⟩ = some (.slice (some ⟨gr, or, none⟩) R ck) ∧ ∀ k (h : k < (classF m f r).length), Y.cell? ⟨gr, or + k, none⟩ = some (.int .i64 (classF m f r)[k])) := fun Y hY => by
        obtain ⟨g, off, ak, ck, h1, h2, h3⟩ := hY.at htc
        rw [hcl] at h2 h3
        obtain ⟨gr, or, h4, h5, h6⟩ := h3 (by rw [← hR]; exact hR0)
        subst h4
        rw [← hR] at h2
        exact ⟨g, off, gr, or, ck, h1, h2, h6⟩
      have hbR : R ≤ m := by rw [hR]; exact class_len _ _ _
      have HRO : Hid (Row1 wr s m (ofTo m f r 0)) := by rw [hr]; exact hrw.out htr
      have HPUT : Hid (∀ k v (hk : k < (classF m f r).length), (classF m f r)[k] = (v : Nat) → ∀ u, u < m → (if u = v then (t : Int) + 1 else ofTo m f r k u) = ofTo m f r (k + 1) u) := fun k v hk hv => ofTo_put htr hr.symm hk hv
      have HNR : Hid (∀ Y, Row1 Y s m (ofTo m f r R) → (∀ h : t + 1 < (repsF m f).length, Row1 Y s m (ofTo m f (repsF m f)[t + 1] 0)) ∧ (X = t + 1 → Row1 Y s m (fun u => (cntF f (f u) : Int) + 1))) := fun Y hY => ⟨fun h => hY.congr (fun u hu => by rw [hR, hr]; exact ofTo_next HPT.out h htr u hu), fun h => hY.congr (fun u hu => by rw [hR, hr]; exact ofTo_last HPT.out htr (by rw [HXL.out]; exact h.symm) u hu)⟩
      have q1 : (t : Int) < (X : Int) := by omega
      have q2 : (0 : Int) ≤ (t : Int) := by omega
      have hrf := hrr.2
      clear hr hcl hrw hrd hhead hR hrr
      go_wp2
      go_loopg [9, 11] R (fun G cn kk wz => ∃ (k d : Nat), k ≤ R ∧ R - k ≤ G ∧ kk = .int .i64 k ∧ cn = .int .i64 d ∧ d = sumTo m f t + k ∧ Hid (Row1 wz s m (ofTo m f r k)) ∧ Below s w5 wz)
      case atStart => exact ⟨0, d, Nat.zero_le _, by omega, rfl, rfl, by omega, HRO, hbr⟩
      case round =>
        obtain ⟨k, d2, hkR, hGk, rfl, rfl, hd2, hro2, hb2⟩ := hrel
        obtain ⟨g, off, gr, or, ck2, ha5, c1, crow⟩ := HAT.out wr (HLV.out wr hb2)
        subst ha5
        have hsl := sumTo_le HPT.out (t + 1)
        rw [HSS.out, ← HRR.out] at hsl
        by_cases hkl : k < R
        · have hkc : k < (classF m f r).length := by rw [← HRR.out]; exact hkl
          obtain ⟨v, hv, hvm, hvf⟩ := mem_class.1 (List.getElem_mem hkc)
          have c3 := crow k hkc
          rw [hv] at c3
          have hon := ofTo_new hkc hv
          obtain ⟨sv, sf⟩ := hro2.out.2 v hvm
          rw [hon] at sv
          obtain ⟨g0, g1⟩ := (HGV.out wr hb2).cells
          obtain ⟨Ln, hLn⟩ := ex_eq (nbL (v : Int) ys).length
          have hal : Ln = 0 ↔ R = 1 := by rw [hLn, HRR.out, ← hvf]; exact alone HR.out HT.out hvm
          have hLb : Ln ≤ 300 := by rw [hLn]; exact Nat.le_trans (nbL_len _ _) (by rw [← HK.out]; exact hK3)
          have CNv : Hid (Calls Try.prog 25 #[.agg #[.int .i64 m, .slice a2 K c2], .int .i64 v] wr.drew fun e w' => ∃ a' cap', e = .returned (.slice a' Ln cap') ∧ Below wr.heap.size wr.drew w') := by
            show Calls _ _ _ _ _
            rw [hLn]
            exact (CN.out wr.drew v (HGV.out wr hb2).at_).mono fun _ _ ⟨a', cap', h1, _, h3⟩ => ⟨a', cap', h1, h3⟩
          have hS : wr.drew.cell? ⟨B, 0, none⟩ = some (.int .i64 m) ∧ wr.drew.cell? ⟨B, 1, none⟩ = some (.slice a2 K c2) ∧ wr.drew.cell? ⟨s, v, none⟩ = some (.int .i64 0) ∧ wr.drew.cell? ⟨g, off + t, none⟩ = some (.slice (some ⟨gr, or, none⟩) R ck2) := ⟨g0, g1, sv, c1⟩
          have HKP : Hid (∀ W, Below wr.heap.size wr.drew W → W.cell? ⟨B, 0, none⟩ = some (.int .i64 m) ∧ W.cell? ⟨B, 1, none⟩ = some (.slice a2 K c2) ∧ W.cell? ⟨s, v, none⟩ = some (.int .i64 0) ∧ W.cell? ⟨g, off + t, none⟩ = some (.slice (some ⟨gr, or, none⟩) R ck2)) := fun W h =>
            ⟨(h.cell (p := ⟨B, 0, none⟩) (block_lt_of_cell g0)).trans g0, (h.cell (p := ⟨B, 1, none⟩) (block_lt_of_cell g1)).trans g1, (h.cell (p := ⟨s, v, none⟩) (block_lt_of_cell sv)).trans sv, (h.cell (p := ⟨g, off + t, none⟩) (block_lt_of_cell c1)).trans c1⟩
          have HPOST : Hid (∀ W, Below wr.heap.size wr.drew W → W.frozen? ⟨s, v, none⟩ = false ∧ Row1 (W.setCell ⟨s, v, none⟩ (.int .i64 ((t : Int) + 1))) s m (ofTo m f r (k + 1)) ∧ Below s w5 (W.setCell ⟨s, v, none⟩ (.int .i64 ((t : Int) + 1)))) := fun W h => by
            have hr1 : Row1 W s m (ofTo m f r k) := Row1.belowE (w := wr.drew) hro2.out h
            refine ⟨(hr1.2 v hvm).2, (hr1.put hvm ((t : Int) + 1)).congr (HPUT.out k v hkc hv), (hb2.drew.trans (h.mono ?_)).setCell (p := ⟨s, v, none⟩) (Nat.le_refl _) _⟩
            have := hro2.out.1
            omega
          have q3' : (k : Int) < (R : Int) := by omega
          have q4' : (0 : Int) ≤ (k : Int) := by omega
          have q5' : (v : Int) < (m : Int) := by omega
          have q6' : (0 : Int) ≤ (v : Int) := by omega
          have q7' : ¬ (v : Int) < 0 := by omega
          have q8' : ¬ (m : Int) ≤ (v : Int) := by omega
          have dq7 : decide ((v : Int) < 0) = false := decide_eq_false q7'
          have dq8 : decide ((m : Int) ≤ (v : Int)) = false := decide_eq_false q8'
          have dq9 : decide (m ≤ v) = false := decide_eq_false (by omega)
          have dq10 : ¬ m ≤ v := by omega
          clear crow hv hvf hon hro2 hLn
          by_cases hL0 : Ln = 0
          · have hR1 : R = 1 := hal.1 hL0
            subst hL0 hR1
            clear hal
            go_wp2_with fail
            go_region_held3 (fun X => X.cell? ⟨B, 0, none⟩ = some (.int .i64 m) ∧ X.cell? ⟨B, 1, none⟩ = some (.slice a2 K c2) ∧ X.cell? ⟨s, v, none⟩ = some (.int .i64 0) ∧ X.cell? ⟨g, off + t, none⟩ = some (.slice (some ⟨gr, or, none⟩) 1 ck2)) (first | exact hS | exact hS7)
              (first | (go_at_call 25; refine CNv.out.mono ?_; rintro e w7 ⟨a7, c7, rfl, hb7⟩; have hS7 := HKP.out w7 hb7))
            all_goals
              obtain ⟨fz, hn1, hn2⟩ := HPOST.out w7 hb7
              have HN1 := hid hn1
              have sv7 := hS7.2.2.1
              clear hn1 hb7 hS hS7 HPOST HKP CNv g0 g1 sv sf c1 c3
              go_wp2
              go_roundg (1 - (k + 1))
              case measure => omega
              case rel => exact ⟨k + 1, d2 + 1, by omega, Nat.le_refl _, by go_num, by go_num, by omega, HN1, hn2⟩
          · have z1 : ((Ln : Int) == 0) = false := beq_eq_false_iff_ne.2 (by omega)
            have z2 : ((R : Int) == 1) = false := beq_eq_false_iff_ne.2 (fun e => hL0 (hal.2 (by omega)))
            clear hal
            go_wp2_with fail
            go_region_held3 (fun X => X.cell? ⟨B, 0, none⟩ = some (.int .i64 m) ∧ X.cell? ⟨B, 1, none⟩ = some (.slice a2 K c2) ∧ X.cell? ⟨s, v, none⟩ = some (.int .i64 0) ∧ X.cell? ⟨g, off + t, none⟩ = some (.slice (some ⟨gr, or, none⟩) R ck2)) (first | exact hS | exact hS7)
              (first | (go_at_call 25; refine CNv.out.mono ?_; rintro e w7 ⟨a7, c7, rfl, hb7⟩; have hS7 := HKP.out w7 hb7))
            all_goals
              obtain ⟨fz, hn1, hn2⟩ := HPOST.out w7 hb7
              have HN1 := hid hn1
              have sv7 := hS7.2.2.1
              clear hn1 hb7 hS hS7 HPOST HKP CNv g0 g1 sv sf c1 c3
              go_wp2
              go_roundg (R - (k + 1))
              case measure => omega
              case rel => exact ⟨k + 1, d2 + 1, by omega, Nat.le_refl _, by go_num, by go_num, by omega, HN1, hn2⟩
        · obtain rfl : k = R := by omega
          have HN1 := hid (HNR.out wr hro2.out).1
          have HN2 := hid (HNR.out wr hro2.out).2
          clear crow hro2
          go_wp2
          go_roundg (X - (t + 1))
          case measure => omega
          case rel => exact ⟨t + 1, d2, by omega, Nat.le_refl _, by go_num, rfl, by rw [HSS.out, ← HRR.out]; exact hd2, HN1, HN2, hb2⟩
    · obtain rfl : t = X := by omega
      have hsum := sumTo_all HPT.out
      rw [← HXX.out] at hsum
      rw [hsum] at hd
      subst hd
      have HRF := hid (hrd.out rfl)
      clear hrw hrd hsum
      go_wp2
      go_loopg [13] K (fun G i wz => ∃ j : Nat, j ≤ K ∧ K - j ≤ G ∧ i = .int .i64 j ∧ Hid (Row1 wz s d (fun u => (cntF f (f u) : Int) + 1)) ∧ Below s w5 wz)
      case atStart => exact ⟨0, Nat.zero_le _, by omega, rfl, HRF, hbr⟩
      case round =>
        obtain ⟨j, hjK, hGj, rfl, hro, hb3⟩ := hrel
        obtain ⟨g0, g1⟩ := (HGV.out wr hb3).cells
        by_cases hjl : j < K
        · have hjr : j < ys.length := by rw [← HK.out]; exact hjl
          obtain ⟨ge, oe, ha2, _, d0, d1⟩ := (HGV.out wr hb3).at_.at2 hjr
          subst ha2
          have hin := HR.out.2.2.2.1 _ (List.getElem_mem hjr)
          obtain ⟨pa, hpa⟩ : ∃ pa : Nat, (pa : Int) = ys[j].1 := ⟨ys[j].1.toNat, by omega⟩
          obtain ⟨pb, hpb⟩ : ∃ pb : Nat, (pb : Int) = ys[j].2 := ⟨ys[j].2.toNat, by omega⟩
          have hmem : ((pa : Int), (pb : Int)) ∈ ys := by
            have : ((pa : Int), (pb : Int)) = ys[j] := Prod.ext hpa hpb
            rw [this]; exact List.getElem_mem _
          rw [← hpa] at d0
          rw [← hpb] at d1
          rw [← hpa, ← hpb] at hin
          have hpm : pa < d := by omega
          have hqm : pb < d := by omega
          have hff : f pa = f pb := (HT.out pa pb hpm hqm).2 (Cl.of (e := (pa, pb)) ((mem_prsN HR.out).2 hmem))
          obtain ⟨s1, _⟩ := hro.out.2 pa hpm
          obtain ⟨s2, _⟩ := hro.out.2 pb hqm
          dsimp only at s1 s2
          rw [← hff] at s2
          obtain ⟨cv, hcv⟩ := ex_eq ((cntF f (f pa) : Int) + 1)
          rw [← hcv] at s1 s2
          have q1 : (j : Int) < (K : Int) := by omega
          have q2 : (0 : Int) ≤ (j : Int) := by omega
          have q3 : (pa : Int) < (d : Int) := by omega
          have q4 : (0 : Int) ≤ (pa : Int) := by omega
          have q5 : (pb : Int) < (d : Int) := by omega
          have q6 : (0 : Int) ≤ (pb : Int) := by omega
          clear hmem hff hcv hpa hpb hin
          go_wp2_with fail
          go_quiet (fail)
          go_wp2
          go_roundg (K - (j + 1))
          case measure => omega
          case rel => exact ⟨j + 1, by omega, Nat.le_refl _, by go_num, Row1.belowE hro.out (below_drewN (Below.refl _ _) _), below_drewN hb3 _⟩
        · obtain rfl : j = K := by omega
          go_wp2
          go_ret
          exact ⟨rfl, by rw [← HB0.out]; exact HB5.out.trans (hb3.mono hsb)⟩
end Go.Proofs.Ythakjmfjbibbjaa
