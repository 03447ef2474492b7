/-
  carcanetlaw04.PartCounts answers true, for any part that keeps the contracts: the walk.
-/
import Derived.Test.YthakjmfjbibbjaaB12
namespace Go.Proofs.Ythakjmfjbibbjaa
open Go.RowKit Go.Lib

/-- A part, and what lies beside it. -/
structure POne (PA : World → Addr → Nat → (Nat → Nat) → (Nat → Prop) → Prop) (u w : World) (b0 : Nat) (p : Addr) (m : Nat) (f : Nat → Nat) (S : Nat → Prop) : Prop where
  pa : PA w p m f S
  ge : ∀ k, S k → b0 ≤ k
  bel : Below b0 u w
theorem POne.next {PA : World → Addr → Nat → (Nat → Nat) → (Nat → Prop) → Prop} {u w w' : World} {b0 : Nat} {p : Addr} {m : Nat} {f f' : Nat → Nat} {S : Nat → Prop} (H : POne PA u w b0 p m f S) (hN : PNext PA S w w' p m f') (h0 : b0 ≤ u.heap.size) :
    ∃ S', POne PA u w' b0 p m f' S' ∧ KeptBut S w w' ∧ ∀ k, S' k → S k ∨ w.heap.size ≤ k := by
  obtain ⟨S', h1, h2, h3, h4, h5⟩ := hN.step H.ge H.bel (Nat.le_trans h0 H.bel.size)
  exact ⟨S', ⟨h1, h2, h3⟩, h4, h5⟩
theorem POne.beside {PA : World → Addr → Nat → (Nat → Nat) → (Nat → Prop) → Prop} (O : PartOps PA) {u w w' : World} {b0 : Nat} {p : Addr} {m : Nat} {f : Nat → Nat} {S T : Nat → Prop} (H : POne PA u w b0 p m f S) (hK : KeptBut T w w') (hT : ∀ k, S k → ¬ T k) (hB : ∀ k, T k → b0 ≤ k) (h0 : b0 ≤ u.heap.size) : POne PA u w' b0 p m f S :=
  ⟨O.keep H.pa hK hT, H.ge, H.bel.trans (hK.below (Nat.le_trans h0 H.bel.size) (fun k _ e => hB k e))⟩
theorem same_in {m : Nat} {f : Nat → Nat} {x y : Nat} (hx : x < m) (hy : y < m) {r : Bool} (h : r = true ↔ f x = f y) : r = true ↔ sameI m f x y :=
  h.trans ⟨fun e => ⟨⟨by omega, by omega⟩, ⟨by omega, by omega⟩, e⟩, fun e => e.2.2⟩
theorem join_in {m : Nat} {f : Nat → Nat} {x y : Nat} (hx : x < m) (hy : y < m) {r : Bool} (h : r = true ↔ f x ≠ f y) : r = true ↔ joinI m f x y :=
  h.trans ⟨fun e => ⟨⟨by omega, by omega⟩, ⟨by omega, by omega⟩, e⟩, fun e => e.2.2⟩
theorem same_joined {m : Nat} {f : Nat → Nat} {x y : Nat} (hx : x < m) (hy : y < m) : true = true ↔ sameI m (joinR m f x y) x y :=
  ⟨fun _ => ⟨⟨by omega, by omega⟩, ⟨by omega, by omega⟩, by rw [joinR_in hx hy]; exact (joinF_same f x y x y).2 (Or.inr (Or.inl ⟨rfl, rfl⟩))⟩, fun _ => rfl⟩

set_option maxHeartbeats 4000000 in
set_option maxRecDepth 100000 in
theorem partCounts_law {PA : World → Addr → Nat → (Nat → Nat) → (Nat → Prop) → Prop} (O : PartOps PA) (n : Int) (a : Option Addr) (N cap : Nat) (l : List (Int × Int)) (w : World) (hl : N = l.length) (hE : EAt w a l) :
    Calls Try.prog 6 #[.int .i64 n, .slice a N cap] w fun e w' => e = .returned (.bool true) ∧ Below w.heap.size w w' := by
  have HO := hid O
  have HL := hid hl
  obtain ⟨b0, hb0⟩ := ex_eq w.heap.size
  have HB0 := hid hb0
  have HEB : Hid (∀ X, Below b0 w X → EAt X a l) := fun X h => hE.below (by rw [← hb0]; exact h)
  obtain ⟨p0, hp0, hp60⟩ := rnd_of n (m := 60) (by omega)
  obtain ⟨m, hm⟩ := ex_eq (p0 + 1)
  have hm1 : 1 + (p0 : Int) = (m : Int) := by omega
  have hm2 : m ≤ 60 := by omega
  have hm3 : 0 < m := by omega
  have hp1 : (bits .and .i64 n 65535).tmod 60 = (p0 : Int) := hp0
  have hp2 : (0 : Int) ≤ (p0 : Int) := by omega
  have hp3 : (p0 : Int) < 60 := by omega
  have h00 : b0 ≤ w.heap.size := by omega
  clear O hl hE hb0 hp0 hm
  go_enter Try.func6, Try.ntmps6
  go_wp2_with fail
  refine (pshown_any HO.out w).mono ?_
  rintro e w1 ⟨rfl, hb1⟩
  rw [← HB0.out] at hb1
  have hs1 : b0 ≤ w1.heap.size := Nat.le_trans h00 hb1.size
  go_wp2_with fail
  clear hp1 hp2 hp3 hp60 hm1
  refine (HO.out.new m w1).mono ?_
  rintro e w2 ⟨p, rfl, m1, S1, hmm1, hP1, hS1, hb2⟩
  obtain rfl : m1 = m := by omega
  have HT : Hid (∃ f S, POne PA w w2 b0 p m1 f S) := ⟨_, S1, hP1, fun k hk => by have := hS1 k hk; omega, hb1.trans (hb2.mono hs1)⟩
  clear hmm1 hP1 hS1 hb2 hb1
  have q4 : ¬ (m1 : Int) = 0 := by omega
  have q6 : ¬ m1 = 0 := by omega
  go_wp2
  go_loopg [8] 60 (fun G i wz => ∃ k : Nat, k ≤ 60 ∧ 60 - k ≤ G ∧ i = .int .i64 k ∧ Hid (∃ f S, POne PA w wz b0 p m1 f S))
  case atStart => exact ⟨0, Nat.zero_le _, by omega, rfl, HT⟩
  case round =>
    obtain ⟨k, hk, hG, rfl, hT⟩ := hrel
    obtain ⟨f, S, hTw⟩ := hT.out
    go_upto_region 8 with fail
    go_cut [36] from 29 to 35 (fun c wx => c = .bool (decide (k < N ∧ k < 60)) ∧ wx = wr)
    case first =>
      have hway : ((k : Int) < (N : Int) ∧ (k : Int) < 60) ∨ ¬ (k : Int) < (N : Int) ∨ ((k : Int) < (N : Int) ∧ ¬ (k : Int) < 60) := by omega
      clear hTw hT
      rcases hway with ⟨v1, v2⟩ | v1 | ⟨v1, v2⟩
      all_goals
        go_wp2_with fail
        go_meet
      all_goals first | exact ⟨congrArg Value.bool (decide_eq_decide.2 (by omega)), rfl⟩ | exact ⟨congrArg Value.bool (decide_eq_false (p := k < N ∧ k < 60) (by omega)).symm, rfl⟩ | exact ⟨congrArg Value.bool (decide_eq_true (p := k < N ∧ k < 60) (by omega)).symm, rfl⟩
    case rest =>
      obtain ⟨rfl, hwc⟩ := hcut
      rw [hwc]
      clear hwc
      by_cases hgo : k < N ∧ k < 60
      · rw [decide_eq_true hgo]
        obtain ⟨hlt, hk6⟩ := hgo
        have hkr : k < l.length := by rw [← HL.out]; exact hlt
        obtain ⟨gl, off, rfl, hgl, d0, d1⟩ := (HEB.out _ hTw.bel).at2 hkr
        obtain ⟨x, hp, hpm⟩ := rnd_of l[k].1 hm3
        obtain ⟨y, hq, hqm⟩ := rnd_of l[k].2 hm3
        obtain ⟨e1, he1⟩ := ex_eq l[k].1
        obtain ⟨e2, he2⟩ := ex_eq l[k].2
        rw [← he1] at d0 hp
        rw [← he2] at d1 hq
        have q1 : (k : Int) < (N : Int) := by omega
        have q2 : (k : Int) < 60 := by omega
        have q5 : (0 : Int) ≤ (k : Int) := by omega
        have HT1 := hid hTw
        clear he1 he2 hTw hT hgl
        by_cases hfxy : f x = f y
        · have C1 := hid (HO.out.same wr p m1 f S x y true HT1.out.pa (same_in hpm hqm ⟨fun _ => hfxy, fun _ => rfl⟩))
          have HJ : Hid (false = true ↔ joinI m1 f x y) := join_in hpm hqm ⟨fun h => (by cases h), fun h => absurd hfxy h⟩
          clear hfxy
          go_wp2_with fail
          refine C1.out.mono ?_
          rintro e w3 ⟨rfl, hN3⟩
          obtain ⟨S3, hT3, _, _⟩ := HT1.out.next hN3 h00
          have HT3 := hid hT3
          clear hN3 hT3 C1 d0 d1
          go_wp2_with fail
          refine (HO.out.join w3 p m1 f S3 x y false HT3.out.pa HJ.out).mono ?_
          rintro e w4 ⟨rfl, hN4⟩
          obtain ⟨S4, hT4, _, _⟩ := HT3.out.next hN4 h00
          have HT4 := hid hT4
          clear hN4 hT4 HT3
          go_wp2_with fail
          refine (HO.out.same w4 p m1 _ S4 x y true HT4.out.pa (same_joined hpm hqm)).mono ?_
          rintro e w5 ⟨rfl, hN5⟩
          obtain ⟨S5, hT5, _, _⟩ := HT4.out.next hN5 h00
          have HT5 : Hid (∃ f S, POne PA w w5 b0 p m1 f S) := ⟨_, _, hT5⟩
          clear hN5 hT5 HT4
          go_wp2
          go_roundg (60 - (k + 1))
          case measure => omega
          case rel => exact ⟨k + 1, by omega, Nat.le_refl _, by go_num, HT5⟩
        · have C1 := hid (HO.out.same wr p m1 f S x y false HT1.out.pa (same_in hpm hqm ⟨fun h => (by cases h), fun h => absurd h hfxy⟩))
          have HJ : Hid (true = true ↔ joinI m1 f x y) := join_in hpm hqm ⟨fun _ => hfxy, fun _ => rfl⟩
          clear hfxy
          go_wp2_with fail
          refine C1.out.mono ?_
          rintro e w3 ⟨rfl, hN3⟩
          obtain ⟨S3, hT3, _, _⟩ := HT1.out.next hN3 h00
          have HT3 := hid hT3
          clear hN3 hT3 C1 d0 d1
          go_wp2_with fail
          refine (HO.out.join w3 p m1 f S3 x y true HT3.out.pa (by simpa using HJ.out)).mono ?_
          rintro e w4 ⟨rfl, hN4⟩
          obtain ⟨S4, hT4, _, _⟩ := HT3.out.next hN4 h00
          have HT4 := hid hT4
          clear hN4 hT4 HT3
          go_wp2_with fail
          refine (HO.out.same w4 p m1 _ S4 x y true HT4.out.pa (same_joined hpm hqm)).mono ?_
          rintro e w5 ⟨rfl, hN5⟩
          obtain ⟨S5, hT5, _, _⟩ := HT4.out.next hN5 h00
          have HT5 : Hid (∃ f S, POne PA w w5 b0 p m1 f S) := ⟨_, _, hT5⟩
          clear hN5 hT5 HT4
          go_wp2
          go_roundg (60 - (k + 1))
          case measure => omega
          case rel => exact ⟨k + 1, by omega, Nat.le_refl _, by go_num, HT5⟩
      · rw [decide_eq_false hgo]
        have HT1 := hid hTw
        have HPT := hid (HO.out.own hTw.pa).1
        clear hgo hTw hT HEB
        go_wp2_with fail
        refine (HO.out.classes wr p m1 f S HT1.out.pa).mono ?_
        rintro e w7 ⟨v7, rfl, S7, a7, c7, rfl, hI7, hP7, hE7, hK7⟩
        obtain ⟨S7', hT7, _, _⟩ : ∃ S7', POne PA w w7 b0 p m1 f S7' ∧ S7' = S7 ∧ True := ⟨S7, ⟨hP7, fun k hk => (hE7 k hk).elim (HT1.out.ge k) (fun e => Nat.le_trans (Nat.le_trans h00 HT1.out.bel.size) e), HT1.out.bel.trans (hK7.below (Nat.le_trans h00 HT1.out.bel.size) (fun k _ e => HT1.out.ge k e))⟩, rfl, trivial⟩
        rename_i hSS _
        subst hSS
        have hs7 := hK7.size
        obtain ⟨sz0, hsz0⟩ := ex_eq wr.heap.size
        obtain ⟨s, hs⟩ := ex_eq w7.heap.size
        have hS7l := (HO.out.own hP7).2.2
        have hszb : b0 ≤ sz0 := by rw [hsz0]; exact Nat.le_trans h00 HT1.out.bel.size
        obtain ⟨C, hC⟩ := ex_eq (classesF m1 f).length
        have HCC := hid hC
        rw [← hC]
        obtain ⟨i2, hk2, hx0, hx1, hx2⟩ := info_parts Try.info4
        obtain ⟨w8, hrun, hown, hgrow⟩ := run_make_full (P := Try.prog) w7 w7.heap.size 41 4 i2 (.bool false) 1 Try.underlying41 hk2 hx0 hx1 .i64 .i64 m1 (by rw [hx2]; omega) (by unfold maxLen; omega) (Nat.le_refl _)
        have hb8 : Below w7.heap.size w7 w8 := Below.grown (Below.refl _ _) hgrow (Nat.le_refl _) (fun k hk => by cases hk)
        have hrow8 : RowB w8 s m1 (fun _ => false) := by rw [hs]; exact rowB_made hown
        obtain ⟨AR, hAR⟩ := ex_eq (fun k => (sz0 ≤ k ∧ ¬ S7' k) ∧ k < s)
        have HLL : Hid (LLIn w8 AR a7 (classesF m1 f)) := (by rw [hAR, hsz0, hs]; exact hI7.bound.below hb8)
        have HAR : Hid (∀ k, AR k → b0 ≤ k ∧ k < s) := fun k hk => by rw [hAR] at hk; exact ⟨by have := hk.1.1; omega, hk.2⟩
        have hs8 : s < w8.heap.size := hrow8.1
        have HST : Hid (∃ S', POne PA w w8 b0 p m1 f S' ∧ ∀ k, AR k ∨ k = s → ¬ S' k) := ⟨S7', hT7.beside HO.out (KeptBut.of_whole (fun _ => False) hb8) (fun _ _ e => e) (fun _ e => e.elim) h00, fun k hk e => by
          rcases hk with hk | hk
          · rw [hAR] at hk; exact hk.1.2 e
          · have := hS7l k e; omega⟩
        have HRW : Hid (∀ h : 0 < (repsF m1 f).length, RowB w8 s m1 (seenTo m1 f (repsF m1 f)[0] 0)) := fun h => hrow8.congr (seenTo_start HPT.out h)
        rw [← hs] at hrun
        have hsb : b0 ≤ s := by omega
        clear hI7 hP7 hE7 hK7 hT7 hAR hown hgrow hk2 hx0 hx1 hx2 hb8 hrow8 hC hsz0 hs hs7 hS7l
        go_wp2
        clear hrun
        have HLR : Hid ((repsF m1 f).length = C) := by
          show (repsF m1 f).length = C
          rw [HCC.out, classesF_len]
        have hC60 : C ≤ m1 := by rw [HCC.out, classesF_len]; exact reps_len _ _
        go_loopg [7, 15, 16] C (fun G lf la i wz => ∃ (t d : Nat) (la' : Int), t ≤ C ∧ C - t ≤ G ∧ i = .int .i64 t ∧ lf = .int .i64 d ∧ d + sumTo m1 f t = m1 ∧ la = .int .i64 la' ∧ Hid (∀ h : t < (repsF m1 f).length, la' < ((repsF m1 f)[t] : Int)) ∧ Hid (∃ S', POne PA w wz b0 p m1 f S' ∧ ∀ k, AR k ∨ k = s → ¬ S' k) ∧ Hid (LLIn wz AR a7 (classesF m1 f)) ∧ Hid (∀ h : t < (repsF m1 f).length, RowB wz s m1 (seenTo m1 f (repsF m1 f)[t] 0)) ∧ s < wz.heap.size)
        case atStart => exact ⟨0, m1, -1, Nat.zero_le _, by omega, rfl, rfl, Nat.add_zero _, rfl, fun h => by omega, HST, HLL, HRW, hs8⟩
        case round =>
          obtain ⟨t, d, la', htC, hGt, rfl, rfl, hd, rfl, hla, hst, hll, hrw, hsw⟩ := hrel
          by_cases htl : t < C
          · have htr : t < (repsF m1 f).length := by rw [HLR.out]; exact htl
            have htc : t < (classesF m1 f).length := by rw [← HCC.out]; exact htl
            obtain ⟨r, hr⟩ := ex_eq (repsF m1 f)[t]
            have hrr := reps_at_is htr
            have hcl := classesF_at htc htr
            rw [← hr] at hrr hcl
            have hlar := hla.out htr
            rw [← hr] at hlar
            obtain ⟨rest, hhead⟩ := class_head HPT.out (i := r) (mem_reps.2 hrr)
            have HSS := hid (sumTo_succ htc)
            rw [hcl] at HSS
            obtain ⟨R, hR⟩ := ex_eq (classF m1 f r).length
            have HR := hid hR
            have hR0 : 0 < R := by rw [hR, hhead]; simp
            have HAT : Hid (∀ X, LLIn X AR a7 (classesF m1 f) → ∃ g off gr or ck, a7 = some ⟨g, off, none⟩ ∧ X.cell? ⟨g, off + t, none⟩ = some (.slice (some ⟨gr, or, none⟩) R ck) ∧ ∀ k (h : k < (classF m1 f r).length), X.cell? ⟨gr, or + k, none⟩ = some (.int .i64 (classF m1 f r)[k])) := fun X hX => by
              obtain ⟨g, off, ak, ck, h1, h2, h3⟩ := hX.cell htc
              rw [hcl] at h2 h3
              obtain ⟨gr, or, h4, h5, h6⟩ := h3 (by rw [← hR]; exact hR0)
              subst h4
              rw [← hR] at h2
              exact ⟨g, off, gr, or, ck, h1, h2, h6⟩
            have hbR : R ≤ m1 := by rw [hR]; exact class_len _ _ _
            have HRO : Hid (RowB wr s m1 (seenTo m1 f r 0)) := by rw [hr]; exact hrw.out htr
            have HNL : Hid (∀ h : t + 1 < (repsF m1 f).length, (r : Int) < ((repsF m1 f)[t + 1] : Int)) := fun h => by have := reps_at_lt (f := f) (show t < t + 1 by omega) h; omega
            have HNR : Hid (∀ X, RowB X s m1 (seenTo m1 f r R) → ∀ h : t + 1 < (repsF m1 f).length, RowB X s m1 (seenTo m1 f (repsF m1 f)[t + 1] 0)) := fun X hX h => hX.congr (fun u hu => by rw [hR, hr]; exact seenTo_next HPT.out h htr u hu)
            obtain ⟨g, off, gr, or, ck, rfl, c1, c2⟩ := HAT.out wr hll.out
            have c3 := c2 0 (by rw [← hR]; exact hR0)
            have e3 : (classF m1 f r)[0]'(by rw [← hR]; exact hR0) = (r : Int) := by simp [hhead]
            rw [e3, Nat.add_zero] at c3
            have q1 : (t : Int) < (C : Int) := by omega
            have q2 : (0 : Int) ≤ (t : Int) := by omega
            have q3 : (0 : Int) < (R : Int) := by omega
            have q7 : ¬ (R : Int) = 0 := by omega
            have q8 : ((R : Int) == 0) = false := beq_eq_false_iff_ne.2 q7
            have q9 : ¬ (r : Int) ≤ la' := by omega
            have hrf := hrr.2
            have HRF := hid hrf
            have hrm := hrr.1
            clear hr hcl hla hrw hhead hR c2 e3 hrr hrf
            go_wp2
            clear c1 c3 q9 q8 q7 hlar
            go_loopg [7, 17] R (fun G lf kk wz => ∃ (k d : Nat), k ≤ R ∧ R - k ≤ G ∧ kk = .int .i64 k ∧ lf = .int .i64 d ∧ d + (sumTo m1 f t + k) = m1 ∧ Hid (∃ S', POne PA w wz b0 p m1 f S' ∧ ∀ k, AR k ∨ k = s → ¬ S' k) ∧ Hid (LLIn wz AR (some ⟨g, off, none⟩) (classesF m1 f)) ∧ Hid (RowB wz s m1 (seenTo m1 f r k)) ∧ s < wz.heap.size)
            case atStart => exact ⟨0, d, Nat.zero_le _, by omega, rfl, rfl, by omega, hst, hll, HRO, hsw⟩
            case round =>
              obtain ⟨k, d2, hkR, hGk, rfl, rfl, hd2, hst2, hll2, hro2, hsw2⟩ := hrel
              obtain ⟨g', off', gr, or, ck2, hg', c1, c2⟩ := HAT.out wr hll2.out
              cases hg'
              by_cases hkl : k < R
              · have hkc : k < (classF m1 f r).length := by rw [← HR.out]; exact hkl
                obtain ⟨v, hv, hvm, hvf⟩ := mem_class.1 (List.getElem_mem hkc)
                have c3 := c2 k hkc
                rw [hv] at c3
                have hsn := seenTo_new hkc hv
                obtain ⟨sv, sf⟩ := hro2.out.2 v hvm
                rw [hsn] at sv
                obtain ⟨S', hT2, hsep⟩ := hst2.out
                have CS := hid (HO.out.same wr p m1 f S' v r true hT2.pa (same_in hvm hrm ⟨fun _ => hvf.trans HRF.out.symm, fun _ => rfl⟩))
                have HPOST : Hid (∀ w', PNext PA S' wr w' p m1 f → (w'.cell? ⟨s, v, none⟩ = some (.bool false) ∧ w'.frozen? ⟨s, v, none⟩ = false) ∧ (∃ S'', POne PA w (w'.setCell ⟨s, v, none⟩ (.bool true)) b0 p m1 f S'' ∧ ∀ k, AR k ∨ k = s → ¬ S'' k) ∧ LLIn (w'.setCell ⟨s, v, none⟩ (.bool true)) AR (some ⟨g, off, none⟩) (classesF m1 f) ∧ RowB (w'.setCell ⟨s, v, none⟩ (.bool true)) s m1 (seenTo m1 f r (k + 1)) ∧ s < (w'.setCell ⟨s, v, none⟩ (.bool true)).heap.size) := fun w' hN => by
                  obtain ⟨S'', h1, h2, h3⟩ := hT2.next hN h00
                  have hkp : KeptBut (fun k => k = s) w' (w'.setCell ⟨s, v, none⟩ (.bool true)) := kept_set _ ⟨s, v, none⟩ _
                  have hsp : ∀ k, AR k ∨ k = s → ¬ S'' k := fun k hk e => (h3 k e).elim (hsep k hk) (fun e => by
                    rcases hk with hk | hk
                    · have := (HAR.out k hk).2; omega
                    · omega)
                  have hr1 := hro2.out.kept h2 (hsep s (Or.inr rfl))
                  have hsz := h2.size
                  refine ⟨⟨?_, (hr1.2 v hvm).2⟩, ⟨S'', h1.beside HO.out hkp (fun k hk e => hsp k (Or.inr e) hk) (fun k e => by omega) h00, hsp⟩, (hll2.out.kept h2 (fun k hA _ e => hsep k (Or.inl hA) e)).kept hkp (fun k hA _ e => by have := (HAR.out k hA).2; omega), (hr1.put hvm true).congr (seenTo_put hkc hv), by simp; omega⟩
                  rw [(hr1.2 v hvm).1, hsn]
                have hsl := sumTo_le HPT.out (t + 1)
                rw [HSS.out, ← HR.out] at hsl
                obtain ⟨d3, hd3⟩ : ∃ d3, d2 = d3 + 1 := ⟨d2 - 1, by omega⟩
                subst hd3
                have q3' : (k : Int) < (R : Int) := by omega
                have q4' : (0 : Int) ≤ (k : Int) := by omega
                have q5' : (v : Int) < (m1 : Int) := by omega
                have q6' : (0 : Int) ≤ (v : Int) := by omega
                have q7' : ¬ (v : Int) < 0 := by omega
                have q8' : ¬ (m1 : Int) ≤ (v : Int) := by omega
                by_cases hk0 : k = 0
                · subst hk0
                  rw [Nat.add_zero] at c3
                  have q9' : ¬ ((0 : Nat) : Int) > 0 := by omega
                  clear c2 hv hvf hsn hst2 hll2 hro2 hT2 hsep
                  go_wp2_with fail
                  refine CS.out.mono ?_
                  rintro e w9 ⟨rfl, hN9⟩
                  obtain ⟨⟨z1, z2⟩, z3, z4, z5, z6⟩ := HPOST.out w9 hN9
                  have HZ3 := hid z3
                  have HZ4 := hid z4
                  have HZ5 := hid z5
                  clear hN9 z3 z4 z5 HPOST CS c1 c3 sv sf
                  go_wp2
                  go_roundg (R - (0 + 1))
                  case measure => omega
                  case rel => exact ⟨0 + 1, d3, by omega, Nat.le_refl _, by go_num, by go_num, by omega, HZ3, HZ4, HZ5, z6⟩
                · obtain ⟨k', rfl⟩ : ∃ k', k = k' + 1 := ⟨k - 1, by omega⟩
                  have hkc' : k' < (classF m1 f r).length := by omega
                  obtain ⟨pv, hpv, _, _⟩ := mem_class.1 (List.getElem_mem hkc')
                  have c4 := c2 k' hkc'
                  have hlt4 := List.pairwise_iff_getElem.1 (class_rises m1 f r) k' (k' + 1) hkc' hkc (by omega)
                  rw [hpv] at c4 hlt4
                  rw [hv] at hlt4
                  have hk1 : ((k' + 1 : Nat) : Int) - 1 = (k' : Int) := by omega
                  have r8 : IntKind.i64.wrap (k' : Int) = (k' : Int) := by rw [IntKind.wrap_i64]; omega
                  have q9' : (0 : Int) < ((k' + 1 : Nat) : Int) := by omega
                  have q10 : ¬ (v : Int) ≤ (pv : Int) := by omega
                  have q11 : (k' : Int) < (R : Int) := by omega
                  have q12 : (0 : Int) ≤ (k' : Int) := by omega
                  obtain ⟨kk, hkk⟩ := ex_eq (k' + 1)
                  rw [← hkk] at hk1 q9' q3' q4' c3
                  have HKK := hid hkk
                  rw [← hkk] at HPOST hGk hkR hkl hd2 ⊢
                  clear c2 hv hvf hsn hst2 hll2 hro2 hT2 hsep hpv hkc hkc' hlt4 hkk hk0
                  go_wp2_with fail
                  refine CS.out.mono ?_
                  rintro e w9 ⟨rfl, hN9⟩
                  obtain ⟨⟨z1, z2⟩, z3, z4, z5, z6⟩ := HPOST.out w9 hN9
                  have HZ3 := hid z3
                  have HZ4 := hid z4
                  have HZ5 := hid z5
                  clear hN9 z3 z4 z5 HPOST CS c1 c3 c4 sv sf
                  go_wp2
                  go_roundg (R - (kk + 1))
                  case measure => omega
                  case rel => exact ⟨kk + 1, d3, by omega, Nat.le_refl _, by go_num, by go_num, by omega, HZ3, HZ4, HZ5, z6⟩
              · obtain rfl : k = R := by omega
                go_wp2
                go_roundg (C - (t + 1))
                case measure => omega
                case rel => exact ⟨t + 1, d2, _, by omega, Nat.le_refl _, by go_num, rfl, by rw [HSS.out, ← HR.out]; omega, rfl, HNL, hst2, hll2, HNR.out _ hro2.out, hsw2⟩
          · obtain rfl : t = C := by omega
            have hsum := sumTo_all HPT.out
            rw [← HCC.out] at hsum
            obtain rfl : d = 0 := by omega
            obtain ⟨S', hT9, _⟩ := hst.out
            have HT9 := hid hT9
            have CC : Hid (Calls Try.prog 17 #[.pointer (some p)] wr fun e w' => e = .returned (.int .i64 t) ∧ PNext PA S' wr w' p m1 f) := by
              have h := HO.out.count wr p m1 f S' hT9.pa
              rw [show cntF f m1 = t from HLR.out] at h
              exact h
            clear hst hll hrw hT9 hla hd hsum
            go_wp2_with fail
            refine CC.out.mono ?_
            rintro e w10 ⟨rfl, hN10⟩
            obtain ⟨S10, hT10, _, _⟩ := HT9.out.next hN10 h00
            have HB10 := hid hT10.bel
            clear hN10 hT10 CC
            go_wp2
            go_ret
            exact ⟨rfl, by rw [← HB0.out]; exact HB10.out⟩
end Go.Proofs.Ythakjmfjbibbjaa
