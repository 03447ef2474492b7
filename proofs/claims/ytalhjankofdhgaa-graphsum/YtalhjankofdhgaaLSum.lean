/-
  carcanetlaw03.GraphSum answers true.
-/
import Derived.Test.YtalhjankofdhgaaRAny
import Derived.Test.YtalhjankofdhgaaRHas
import Derived.Test.YtalhjankofdhgaaGDeg
import Derived.Deep.RegionHeld3
namespace Go.Proofs.Ytalhjankofdhgaa
open Go.RowKit Go.Lib

/-- A sum over the vertices below n. -/
def sumN (f : Nat → Nat) : Nat → Nat
  | 0 => 0
  | n + 1 => sumN f n + f n
theorem sumN_add (f g : Nat → Nat) (n : Nat) : sumN (fun v => f v + g v) n = sumN f n + sumN g n := by
  induction n with
  | zero => rfl
  | succ n ih => simp only [sumN, ih]; omega
theorem sumN_congr {f g : Nat → Nat} (h : ∀ v, f v = g v) (n : Nat) : sumN f n = sumN g n := by
  induction n with
  | zero => rfl
  | succ n ih => simp only [sumN, ih, h]
theorem sumN_zero (n : Nat) : sumN (fun _ => 0) n = 0 := by
  induction n with
  | zero => rfl
  | succ n ih => simp only [sumN, ih]
theorem sumN_at (a n : Nat) : sumN (fun v => if v = a then 1 else 0) n = if a < n then 1 else 0 := by
  induction n with
  | zero => rfl
  | succ n ih =>
    simp only [sumN, ih]
    by_cases h1 : a < n
    · rw [if_pos h1, if_neg (by omega), if_pos (by omega)]
    · by_cases h2 : n = a
      · rw [if_neg h1, if_pos h2, if_pos (by omega)]
      · rw [if_neg h1, if_neg h2, if_neg (by omega)]
theorem sumN_le (f : Nat → Nat) {a n : Nat} (h : a ≤ n) : sumN f a ≤ sumN f n := by
  induction n with
  | zero => obtain rfl : a = 0 := by omega
            exact Nat.le_refl _
  | succ n ih =>
    by_cases e : a = n + 1
    · subst e; exact Nat.le_refl _
    · have := ih (by omega)
      simp only [sumN]; omega
theorem other_len {a b v : Nat} (h : a ≠ b) : (other (v : Int) ((a : Int), (b : Int))).length = (if v = a then 1 else 0) + (if v = b then 1 else 0) := by
  unfold other
  by_cases h1 : v = a
  · subst h1
    rw [if_pos rfl, if_pos rfl, if_neg h]; rfl
  · by_cases h2 : v = b
    · subst h2
      rw [if_neg (fun e => h1 (by have e' : (a : Int) = v := e; omega)), if_pos rfl, if_neg h1, if_pos rfl]; rfl
    · rw [if_neg (fun e => h1 (by have e' : (a : Int) = v := e; omega)), if_neg (fun e => h2 (by have e' : (b : Int) = v := e; omega)), if_neg h1, if_neg h2]; rfl
theorem deg_sum (m : Nat) : ∀ es : List (Int × Int), (∀ e ∈ es, 0 ≤ e.1 ∧ e.1 < e.2 ∧ e.2 < m) → sumN (fun v => (nbL v es).length) m = 2 * es.length
  | [], _ => sumN_zero m
  | e :: es, h => by
    have h0 := h e (by simp)
    have ih := deg_sum m es (fun x hx => h x (by simp [hx]))
    obtain ⟨a, ha⟩ : ∃ a : Nat, e.1 = a := ⟨e.1.toNat, by omega⟩
    obtain ⟨b, hb⟩ : ∃ b : Nat, e.2 = b := ⟨e.2.toNat, by omega⟩
    have he : e = ((a : Int), (b : Int)) := by rw [← ha, ← hb]
    have hab : a ≠ b := by omega
    rw [sumN_congr (g := fun v => ((if v = a then 1 else 0) + (if v = b then 1 else 0)) + (nbL v es).length) (fun v => by
      show (other (v : Int) e ++ nbL v es).length = _
      rw [List.length_append, he, other_len hab])]
    rw [sumN_add, sumN_add, sumN_at, sumN_at, ih, if_pos (by omega), if_pos (by omega)]
    simp; omega
theorem nbL_self {n v : Int} {es : List (Int × Int)} (h : RightG n es) : v ∉ nbL v es := fun hm => by
  rcases (nbL_right h).1 hm with h1 | h1
  · have := h.2.2.2.1 _ h1; simp only at this; omega
  · have := h.2.2.2.1 _ h1; simp only at this; omega
theorem nbL_back {n v y : Int} {es : List (Int × Int)} (h : RightG n es) (hm : y ∈ nbL v es) : v ∈ nbL y es := by
  rw [nbL_right h] at hm ⊢
  exact hm.symm
theorem rise_at {xs : List Int} (h : xs.Pairwise (· < ·)) {j : Nat} (h0 : 0 < j) (hj : j < xs.length) : xs[j - 1]'(by omega) < xs[j] := (List.pairwise_iff_getElem.1 h) (j - 1) j (by omega) hj (by omega)
theorem iat_at {w : World} {a : Option Addr} {xs : List Int} (h : IAt w a xs) {k : Nat} (hk : k < xs.length) : ∃ g off, a = some ⟨g, off, none⟩ ∧ w.cell? ⟨g, off + k, none⟩ = some (.int .i64 xs[k]) := by
  obtain ⟨g, off, ha, _, hc⟩ := h (by omega)
  exact ⟨g, off, ha, hc k hk⟩

theorem takeD {P : Program} {ops : Array Oper} {Q : Exit → Act → World → Prop} {md : Region.Mode} {S : World → Prop} {i : Nat} {oi : Oper} {dst : Option Tmp} {v : Value} {fuel : Nat} {listed : Array Bool} {a : Act} {w : World} (hi : ops[i]? = some oi) (hd : oi.dst = dst)
    (hs : Region.noSelect ops = true) (hf : Region.free md ops listed i = true) (hr : (Region.ready md ops listed).contains i = true)
    (hQ : ∀ c a w, Q (.panic c) (a.put dst v) w → Q (.panic c) a w) (hy : YieldsIf P ops S oi v a) (hS : S w)
    (h : wpAnyH P md ops Q S fuel (listed.setIfInBounds i true) (a.put dst v) w) : wpAnyH P md ops Q S (fuel + 1) listed a w := by
  subst hd
  exact wpAnyH_take hi hs hf hr hQ hy hS h

set_option maxHeartbeats 4000000 in
set_option maxRecDepth 100000 in
theorem sum_law (n : Int) (a : Option Addr) (len cap : Nat) (l : List (Int × Int)) (w : World) (hl : len = l.length) (hE : EAt w a l) :
    Calls Try.prog 9 #[.int .i64 n, .slice a len cap] w fun e w' => e = .returned (.bool true) ∧ Below w.heap.size w w' := by
  have HL := hid hl
  have HE := hid hE
  clear hl hE
  go_enter Try.func9, Try.ntmps9
  go_wp2_with fail
  refine (shown_any _).mono ?_
  rintro e w1 ⟨rfl, hb1⟩
  have CA := hid (any_any n a len cap l 50 w1 (by omega) HL.out (HE.out.below hb1))
  go_wp2_with fail
  refine CA.out.mono ?_
  rintro e w2 ⟨m, ys, a2, c2, rfl, hm50, hR, hys, hsl, hE2, hb2⟩
  obtain ⟨K, hK⟩ := ex_eq ys.length
  rw [← hK]
  have HK := hid hK
  obtain ⟨V2, hV2⟩ := ex_eq (w2.alloc (.cells #[.int .i64 m, .slice a2 K c2] 25))
  obtain ⟨B, hB⟩ := ex_eq w2.heap.size
  have hbV2 : Below w2.heap.size w2 V2 := by rw [hV2]; exact below_new _ _
  have HG2 : Hid (GC V2 B m a2 K c2 ys) := by
    show GC V2 _ _ _ _ _ _
    rw [hV2, hB]; exact gc_new hE2
  have hBX2 : Below w1.heap.size w1 V2 := hb2.trans (hbV2.mono hb2.size)
  have HB2 : Hid (Below w.heap.size w V2) := hb1.trans (hBX2.mono hb1.size)
  have HV2 := hid hV2
  have HBB := hid hB
  have HR := hid hR
  have hK3 : K ≤ 300 := by omega
  obtain ⟨D, hD⟩ := ex_eq ((List.range m).map (fun v : Nat => ((nbL v ys).length : Int)))
  have HDL : Hid (D.length = m) := by show D.length = m; rw [hD]; simp
  have HDA : Hid (∀ v (h : v < D.length), D[v] = ((nbL v ys).length : Int)) := fun v h => by simp [hD]
  have CD : Hid (Calls Try.prog 21 #[.agg #[.int .i64 m, .slice a2 K c2]] V2 fun e w' => ∃ a3 c3, e = .returned (.slice a3 m c3) ∧ IAt w' a3 D ∧ Below V2.heap.size V2 w') := by
    show Calls _ _ _ _ _
    rw [HK.out]
    exact (degrees_any m a2 c2 ys true V2 (by omega) HG2.out.at_ ⟨fun _ => HR.out, fun _ => rfl⟩).mono fun _ _ ⟨a3, c3, D2, he, h2, h3, h4⟩ => by
      rw [if_pos rfl, Int.toNat_natCast, ← hD] at h2
      subst h2
      rw [HDL.out] at he
      exact ⟨a3, c3, he, h3, h4⟩
  have CN : Hid (∀ W (x : Int), GC W B m a2 K c2 ys → Calls Try.prog 19 #[.agg #[.int .i64 m, .slice a2 K c2], .int .i64 x] W fun e w' => ∃ a4 c4, e = .returned (.slice a4 (nbL x ys).length c4) ∧ IAt w' a4 (nbL x ys) ∧ Below W.heap.size W w') := fun W x h => by
    rw [HK.out]
    exact near_any m a2 c2 ys x true (nbL x ys) W (by omega) h.at_ ⟨fun _ => HR.out, fun _ => rfl⟩ rfl
  have HNL : Hid (∀ x, (nbL x ys).length ≤ K) := fun x => by rw [HK.out]; exact nbL_len _ _
  have HSM : Hid (sumN (fun v => (nbL v ys).length) m = 2 * K) := by show _ = _; rw [HK.out]; exact deg_sum m ys HR.out.2.2.2.1
  clear hK hV2 hbV2 hBX2 hE2 hb2 hR hys hsl CA hb1 hB HE HL hD
  obtain ⟨g0, g1⟩ := HG2.out.cells
  rw [HV2.out, HBB.out] at g0 g1
  go_wp2_with fail
  rw [← HV2.out]
  refine CD.out.mono ?_
  rintro e w3 ⟨a3, c3, rfl, hD3, hb3⟩
  have HG3 := hid (HG2.out.on hb3)
  have HD3 := hid hD3
  have HB3 : Hid (Below w.heap.size w w3) := HB2.out.trans (hb3.mono HB2.out.size)
  rw [← HBB.out]
  clear g0 g1 hb3 hD3 HG2 HB2 CD HV2 HBB
  obtain ⟨g0, g1⟩ := HG3.out.cells
  go_wp2
  go_loopg [8, 9] m (fun G s i wz => ∃ v S : Nat, v ≤ m ∧ m - v ≤ G ∧ s = .int .i64 S ∧ i = .int .i64 v ∧ Hid (S = sumN (fun u => (nbL u ys).length) v) ∧ Hid (GC wz B m a2 K c2 ys ∧ IAt wz a3 D ∧ Below w.heap.size w wz))
  case atStart => exact ⟨0, 0, Nat.zero_le _, by omega, rfl, rfl, rfl, HG3.out, HD3.out, HB3.out⟩
  case round =>
    obtain ⟨v, S, hv, hG, rfl, rfl, hS, hw⟩ := hrel
    clear g0 g1 HG3 HD3 HB3
    have HGr := hid hw.out.1
    have HDr := hid hw.out.2.1
    have HBr := hid hw.out.2.2
    clear hw
    obtain ⟨g0, g1⟩ := HGr.out.cells
    by_cases hvm : v < m
    · obtain ⟨gd, od, had, cd⟩ := iat_at HDr.out (show v < D.length by rw [HDL.out]; exact hvm)
      subst had
      rw [HDA.out] at cd
      obtain ⟨d, hd⟩ := ex_eq (nbL (v : Int) ys).length
      rw [← hd] at cd
      have HD := hid hd
      have q1 : (v : Int) < (m : Int) := by omega
      have q2 : (0 : Int) ≤ (v : Int) := by omega
      have hSd : S + d ≤ 600 := by
        have h1 := sumN_le (fun u => (nbL (u : Int) ys).length) (show v + 1 ≤ m by omega)
        simp only [sumN] at h1
        rw [← hS.out, ← hd, HSM.out] at h1
        omega
      have q3 : (S : Int) + (d : Int) ≤ 600 := by omega
      have q4 : (0 : Int) ≤ (S : Int) + (d : Int) := by omega
      have HSN : Hid (S + d = sumN (fun u => (nbL (u : Int) ys).length) (v + 1)) := by
        show _ = _
        simp only [sumN]
        rw [← hS.out, ← hd]
      clear hd
      go_wp2_with fail
      refine (CN.out _ v HGr.out).mono ?_
      rintro e w4 ⟨a4, c4, rfl, hI4, hb4⟩
      rw [← HD.out]
      have HG4 := hid (HGr.out.on hb4)
      have HD4 := hid (HDr.out.below hb4)
      have HI4 := hid hI4
      have HB4 : Hid (Below w.heap.size w w4) := HBr.out.trans (hb4.mono HBr.out.size)
      have cd4 : w4.cell? ⟨gd, od + v, none⟩ = some (.int .i64 (d : Int)) := (hb4.cell (block_lt_of_cell cd)).trans cd
      clear g0 g1 cd hb4 hI4 HGr HDr HBr
      obtain ⟨g0, g1⟩ := HG4.out.cells
      go_wp2
      go_loopg [11] d (fun G2 i wz => ∃ j : Nat, j ≤ d ∧ d - j ≤ G2 ∧ i = .int .i64 j ∧ Hid (GC wz B m a2 K c2 ys ∧ IAt wz (some ⟨gd, od, none⟩) D ∧ IAt wz a4 (nbL v ys) ∧ Below w.heap.size w wz))
      case atStart => exact ⟨0, Nat.zero_le _, by omega, rfl, HG4.out, HD4.out, HI4.out, HB4.out⟩
      case round =>
        obtain ⟨j, hj, hG2, rfl, hw⟩ := hrel
        clear g0 g1 cd4 HG4 HD4 HI4 HB4
        have HGr := hid hw.out.1
        have HDr := hid hw.out.2.1
        have HIr := hid hw.out.2.2.1
        have HBr := hid hw.out.2.2.2
        clear hw
        obtain ⟨g0, g1⟩ := HGr.out.cells
        by_cases hjd : j < d
        · have hjL : j < (nbL (v : Int) ys).length := by rw [← HD.out]; exact hjd
          obtain ⟨gn, on, han, cn⟩ := iat_at HIr.out hjL
          obtain ⟨x, hx⟩ := ex_eq ((nbL (v : Int) ys)[j])
          rw [← hx] at cn
          have hxm : x ∈ nbL (v : Int) ys := by rw [hx]; exact List.getElem_mem _
          have hxv : ¬ x = (v : Int) := fun e => nbL_self HR.out (by rw [e] at hxm; exact hxm)
          have hxv2 : (x == (v : Int)) = false := beq_eq_false_iff_ne.2 hxv
          have HVX := hid (nbL_back HR.out hxm)
          have CI : Hid (∀ W a6 c6, IAt W a6 (nbL x ys) → Calls Try.prog 29 #[.slice a6 (nbL x ys).length c6, .int .i64 v] W fun e w' => e = .returned (.bool true) ∧ w' = W) := fun W a6 c6 h => by
            have := in_any a6 c6 (nbL x ys) v W (by have := HNL.out x; omega) h
            rwa [decide_eq_true HVX.out] at this
          have HXX := hid hx
          subst han
          have r1 : (j : Int) < (d : Int) := by omega
          have r2 : (0 : Int) ≤ (j : Int) := by omega
          clear hxm hx
          by_cases hj0 : j = 0
          · subst hj0
            have cn0 : wr.cell? ⟨gn, on, none⟩ = some (.int .i64 x) := cn
            have hz : ((0 : Nat) : Int) = 0 := rfl
            rw [hz]
            clear hz
            have d1 : decide ((0 : Int) > 0) = false := rfl
            have d2 : decide ((0 : Int) < 0) = false := rfl
            have d3 : decide (x = (v : Int)) = false := decide_eq_false hxv
            have r3 : (0 : Int) < (d : Int) := by omega
            clear cn r1 r2
            go_wp2_with fail
            have hbd : Below wr.heap.size wr wr.drew := (Below.refl _ _).drew
            have HGd := hid (HGr.out.on hbd)
            have HDd := hid (HDr.out.below hbd)
            have HId := hid (HIr.out.below hbd)
            have HBd : Hid (Below w.heap.size w wr.drew) := HBr.out.trans (hbd.mono HBr.out.size)
            have hS : wr.drew.cell? ⟨B, 0, none⟩ = some (.int .i64 m) ∧ wr.drew.cell? ⟨B, 1, none⟩ = some (.slice a2 K c2) ∧ wr.drew.cell? ⟨gn, on, none⟩ = some (.int .i64 x) := ⟨g0, g1, cn0⟩
            clear hbd HGr HDr HIr HBr
            refine wp_region_held_drew (S := (fun X => X.cell? ⟨B, 0, none⟩ = some (.int .i64 m) ∧ X.cell? ⟨B, 1, none⟩ = some (.slice a2 K c2) ∧ X.cell? ⟨gn, on, none⟩ = some (.int .i64 x))) (by kernel_rfl) hS (fun hHeld => ?_)
            refine takeD (i := 0) (dst := some 51) (v := .int .i64 0) rfl rfl (by kernel_rfl) (by kernel_rfl) (by kernel_rfl) (fun _ _ _ h => h) (Or.inl ⟨by rfl, fun w hSw => by (dsimp only at hSw; go_simp)⟩) hHeld ?_
            simp only [Act.put, List.setIfInBounds_toArray, List.set_cons_zero, List.set_cons_succ]
            refine takeD (i := 1) (dst := some 52) (v := .bool false) rfl rfl (by kernel_rfl) (by kernel_rfl) (by kernel_rfl) (fun _ _ _ h => h) (Or.inl ⟨by rfl, fun w hSw => by (dsimp only at hSw; go_simp)⟩) hHeld ?_
            simp only [Act.put, List.setIfInBounds_toArray, List.set_cons_zero, List.set_cons_succ]
            refine takeD (i := 2) (dst := some 53) (v := .bool false) rfl rfl (by kernel_rfl) (by kernel_rfl) (by kernel_rfl) (fun _ _ _ h => h) (Or.inl ⟨by rfl, fun w hSw => by (dsimp only at hSw; go_simp)⟩) hHeld ?_
            simp only [Act.put, List.setIfInBounds_toArray, List.set_cons_zero, List.set_cons_succ]
            refine takeD (i := 3) (dst := some 54) (v := undef) rfl rfl (by kernel_rfl) (by kernel_rfl) (by kernel_rfl) (fun _ _ _ h => h) (Or.inr ⟨by rfl, rfl⟩) hHeld ?_
            simp only [Act.put, List.setIfInBounds_toArray, List.set_cons_zero, List.set_cons_succ]
            refine takeD (i := 4) (dst := some 55) (v := undef) rfl rfl (by kernel_rfl) (by kernel_rfl) (by kernel_rfl) (fun _ _ _ h => h) (Or.inr ⟨by rfl, rfl⟩) hHeld ?_
            simp only [Act.put, List.setIfInBounds_toArray, List.set_cons_zero, List.set_cons_succ]
            refine takeD (i := 5) (dst := some 56) (v := undef) rfl rfl (by kernel_rfl) (by kernel_rfl) (by kernel_rfl) (fun _ _ _ h => h) (Or.inr ⟨by rfl, rfl⟩) hHeld ?_
            simp only [Act.put, List.setIfInBounds_toArray, List.set_cons_zero, List.set_cons_succ]
            refine takeD (i := 6) (dst := some 57) (v := undef) rfl rfl (by kernel_rfl) (by kernel_rfl) (by kernel_rfl) (fun _ _ _ h => h) (Or.inr ⟨by rfl, rfl⟩) hHeld ?_
            simp only [Act.put, List.setIfInBounds_toArray, List.set_cons_zero, List.set_cons_succ]
            refine takeD (i := 7) (dst := some 58) (v := undef) rfl rfl (by kernel_rfl) (by kernel_rfl) (by kernel_rfl) (fun _ _ _ h => h) (Or.inr ⟨by rfl, rfl⟩) hHeld ?_
            simp only [Act.put, List.setIfInBounds_toArray, List.set_cons_zero, List.set_cons_succ]
            refine takeD (i := 8) (dst := some 59) (v := undef) rfl rfl (by kernel_rfl) (by kernel_rfl) (by kernel_rfl) (fun _ _ _ h => h) (Or.inr ⟨by rfl, rfl⟩) hHeld ?_
            simp only [Act.put, List.setIfInBounds_toArray, List.set_cons_zero, List.set_cons_succ]
            refine takeD (i := 9) (dst := some 60) (v := undef) rfl rfl (by kernel_rfl) (by kernel_rfl) (by kernel_rfl) (fun _ _ _ h => h) (Or.inr ⟨by rfl, rfl⟩) hHeld ?_
            simp only [Act.put, List.setIfInBounds_toArray, List.set_cons_zero, List.set_cons_succ]
            refine takeD (i := 10) (dst := some 61) (v := undef) rfl rfl (by kernel_rfl) (by kernel_rfl) (by kernel_rfl) (fun _ _ _ h => h) (Or.inr ⟨by rfl, rfl⟩) hHeld ?_
            simp only [Act.put, List.setIfInBounds_toArray, List.set_cons_zero, List.set_cons_succ]
            refine takeD (i := 11) (dst := some 62) (v := undef) rfl rfl (by kernel_rfl) (by kernel_rfl) (by kernel_rfl) (fun _ _ _ h => h) (Or.inr ⟨by rfl, rfl⟩) hHeld ?_
            simp only [Act.put, List.setIfInBounds_toArray, List.set_cons_zero, List.set_cons_succ]
            refine takeD (i := 12) (dst := some 63) (v := undef) rfl rfl (by kernel_rfl) (by kernel_rfl) (by kernel_rfl) (fun _ _ _ h => h) (Or.inr ⟨by rfl, rfl⟩) hHeld ?_
            simp only [Act.put, List.setIfInBounds_toArray, List.set_cons_zero, List.set_cons_succ]
            refine takeD (i := 13) (dst := some 64) (v := .bool false) rfl rfl (by kernel_rfl) (by kernel_rfl) (by kernel_rfl) (fun _ _ _ h => h) (Or.inl ⟨by rfl, fun w hSw => by (dsimp only at hSw; go_simp)⟩) hHeld ?_
            simp only [Act.put, List.setIfInBounds_toArray, List.set_cons_zero, List.set_cons_succ]
            refine takeD (i := 14) (dst := some 65) (v := .bool false) rfl rfl (by kernel_rfl) (by kernel_rfl) (by kernel_rfl) (fun _ _ _ h => h) (Or.inl ⟨by rfl, fun w hSw => by (dsimp only at hSw; go_simp)⟩) hHeld ?_
            simp only [Act.put, List.setIfInBounds_toArray, List.set_cons_zero, List.set_cons_succ]
            refine takeD (i := 15) (dst := some 66) (v := .slice (some ⟨gn, on, none⟩) d c4) rfl rfl (by kernel_rfl) (by kernel_rfl) (by kernel_rfl) (fun _ _ _ h => h) (Or.inl ⟨by rfl, fun w hSw => by (dsimp only at hSw; go_simp)⟩) hHeld ?_
            simp only [Act.put, List.setIfInBounds_toArray, List.set_cons_zero, List.set_cons_succ]
            refine takeD (i := 16) (dst := some 67) (v := .int .i64 0) rfl rfl (by kernel_rfl) (by kernel_rfl) (by kernel_rfl) (fun _ _ _ h => h) (Or.inl ⟨by rfl, fun w hSw => by (dsimp only at hSw; go_simp)⟩) hHeld ?_
            simp only [Act.put, List.setIfInBounds_toArray, List.set_cons_zero, List.set_cons_succ]
            refine takeD (i := 17) (dst := some 68) (v := .pointer (some ⟨gn, on, none⟩)) rfl rfl (by kernel_rfl) (by kernel_rfl) (by kernel_rfl) (fun _ _ _ h => h) (Or.inl ⟨by rfl, fun w hSw => by (dsimp only at hSw; go_simp)⟩) hHeld ?_
            simp only [Act.put, List.setIfInBounds_toArray, List.set_cons_zero, List.set_cons_succ]
            refine takeD (i := 18) (dst := some 69) (v := .int .i64 x) rfl rfl (by kernel_rfl) (by kernel_rfl) (by kernel_rfl) (fun _ _ _ h => h) (Or.inl ⟨by rfl, fun w hSw => by (dsimp only at hSw; go_simp)⟩) hHeld ?_
            simp only [Act.put, List.setIfInBounds_toArray, List.set_cons_zero, List.set_cons_succ]
            refine takeD (i := 19) (dst := some 70) (v := .int .i64 v) rfl rfl (by kernel_rfl) (by kernel_rfl) (by kernel_rfl) (fun _ _ _ h => h) (Or.inl ⟨by rfl, fun w hSw => by (dsimp only at hSw; go_simp)⟩) hHeld ?_
            simp only [Act.put, List.setIfInBounds_toArray, List.set_cons_zero, List.set_cons_succ]
            refine takeD (i := 20) (dst := some 71) (v := .bool false) rfl rfl (by kernel_rfl) (by kernel_rfl) (by kernel_rfl) (fun _ _ _ h => h) (Or.inl ⟨by rfl, fun w hSw => by (dsimp only at hSw; go_simp)⟩) hHeld ?_
            simp only [Act.put, List.setIfInBounds_toArray, List.set_cons_zero, List.set_cons_succ]
            refine takeD (i := 21) (dst := some 72) (v := .bool false) rfl rfl (by kernel_rfl) (by kernel_rfl) (by kernel_rfl) (fun _ _ _ h => h) (Or.inl ⟨by rfl, fun w hSw => by (dsimp only at hSw; go_simp)⟩) hHeld ?_
            simp only [Act.put, List.setIfInBounds_toArray, List.set_cons_zero, List.set_cons_succ]
            refine takeD (i := 22) (dst := some 73) (v := .bool false) rfl rfl (by kernel_rfl) (by kernel_rfl) (by kernel_rfl) (fun _ _ _ h => h) (Or.inl ⟨by rfl, fun w hSw => by (dsimp only at hSw; go_simp)⟩) hHeld ?_
            simp only [Act.put, List.setIfInBounds_toArray, List.set_cons_zero, List.set_cons_succ]
            refine takeD (i := 23) (dst := some 74) (v := .agg #[.int .i64 m, .slice a2 K c2]) rfl rfl (by kernel_rfl) (by kernel_rfl) (by kernel_rfl) (fun _ _ _ h => h) (Or.inl ⟨by rfl, fun w hSw => by (dsimp only at hSw; go_simp)⟩) hHeld ?_
            simp only [Act.put, List.setIfInBounds_toArray, List.set_cons_zero, List.set_cons_succ]
            refine takeD (i := 24) (dst := some 75) (v := .slice (some ⟨gn, on, none⟩) d c4) rfl rfl (by kernel_rfl) (by kernel_rfl) (by kernel_rfl) (fun _ _ _ h => h) (Or.inl ⟨by rfl, fun w hSw => by (dsimp only at hSw; go_simp)⟩) hHeld ?_
            simp only [Act.put, List.setIfInBounds_toArray, List.set_cons_zero, List.set_cons_succ]
            refine takeD (i := 25) (dst := some 76) (v := .int .i64 0) rfl rfl (by kernel_rfl) (by kernel_rfl) (by kernel_rfl) (fun _ _ _ h => h) (Or.inl ⟨by rfl, fun w hSw => by (dsimp only at hSw; go_simp)⟩) hHeld ?_
            simp only [Act.put, List.setIfInBounds_toArray, List.set_cons_zero, List.set_cons_succ]
            refine takeD (i := 26) (dst := some 77) (v := .pointer (some ⟨gn, on, none⟩)) rfl rfl (by kernel_rfl) (by kernel_rfl) (by kernel_rfl) (fun _ _ _ h => h) (Or.inl ⟨by rfl, fun w hSw => by (dsimp only at hSw; go_simp)⟩) hHeld ?_
            simp only [Act.put, List.setIfInBounds_toArray, List.set_cons_zero, List.set_cons_succ]
            refine takeD (i := 27) (dst := some 78) (v := .int .i64 x) rfl rfl (by kernel_rfl) (by kernel_rfl) (by kernel_rfl) (fun _ _ _ h => h) (Or.inl ⟨by rfl, fun w hSw => by (dsimp only at hSw; go_simp)⟩) hHeld ?_
            simp only [Act.put, List.setIfInBounds_toArray, List.set_cons_zero, List.set_cons_succ]
            refine takeD (i := 29) (dst := some 80) (v := .int .i64 v) rfl rfl (by kernel_rfl) (by kernel_rfl) (by kernel_rfl) (fun _ _ _ h => h) (Or.inl ⟨by rfl, fun w hSw => by (dsimp only at hSw; go_simp)⟩) hHeld ?_
            simp only [Act.put, List.setIfInBounds_toArray, List.set_cons_zero, List.set_cons_succ]
            refine wpAnyH_ready (rs := [28]) (by kernel_rfl) (by simp) ?_
            refine AllReadyH.cons (o := _) rfl (fun KK hK => ?_) AllReadyH.nil
            go_simp
            refine (CN.out _ x HGd.out).mono ?_
            rintro e w5 ⟨a6, c6, rfl, hI6, hb5⟩
            have HG5 := hid (HGd.out.on hb5)
            have HD5 := hid (HDd.out.below hb5)
            have HI5 := hid (HId.out.below hb5)
            have HI6 := hid hI6
            have HB5 : Hid (Below w.heap.size w w5) := HBd.out.trans (hb5.mono HBd.out.size)
            have hS5 := And.intro HG5.out.n0 (And.intro HG5.out.e0 ((hb5.cell (block_lt_of_cell hS.2.2)).trans hS.2.2))
            clear hI6 hb5 hHeld hS HGd HDd HId HBd
            refine hK.out _ _ hS5 (fun hHeld => ?_)
            clear hK KK hS5
            refine wpAnyH_ready (rs := [30]) (by kernel_rfl) (by simp) ?_
            refine AllReadyH.cons (o := _) rfl (fun KK hK => ?_) AllReadyH.nil
            go_simp
            refine (CI.out _ a6 c6 HI6.out).mono ?_
            rintro e w6 ⟨rfl, hw6⟩
            subst hw6
            refine hK.out _ _ hHeld (fun hHeld => ?_)
            clear hK KK
            refine takeD (i := 31) (dst := some 82) (v := .bool false) rfl rfl (by kernel_rfl) (by kernel_rfl) (by kernel_rfl) (fun _ _ _ h => h) (Or.inl ⟨by rfl, fun w hSw => by (dsimp only at hSw; go_simp)⟩) hHeld ?_
            simp only [Act.put, List.setIfInBounds_toArray, List.set_cons_zero, List.set_cons_succ]
            refine takeD (i := 32) (dst := some 83) (v := .bool false) rfl rfl (by kernel_rfl) (by kernel_rfl) (by kernel_rfl) (fun _ _ _ h => h) (Or.inl ⟨by rfl, fun w hSw => by (dsimp only at hSw; go_simp)⟩) hHeld ?_
            simp only [Act.put, List.setIfInBounds_toArray, List.set_cons_zero, List.set_cons_succ]
            refine wpAnyH_done (by kernel_rfl) ?_ _
            clear g0 g1 cn0
            go_wp2
            go_roundg (d - (0 + 1))
            case measure => omega
            case rel => exact ⟨0 + 1, by omega, Nat.le_refl _, by go_num, HG5.out, HD5.out, HI5.out, HB5.out⟩
          · obtain ⟨k, hk⟩ : ∃ k, j = k + 1 := ⟨j - 1, by omega⟩
            have hk1 : (j : Int) - 1 = (k : Int) := by omega
            have hk2 : k < d := by omega
            obtain ⟨gn', on', han', cn'⟩ := iat_at HIr.out (show k < (nbL (v : Int) ys).length by omega)
            simp only [Option.some.injEq, Addr.mk.injEq, and_true] at han'
            obtain ⟨rfl, rfl⟩ := han'
            obtain ⟨x', hx'⟩ := ex_eq ((nbL (v : Int) ys)[k])
            rw [← hx'] at cn'
            have hxx : x' < x := by
              have h1 := rise_at (nbL_rises HR.out (v := v)) (show 0 < j by omega) hjL
              have h2 : (nbL (v : Int) ys)[j - 1]'(by omega) = (nbL (v : Int) ys)[k] := by congr 1; omega
              rw [hx', HXX.out, ← h2]; exact h1
            have hxx2 : ¬ x ≤ x' := by omega
            clear hx'
            have r3 : (0 : Int) < (j : Int) := by omega
            have r4 : (k : Int) < (d : Int) := by omega
            have r5 : (0 : Int) ≤ (k : Int) := by omega
            have r8 : IntKind.i64.wrap (k : Int) = (k : Int) := by rw [IntKind.wrap_i64]; omega
            have d1 : decide ((0 : Int) < (j : Int)) = true := decide_eq_true r3
            have d2 : decide (x ≤ x') = false := decide_eq_false (by omega)
            have d3 : decide (x = (v : Int)) = false := decide_eq_false hxv
            clear hk
            go_wp2_with fail
            have hbd : Below wr.heap.size wr wr.drew := (Below.refl _ _).drew
            have HGd := hid (HGr.out.on hbd)
            have HDd := hid (HDr.out.below hbd)
            have HId := hid (HIr.out.below hbd)
            have HBd : Hid (Below w.heap.size w wr.drew) := HBr.out.trans (hbd.mono HBr.out.size)
            have hS : wr.drew.cell? ⟨B, 0, none⟩ = some (.int .i64 m) ∧ wr.drew.cell? ⟨B, 1, none⟩ = some (.slice a2 K c2) ∧ wr.drew.cell? ⟨gn, on + j, none⟩ = some (.int .i64 x) ∧ wr.drew.cell? ⟨gn, on + k, none⟩ = some (.int .i64 x') := ⟨g0, g1, cn, cn'⟩
            clear hbd HGr HDr HIr HBr
            have n1 : 0 < j := by omega
            have n2 : j < d := by omega
            refine wp_region_held_drew (S := (fun X => X.cell? ⟨B, 0, none⟩ = some (.int .i64 m) ∧ X.cell? ⟨B, 1, none⟩ = some (.slice a2 K c2) ∧ X.cell? ⟨gn, on + j, none⟩ = some (.int .i64 x) ∧ X.cell? ⟨gn, on + k, none⟩ = some (.int .i64 x'))) (by kernel_rfl) hS (fun hHeld => ?_)
            refine takeD (i := 0) (dst := some 51) (v := .int .i64 j) rfl rfl (by kernel_rfl) (by kernel_rfl) (by kernel_rfl) (fun _ _ _ h => h) (Or.inl ⟨by rfl, fun w hSw => by (dsimp only at hSw; go_simp)⟩) hHeld ?_
            simp only [Act.put, List.setIfInBounds_toArray, List.set_cons_zero, List.set_cons_succ]
            refine takeD (i := 1) (dst := some 52) (v := .bool true) rfl rfl (by kernel_rfl) (by kernel_rfl) (by kernel_rfl) (fun _ _ _ h => h) (Or.inl ⟨by rfl, fun w hSw => by (dsimp only at hSw; go_simp)⟩) hHeld ?_
            simp only [Act.put, List.setIfInBounds_toArray, List.set_cons_zero, List.set_cons_succ]
            refine takeD (i := 2) (dst := some 53) (v := .bool true) rfl rfl (by kernel_rfl) (by kernel_rfl) (by kernel_rfl) (fun _ _ _ h => h) (Or.inl ⟨by rfl, fun w hSw => by (dsimp only at hSw; go_simp)⟩) hHeld ?_
            simp only [Act.put, List.setIfInBounds_toArray, List.set_cons_zero, List.set_cons_succ]
            refine takeD (i := 3) (dst := some 54) (v := .slice (some ⟨gn, on, none⟩) d c4) rfl rfl (by kernel_rfl) (by kernel_rfl) (by kernel_rfl) (fun _ _ _ h => h) (Or.inl ⟨by rfl, fun w hSw => by (dsimp only at hSw; go_simp)⟩) hHeld ?_
            simp only [Act.put, List.setIfInBounds_toArray, List.set_cons_zero, List.set_cons_succ]
            refine takeD (i := 4) (dst := some 55) (v := .int .i64 j) rfl rfl (by kernel_rfl) (by kernel_rfl) (by kernel_rfl) (fun _ _ _ h => h) (Or.inl ⟨by rfl, fun w hSw => by (dsimp only at hSw; go_simp)⟩) hHeld ?_
            simp only [Act.put, List.setIfInBounds_toArray, List.set_cons_zero, List.set_cons_succ]
            refine takeD (i := 5) (dst := some 56) (v := .pointer (some ⟨gn, on + j, none⟩)) rfl rfl (by kernel_rfl) (by kernel_rfl) (by kernel_rfl) (fun _ _ _ h => h) (Or.inl ⟨by rfl, fun w hSw => by (dsimp only at hSw; go_simp)⟩) hHeld ?_
            simp only [Act.put, List.setIfInBounds_toArray, List.set_cons_zero, List.set_cons_succ]
            refine takeD (i := 6) (dst := some 57) (v := .int .i64 x) rfl rfl (by kernel_rfl) (by kernel_rfl) (by kernel_rfl) (fun _ _ _ h => h) (Or.inl ⟨by rfl, fun w hSw => by (dsimp only at hSw; go_simp)⟩) hHeld ?_
            simp only [Act.put, List.setIfInBounds_toArray, List.set_cons_zero, List.set_cons_succ]
            refine takeD (i := 7) (dst := some 58) (v := .slice (some ⟨gn, on, none⟩) d c4) rfl rfl (by kernel_rfl) (by kernel_rfl) (by kernel_rfl) (fun _ _ _ h => h) (Or.inl ⟨by rfl, fun w hSw => by (dsimp only at hSw; go_simp)⟩) hHeld ?_
            simp only [Act.put, List.setIfInBounds_toArray, List.set_cons_zero, List.set_cons_succ]
            refine takeD (i := 8) (dst := some 59) (v := .int .i64 j) rfl rfl (by kernel_rfl) (by kernel_rfl) (by kernel_rfl) (fun _ _ _ h => h) (Or.inl ⟨by rfl, fun w hSw => by (dsimp only at hSw; go_simp)⟩) hHeld ?_
            simp only [Act.put, List.setIfInBounds_toArray, List.set_cons_zero, List.set_cons_succ]
            refine takeD (i := 9) (dst := some 60) (v := .int .i64 k) rfl rfl (by kernel_rfl) (by kernel_rfl) (by kernel_rfl) (fun _ _ _ h => h) (Or.inl ⟨by rfl, fun w hSw => by (dsimp only at hSw; go_simp)⟩) hHeld ?_
            simp only [Act.put, List.setIfInBounds_toArray, List.set_cons_zero, List.set_cons_succ]
            refine takeD (i := 10) (dst := some 61) (v := .pointer (some ⟨gn, on + k, none⟩)) rfl rfl (by kernel_rfl) (by kernel_rfl) (by kernel_rfl) (fun _ _ _ h => h) (Or.inl ⟨by rfl, fun w hSw => by (dsimp only at hSw; go_simp)⟩) hHeld ?_
            simp only [Act.put, List.setIfInBounds_toArray, List.set_cons_zero, List.set_cons_succ]
            refine takeD (i := 11) (dst := some 62) (v := .int .i64 x') rfl rfl (by kernel_rfl) (by kernel_rfl) (by kernel_rfl) (fun _ _ _ h => h) (Or.inl ⟨by rfl, fun w hSw => by (dsimp only at hSw; go_simp)⟩) hHeld ?_
            simp only [Act.put, List.setIfInBounds_toArray, List.set_cons_zero, List.set_cons_succ]
            refine takeD (i := 12) (dst := some 63) (v := .bool false) rfl rfl (by kernel_rfl) (by kernel_rfl) (by kernel_rfl) (fun _ _ _ h => h) (Or.inl ⟨by rfl, fun w hSw => by (dsimp only at hSw; go_simp)⟩) hHeld ?_
            simp only [Act.put, List.setIfInBounds_toArray, List.set_cons_zero, List.set_cons_succ]
            refine takeD (i := 13) (dst := some 64) (v := .bool false) rfl rfl (by kernel_rfl) (by kernel_rfl) (by kernel_rfl) (fun _ _ _ h => h) (Or.inl ⟨by rfl, fun w hSw => by (dsimp only at hSw; go_simp)⟩) hHeld ?_
            simp only [Act.put, List.setIfInBounds_toArray, List.set_cons_zero, List.set_cons_succ]
            refine takeD (i := 14) (dst := some 65) (v := .bool false) rfl rfl (by kernel_rfl) (by kernel_rfl) (by kernel_rfl) (fun _ _ _ h => h) (Or.inl ⟨by rfl, fun w hSw => by (dsimp only at hSw; go_simp)⟩) hHeld ?_
            simp only [Act.put, List.setIfInBounds_toArray, List.set_cons_zero, List.set_cons_succ]
            refine takeD (i := 15) (dst := some 66) (v := .slice (some ⟨gn, on, none⟩) d c4) rfl rfl (by kernel_rfl) (by kernel_rfl) (by kernel_rfl) (fun _ _ _ h => h) (Or.inl ⟨by rfl, fun w hSw => by (dsimp only at hSw; go_simp)⟩) hHeld ?_
            simp only [Act.put, List.setIfInBounds_toArray, List.set_cons_zero, List.set_cons_succ]
            refine takeD (i := 16) (dst := some 67) (v := .int .i64 j) rfl rfl (by kernel_rfl) (by kernel_rfl) (by kernel_rfl) (fun _ _ _ h => h) (Or.inl ⟨by rfl, fun w hSw => by (dsimp only at hSw; go_simp)⟩) hHeld ?_
            simp only [Act.put, List.setIfInBounds_toArray, List.set_cons_zero, List.set_cons_succ]
            refine takeD (i := 17) (dst := some 68) (v := .pointer (some ⟨gn, on + j, none⟩)) rfl rfl (by kernel_rfl) (by kernel_rfl) (by kernel_rfl) (fun _ _ _ h => h) (Or.inl ⟨by rfl, fun w hSw => by (dsimp only at hSw; go_simp)⟩) hHeld ?_
            simp only [Act.put, List.setIfInBounds_toArray, List.set_cons_zero, List.set_cons_succ]
            refine takeD (i := 18) (dst := some 69) (v := .int .i64 x) rfl rfl (by kernel_rfl) (by kernel_rfl) (by kernel_rfl) (fun _ _ _ h => h) (Or.inl ⟨by rfl, fun w hSw => by (dsimp only at hSw; go_simp)⟩) hHeld ?_
            simp only [Act.put, List.setIfInBounds_toArray, List.set_cons_zero, List.set_cons_succ]
            refine takeD (i := 19) (dst := some 70) (v := .int .i64 v) rfl rfl (by kernel_rfl) (by kernel_rfl) (by kernel_rfl) (fun _ _ _ h => h) (Or.inl ⟨by rfl, fun w hSw => by (dsimp only at hSw; go_simp)⟩) hHeld ?_
            simp only [Act.put, List.setIfInBounds_toArray, List.set_cons_zero, List.set_cons_succ]
            refine takeD (i := 20) (dst := some 71) (v := .bool false) rfl rfl (by kernel_rfl) (by kernel_rfl) (by kernel_rfl) (fun _ _ _ h => h) (Or.inl ⟨by rfl, fun w hSw => by (dsimp only at hSw; go_simp)⟩) hHeld ?_
            simp only [Act.put, List.setIfInBounds_toArray, List.set_cons_zero, List.set_cons_succ]
            refine takeD (i := 21) (dst := some 72) (v := .bool false) rfl rfl (by kernel_rfl) (by kernel_rfl) (by kernel_rfl) (fun _ _ _ h => h) (Or.inl ⟨by rfl, fun w hSw => by (dsimp only at hSw; go_simp)⟩) hHeld ?_
            simp only [Act.put, List.setIfInBounds_toArray, List.set_cons_zero, List.set_cons_succ]
            refine takeD (i := 22) (dst := some 73) (v := .bool false) rfl rfl (by kernel_rfl) (by kernel_rfl) (by kernel_rfl) (fun _ _ _ h => h) (Or.inl ⟨by rfl, fun w hSw => by (dsimp only at hSw; go_simp)⟩) hHeld ?_
            simp only [Act.put, List.setIfInBounds_toArray, List.set_cons_zero, List.set_cons_succ]
            refine takeD (i := 23) (dst := some 74) (v := .agg #[.int .i64 m, .slice a2 K c2]) rfl rfl (by kernel_rfl) (by kernel_rfl) (by kernel_rfl) (fun _ _ _ h => h) (Or.inl ⟨by rfl, fun w hSw => by (dsimp only at hSw; go_simp)⟩) hHeld ?_
            simp only [Act.put, List.setIfInBounds_toArray, List.set_cons_zero, List.set_cons_succ]
            refine takeD (i := 24) (dst := some 75) (v := .slice (some ⟨gn, on, none⟩) d c4) rfl rfl (by kernel_rfl) (by kernel_rfl) (by kernel_rfl) (fun _ _ _ h => h) (Or.inl ⟨by rfl, fun w hSw => by (dsimp only at hSw; go_simp)⟩) hHeld ?_
            simp only [Act.put, List.setIfInBounds_toArray, List.set_cons_zero, List.set_cons_succ]
            refine takeD (i := 25) (dst := some 76) (v := .int .i64 j) rfl rfl (by kernel_rfl) (by kernel_rfl) (by kernel_rfl) (fun _ _ _ h => h) (Or.inl ⟨by rfl, fun w hSw => by (dsimp only at hSw; go_simp)⟩) hHeld ?_
            simp only [Act.put, List.setIfInBounds_toArray, List.set_cons_zero, List.set_cons_succ]
            refine takeD (i := 26) (dst := some 77) (v := .pointer (some ⟨gn, on + j, none⟩)) rfl rfl (by kernel_rfl) (by kernel_rfl) (by kernel_rfl) (fun _ _ _ h => h) (Or.inl ⟨by rfl, fun w hSw => by (dsimp only at hSw; go_simp)⟩) hHeld ?_
            simp only [Act.put, List.setIfInBounds_toArray, List.set_cons_zero, List.set_cons_succ]
            refine takeD (i := 27) (dst := some 78) (v := .int .i64 x) rfl rfl (by kernel_rfl) (by kernel_rfl) (by kernel_rfl) (fun _ _ _ h => h) (Or.inl ⟨by rfl, fun w hSw => by (dsimp only at hSw; go_simp)⟩) hHeld ?_
            simp only [Act.put, List.setIfInBounds_toArray, List.set_cons_zero, List.set_cons_succ]
            refine takeD (i := 29) (dst := some 80) (v := .int .i64 v) rfl rfl (by kernel_rfl) (by kernel_rfl) (by kernel_rfl) (fun _ _ _ h => h) (Or.inl ⟨by rfl, fun w hSw => by (dsimp only at hSw; go_simp)⟩) hHeld ?_
            simp only [Act.put, List.setIfInBounds_toArray, List.set_cons_zero, List.set_cons_succ]
            refine wpAnyH_ready (rs := [28]) (by kernel_rfl) (by simp) ?_
            refine AllReadyH.cons (o := _) rfl (fun KK hK => ?_) AllReadyH.nil
            go_simp
            refine (CN.out _ x HGd.out).mono ?_
            rintro e w5 ⟨a6, c6, rfl, hI6, hb5⟩
            have HG5 := hid (HGd.out.on hb5)
            have HD5 := hid (HDd.out.below hb5)
            have HI5 := hid (HId.out.below hb5)
            have HI6 := hid hI6
            have HB5 : Hid (Below w.heap.size w w5) := HBd.out.trans (hb5.mono HBd.out.size)
            have hS5 := And.intro HG5.out.n0 (And.intro HG5.out.e0 (And.intro ((hb5.cell (block_lt_of_cell hS.2.2.1)).trans hS.2.2.1) ((hb5.cell (block_lt_of_cell hS.2.2.2)).trans hS.2.2.2)))
            clear hI6 hb5 hHeld hS HGd HDd HId HBd
            refine hK.out _ _ hS5 (fun hHeld => ?_)
            clear hK KK hS5
            refine wpAnyH_ready (rs := [30]) (by kernel_rfl) (by simp) ?_
            refine AllReadyH.cons (o := _) rfl (fun KK hK => ?_) AllReadyH.nil
            go_simp
            refine (CI.out _ a6 c6 HI6.out).mono ?_
            rintro e w6 ⟨rfl, hw6⟩
            subst hw6
            refine hK.out _ _ hHeld (fun hHeld => ?_)
            clear hK KK
            refine takeD (i := 31) (dst := some 82) (v := .bool false) rfl rfl (by kernel_rfl) (by kernel_rfl) (by kernel_rfl) (fun _ _ _ h => h) (Or.inl ⟨by rfl, fun w hSw => by (dsimp only at hSw; go_simp)⟩) hHeld ?_
            simp only [Act.put, List.setIfInBounds_toArray, List.set_cons_zero, List.set_cons_succ]
            refine takeD (i := 32) (dst := some 83) (v := .bool false) rfl rfl (by kernel_rfl) (by kernel_rfl) (by kernel_rfl) (fun _ _ _ h => h) (Or.inl ⟨by rfl, fun w hSw => by (dsimp only at hSw; go_simp)⟩) hHeld ?_
            simp only [Act.put, List.setIfInBounds_toArray, List.set_cons_zero, List.set_cons_succ]
            refine wpAnyH_done (by kernel_rfl) ?_ _
            clear g0 g1 cn cn'
            go_wp2
            go_roundg (d - (j + 1))
            case measure => omega
            case rel => exact ⟨j + 1, by omega, Nat.le_refl _, by go_num, HG5.out, HD5.out, HI5.out, HB5.out⟩
        · obtain rfl : j = d := by omega
          clear g0 g1
          go_wp2
          go_roundg (m - (v + 1))
          case measure => omega
          case rel => exact ⟨v + 1, S + j, by omega, Nat.le_refl _, by go_num, by go_num, HSN, HGr.out, HDr.out, HBr.out⟩
    · obtain rfl : v = m := by omega
      obtain rfl : S = 2 * K := by rw [hS.out]; exact HSM.out
      go_wp2
      go_ret
      exact ⟨rfl, HBr.out⟩
end Go.Proofs.Ytalhjankofdhgaa
