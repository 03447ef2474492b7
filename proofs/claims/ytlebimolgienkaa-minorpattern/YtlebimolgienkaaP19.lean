/-
  The law MinorPattern.
-/
import Derived.Test.YtlebimolgienkaaP14
import Derived.Test.YtlebimolgienkaaP18
import Derived.Test.YtlebimolgienkaaP04
import Derived.Lib.Walk
namespace Go.Proofs.Ytlebimolgienkaa
open Go.RowKit Go.Lib

/-- Each vertex for itself. -/
def idS (n : Nat) : List (List Int) := (List.range n).map (fun v : Nat => [(v : Int)])
theorem idS_len (n : Nat) : (idS n).length = n := by unfold idS; simp
theorem idS_next (n : Nat) : idS (n + 1) = idS n ++ [[(n : Int)]] := by unfold idS; rw [List.range_succ, List.map_append]; rfl
theorem idS_at {n i : Nat} (h : i < n) : (idS n).getD i [] = [(i : Int)] := by
  unfold idS
  rw [List.getD_eq_getElem?_getD, List.getElem?_map, List.getElem?_range h]; rfl
theorem pat_right (k : Int) : RightG (patN k : Nat) (patE k) := by
  have h6 := patE_len' k
  have h5 : patN k ≤ 5 := by unfold patN; split <;> (try split) <;> omega
  refine ⟨by omega, by omega, by omega, fun e he => patE_in he, ?_⟩
  unfold patE Rises
  split
  · decide
  · split <;> decide
theorem pat_model {k : Int} (hk : k = 1 ∨ k = 2) : ModelL (patN k : Nat) (patE k) k (idS (patN k)) := by
  refine ⟨hk, pat_right k, idS_len _, fun S hS => ?_, fun i j hij x hx hy => ?_, fun e he => ?_⟩
  · unfold idS at hS
    obtain ⟨v, hv, rfl⟩ := List.mem_map.1 hS
    rw [List.mem_range] at hv
    refine ⟨by simp, by simp, fun x hx => ?_, fun x hx y hy => ?_⟩
    · simp at hx; omega
    · simp at hx hy; subst hx; subst hy; exact Rch.refl _ _ _
  · have hi := mem_getD hx
    have hj := mem_getD hy
    rw [idS_len] at hi hj
    rw [idS_at hi] at hx
    rw [idS_at hj] at hy
    simp at hx hy
    omega
  · have hp := patE_in he
    unfold setAt
    refine ⟨e.1, e.2, ?_, ?_, Or.inl he⟩
    · rw [idS_at (by omega)]; simp; omega
    · rw [idS_at (by omega)]; simp; omega
theorem rows_same {r s : List Nat} {n : Nat} {A : Nat → Nat → Prop} (h : RowsOf r n A) (k : RowsOf s n A) : r = s := by
  apply List.ext_getElem (by rw [h.len, k.len])
  intro i h1 h2
  have hi : i < n := by rw [← h.len]; exact h1
  have e : r.getD i 0 = s.getD i 0 := by
    apply Nat.eq_of_testBit_eq
    intro b
    rw [Bool.eq_iff_iff, h.bit i b hi, k.bit i b hi]
  rw [getD_at0 h1, getD_at0 h2] at e
  exact e
theorem rows_k23 : RowsOf [28, 28, 3, 3, 3] 5 (fun a b => Adj (patE 2) (a : Int) (b : Int)) := by
  refine ⟨rfl, fun a b ha => ?_, fun a b h => h.symm, fun a h => (h.in (pat_right 2)).2.2 rfl⟩
  by_cases hb : b < 5
  · have h : ∀ a < 5, ∀ b < 5, (([28, 28, 3, 3, 3] : List Nat).getD a 0).testBit b = (decide ((((a : Nat) : Int), ((b : Nat) : Int)) ∈ patE 2) || decide ((((b : Nat) : Int), ((a : Nat) : Int)) ∈ patE 2)) := by decide
    rw [h a ha b hb, Bool.or_eq_true, decide_eq_true_eq, decide_eq_true_eq]
    exact ⟨fun h => ⟨hb, h⟩, fun h => h.2⟩
  · constructor
    · intro h
      have h32 : ([28, 28, 3, 3, 3] : List Nat).getD a 0 < 2 ^ 5 := by
        have : ∀ a < 5, ([28, 28, 3, 3, 3] : List Nat).getD a 0 < 2 ^ 5 := by decide
        exact this a ha
      rw [Nat.testBit_lt_two_pow (Nat.lt_of_lt_of_le h32 (Nat.pow_le_pow_right (by omega) (by omega)))] at h
      cases h
    · rintro ⟨h, _⟩; exact absurd h hb
theorem k23_k4 : comesN 8 [28, 28, 3, 3, 3] 1 = false := by kernel_rfl
theorem pat_comes {k j : Int} (hj : j = 1 ∨ j = 2) {r : List Nat} (hr : RowsOf r (patN k) (fun a b => Adj (patE k) (a : Int) (b : Int))) : comesN 8 r j = decide (k = j) := by
  have h5 : patN k ≤ 5 := by unfold patN; split <;> (try split) <;> omega
  by_cases e : k = j
  · subst e
    rw [decide_eq_true rfl]
    exact model_comes (pat_model hj) (by omega) hr
  · rw [decide_eq_false e]
    by_cases h2 : k = 2
    · subst h2
      obtain rfl : j = 1 := by omega
      rw [rows_same hr rows_k23]; exact k23_k4
    · have hl : r.length < patN j := by
        rw [hr.len]
        rcases hj with rfl | rfl
        · rw [patN_none (by omega)]; decide
        · by_cases h1 : k = 1
          · subst h1; decide
          · rw [patN_none (by omega)]; decide
      rw [comes_small (by omega)]
      unfold smallC
      have : (r.length == patN j) = false := beq_eq_false_iff_ne.2 (by omega)
      rw [this]; rfl
set_option maxHeartbeats 8000000 in
set_option maxRecDepth 100000 in
theorem hasO_any (m : Nat) (a : Option Addr) (cap : Nat) (es : List (Int × Int)) (k : Int) (w : World) (hk : ¬ (k = 1 ∨ k = 2)) (hm : m ≤ 8) (hR : RightG m es) (hE : EAt w a es) :
    Calls Try.prog 30 #[.agg #[.int .i64 m, .slice a es.length cap], .int .i64 k] w fun e w' => e = .returned (.bool false) ∧ Below w.heap.size w w' := by
  obtain ⟨N, hNe⟩ := ex_eq es.length
  obtain ⟨b0, hb0⟩ := ex_eq w.heap.size
  obtain ⟨W1, hW1⟩ := ex_eq (w.alloc (.cells #[.int .i64 m, .slice a N cap] 26))
  have hO := heap_alloc_new w (.cells #[.int .i64 m, .slice a N cap] 26)
  have hb1 : Below w.heap.size w W1 := by rw [hW1]; exact (Below.refl _ _).alloc (Nat.le_refl _) _
  rw [← hW1] at hO
  have hbl : w.heap.size < W1.heap.size := (Array.getElem?_eq_some_iff.1 hO).1
  have HX : Hid (∀ X, Below W1.heap.size W1 X → X.cell? ⟨b0, 0, none⟩ = some (.int .i64 m) ∧ X.cell? ⟨b0, 1, none⟩ = some (.slice a N cap) ∧ EAt X a es ∧ Below w.heap.size w X) := fun X hX => by
    have o := (hX.block w.heap.size hbl).trans hO
    have hb := hb1.trans (hX.mono (by omega))
    rw [hb0]
    exact ⟨cell_of_heap o 0, cell_of_heap o 1, hE.below hb, hb⟩
  have hE1 := (HX.out W1 (Below.refl _ _)).2.2.1
  have hlen : es.length ≤ 1000000 := by have := hR.2.2.1; omega
  have CR := hid (rright_any m a cap es true W1 hlen hE1 ⟨fun _ => hR, fun _ => rfl⟩)
  rw [← hNe] at CR
  have CS : Hid (∀ X, Calls Try.prog 50 #[.int .i64 k] X fun e w' => e = .returned (.int .i64 0) ∧ w' = X) := fun X => by
    have := size_any k X
    rw [patN_none hk] at this
    exact this
  have HW1 := hid hW1
  have HB0 := hid hb0
  have q1 : ¬ (8 : Int) < (m : Int) := by omega
  have q2 : decide ((m : Int) > 8) = false := decide_eq_false (by omega)
  have q3 : decide ((8 : Int) < (m : Int)) = false := decide_eq_false (by omega)
  obtain ⟨c0, c1, _, _⟩ := HX.out W1 (Below.refl _ _)
  rw [← hNe]
  clear hNe hE hR hb0 hW1 hO hb1 hbl hE1 hlen hk
  go_enter Try.func30, Try.ntmps30
  go_upto_region 1 with fail
  rw [← HB0.out]
  rw [← HW1.out]
  go_wp2_with fail
  refine CR.out.mono ?_
  rintro e w2 ⟨rfl, hb2⟩
  obtain ⟨d0, d1, _, hbf⟩ := HX.out w2 hb2
  have HF := hid hbf
  clear c0 c1 CR hb2 hbf
  go_wp2_with fail
  refine (CS.out w2).mono ?_
  rintro e w3 ⟨rfl, hw3⟩
  rw [hw3]
  clear hw3 CS
  go_wp2
  go_ret
  exact ⟨rfl, HF.out⟩
/-- The model while its sets are put. -/
structure PtSt (W X : World) (O : Nat) (k : Int) (v : Value) (us : List Value) (LL : List (List Int)) : Prop where
  c0 : X.cell? ⟨O, 0, none⟩ = some (.int .i64 k)
  c1 : X.cell? ⟨O, 1, none⟩ = some v
  f1 : X.frozen? ⟨O, 1, none⟩ = false
  ll : LLOwn X (O + 1) (fun q => O + 1 ≤ q) v us LL
  kp : Below O W X
  sz : O + 1 ≤ X.heap.size
theorem PtSt.put {W X w4 : World} {O : Nat} {k : Int} {v v4 : Value} {us : List Value} {LL : List (List Int)} (h : PtSt W X O k v us LL) (x : Int) {o : Obj} (ho : w4.ownsRow (O + 1) 28 1 v4 (LL.length + 1) (us ++ [.slice (some ⟨X.heap.size, 0, none⟩) 1 1])) (hg : ((X.alloc (.cells #[.int .i64 x] 3)).alloc o).grownBy w4 v.ownBlock) (hat : v4.ownBlock = v.ownBlock ∨ v4.ownBlock = some ((X.alloc (.cells #[.int .i64 x] 3)).alloc o).heap.size) :
    (w4.cell? ⟨O, 1, none⟩ = some v ∧ w4.frozen? ⟨O, 1, none⟩ = false) ∧ PtSt W (w4.setCell ⟨O, 1, none⟩ v4) O k v4 (us ++ [.slice (some ⟨X.heap.size, 0, none⟩) 1 1]) (LL ++ [[x]]) := by
  have hsz := h.sz
  have hb1 : Below X.heap.size X (X.alloc (.cells #[.int .i64 x] 3)) := (Below.refl _ _).alloc (Nat.le_refl _) _
  have hI : IAt (X.alloc (.cells #[.int .i64 x] 3)) (some ⟨X.heap.size, 0, none⟩) [x] := fun _ => by
    refine ⟨X.heap.size, 0, rfl, by simp, fun j hj => ?_⟩
    have : j = 0 := by simp at hj; omega
    subst this
    rw [cell_of_heap (heap_alloc_new X _)]; rfl
  have hvb : ∀ q, v.ownBlock = some q → O + 1 ≤ q ∧ q < X.heap.size := fun q hq => h.ll.1.lt q hq
  have hput := (h.ll.below hb1).put (L := [x]) (ar := some ⟨X.heap.size, 0, none⟩) (cr := 1) (X := o) hI (fun g off e _ => by
    cases e
    exact ⟨by omega, fun e2 => by have := hvb _ e2; omega⟩) (by rw [World.size_alloc, World.size_alloc]; omega) ho hg hat
  have hk46 : KeptBut (fun k => some k = v.ownBlock) X w4 := ((kept_alloc X _ _).trans (kept_alloc _ o _)).trans (KeptBut.of_grown hg)
  have hOv : ¬ some O = v.ownBlock := fun e => by have := hvb _ e.symm; omega
  have e0 := (hk46.cell (p := ⟨O, 0, none⟩) (by simp only; omega) hOv).trans h.c0
  have e1 := (hk46.cell (p := ⟨O, 1, none⟩) (by simp only; omega) hOv).trans h.c1
  have ef := (hk46.frozen (p := ⟨O, 1, none⟩) (by simp only; omega) hOv).trans h.f1
  have hb6 : Below O W w4 := ((h.kp.alloc (by omega) _).alloc (by rw [World.size_alloc]; omega) o).grown hg (by rw [World.size_alloc, World.size_alloc]; omega) (fun q hq => by have := hvb q hq; omega)
  have hs6 : O + 1 ≤ w4.heap.size := by have := hk46.size; omega
  refine ⟨⟨e1, ef⟩, ?_, World.cell?_setCell_same' _ _ _ (by rw [e1]; rfl), by rw [World.frozen?_setCell]; exact ef, hput.kept (kept_set w4 ⟨O, 1, none⟩ v4) (fun k hk' _ e => by simp only at e; omega), hb6.setCell (p := ⟨O, 1, none⟩) (Nat.le_refl _) _, by simpa using hs6⟩
  rw [World.cell?_setCell_other _ _ _ _ (fun e => by have := congrArg Addr.off e; simp at this)]; exact e0
set_option maxHeartbeats 16000000 in
set_option maxRecDepth 100000 in
theorem minorPattern_law (k : Int) (w : World) :
    Calls Try.prog 6 #[.int .i64 k] w fun e w' => e = .returned (.bool true) ∧ Below w.heap.size w w' := by
  obtain ⟨i1, hj, hy0, hy1, hy2⟩ := info_parts Try.info28
  go_enter Try.func6, Try.ntmps6
  go_wp2_with fail
  refine (mshown_any _).mono ?_
  rintro e w1 ⟨rfl, hb1⟩
  have HB1 := hid hb1
  clear hb1
  go_wp2_with fail
  refine (pattern_any k w1).mono ?_
  rintro e w2 ⟨v, rfl, a2, c2, rfl, hE2, -, hb2⟩
  have h6 := patE_len' k
  have hpr := pat_right k
  have hK5 : patN k ≤ 5 := by unfold patN; split <;> (try split) <;> omega
  obtain ⟨K, hK⟩ := ex_eq (patN k)
  obtain ⟨Q, hQ⟩ := ex_eq (patE k).length
  rw [← hK] at hpr hK5
  rw [← hK, ← hQ]
  obtain ⟨O, hO⟩ := ex_eq w2.heap.size
  obtain ⟨V2, hV2⟩ := ex_eq (w2.alloc (.cells #[.int .i64 (K : Nat), .slice a2 Q c2] 26))
  have hbV2 : Below w2.heap.size w2 V2 := by rw [hV2]; exact (Below.refl _ _).alloc (Nat.le_refl _) _
  have HG2 : Hid (GC V2 O (K : Nat) a2 Q c2 (patE k)) := by
    show GC V2 _ _ _ _ _ _
    rw [hV2, hO]; exact gc_new8 hE2
  have HBW : Hid (Below w.heap.size w V2) := HB1.out.trans ((hb2.trans (hbV2.mono hb2.size)).mono HB1.out.size)
  have HKP : Hid (∀ X, Below V2.heap.size V2 X → X.cell? ⟨O, 0, none⟩ = some (.int .i64 (K : Nat)) ∧ X.cell? ⟨O, 1, none⟩ = some (.slice a2 Q c2)) := fun X hX => ⟨(HG2.out.on hX).n0, (HG2.out.on hX).e0⟩
  have CR : Hid (Calls Try.prog 29 #[.int .i64 k] V2.drew fun e w' => ∃ v, e = .returned v ∧ ∃ a c, v = .agg #[.int .i64 (K : Nat), .slice a (patE k).length c] ∧ EAt w' a (patE k) ∧ Sl a c (patE k).length ∧ Below V2.drew.heap.size V2.drew w') := by
    have := rpattern_any k V2.drew
    unfold PatAt at this
    rw [← hK] at this
    exact this
  have CG : Hid (∀ X (a8 : Option Addr) (c8 : Nat), Below V2.heap.size V2 X → EAt X a8 (patE k) → Calls Try.prog 28 #[.agg #[.int .i64 (K : Nat), .slice a2 Q c2], .agg #[.int .i64 (K : Nat), .slice a8 Q c8]] X fun e w' => e = .returned (.bool true) ∧ Below X.heap.size X w') := fun X a8 c8 hX h8 => by
    rw [hQ]
    exact sameGraph_any (K : Nat) (K : Nat) a2 a8 c2 c8 (patE k) (patE k) true X (by omega) (HG2.out.on hX).at_ h8 ⟨fun _ => ⟨rfl, rfl⟩, fun _ => rfl⟩
  have hS := HKP.out V2.drew (Below.refl _ _).drew
  have HD0 : Hid (Below V2.heap.size V2 V2.drew) := (Below.refl _ _).drew
  have HV2 := hid hV2
  have HO := hid hO
  have HQ := hid hQ
  have HK := hid hK
  have HPR := hid hpr
  have hQ6 : Q ≤ 6 := by omega
  clear hE2 hb2 hbV2 hV2 hO hQ hK hpr h6 HB1
  go_upto_region 3 with fail
  rw [← HV2.out, ← HO.out]
  clear HV2 HO
  refine wp_region_held_drew (S := (fun X => X.cell? ⟨O, 0, none⟩ = some (.int .i64 (K : Nat)) ∧ X.cell? ⟨O, 1, none⟩ = some (.slice a2 Q c2))) (by kernel_rfl) hS (fun hHeld => ?_)
  (refine takeW (i := 0) (dst := some 10) (v := ?_) rfl rfl (by kernel_rfl) (by kernel_rfl) (by kernel_rfl) (fun _ _ _ h => h) (Or.inl ⟨by rfl, ?_⟩) hHeld ?_; rotate_left; focus (intro w hSw; (try dsimp only at hSw); go_simp; (try with_reducible rfl); done))
  try simp only [Act.put, List.setIfInBounds_toArray, List.set_cons_zero, List.set_cons_succ]
  (refine takeW (i := 1) (dst := some 11) (v := ?_) rfl rfl (by kernel_rfl) (by kernel_rfl) (by kernel_rfl) (fun _ _ _ h => h) (Or.inl ⟨by rfl, ?_⟩) hHeld ?_; rotate_left; focus (intro w hSw; (try dsimp only at hSw); go_simp; (try with_reducible rfl); done))
  try simp only [Act.put, List.setIfInBounds_toArray, List.set_cons_zero, List.set_cons_succ]
  refine wpAnyH_ready (rs := [2]) (by kernel_rfl) (by simp) ?_
  refine AllReadyH.cons (o := _) rfl (fun KK hK => ?_) AllReadyH.nil
  go_simp
  refine CR.out.mono ?_
  rintro e y1 ⟨v1, rfl, a8, c8, rfl, hE8, -, hb8⟩
  rw [← HQ.out]
  have HE8 := hid hE8
  have HB8 : Hid (Below V2.heap.size V2 y1) := HD0.out.trans (hb8.mono HD0.out.size)
  have hS1 := HKP.out y1 HB8.out
  clear hE8 hb8
  refine hK.out _ _ hS1 (fun hHeld => ?_)
  clear hK KK
  try simp only [Act.put]
  try simp only [List.setIfInBounds_toArray]
  try simp only [List.set_cons_succ]
  try simp only [List.set_cons_zero]
  refine wpAnyH_ready (rs := [3]) (by kernel_rfl) (by simp) ?_
  refine AllReadyH.cons (o := _) rfl (fun KK hK => ?_) AllReadyH.nil
  go_simp
  refine (CG.out y1 a8 c8 HB8.out HE8.out).mono ?_
  rintro e y2 ⟨rfl, hb9⟩
  have HB9 : Hid (Below V2.heap.size V2 y2) := HB8.out.trans (hb9.mono HB8.out.size)
  have hS2 := HKP.out y2 HB9.out
  clear hb9
  refine hK.out _ _ hS2 (fun hHeld => ?_)
  clear hK KK
  try simp only [Act.put]
  try simp only [List.setIfInBounds_toArray]
  try simp only [List.set_cons_succ]
  try simp only [List.set_cons_zero]
  (refine takeW (i := 4) (dst := some 14) (v := ?_) rfl rfl (by kernel_rfl) (by kernel_rfl) (by kernel_rfl) (fun _ _ _ h => h) (Or.inl ⟨by rfl, ?_⟩) hHeld ?_; rotate_left; focus (intro w hSw; (try dsimp only at hSw); go_simp; (try with_reducible rfl); done))
  try simp only [Act.put, List.setIfInBounds_toArray, List.set_cons_zero, List.set_cons_succ]
  refine wpAnyH_done (by kernel_rfl) ?_ _
  clear hHeld hS hS1 hS2 CR CG
  obtain ⟨O2, hO2⟩ := ex_eq y2.heap.size
  obtain ⟨W3, hW3⟩ := ex_eq (y2.alloc (.cells #[.int .i64 k, .slice none 0 0] 40))
  have HST : Hid (∃ v us, PtSt W3 W3 O2 k v us (idS 0)) := by
    have ho := heap_alloc_new y2 (.cells #[.int .i64 k, .slice none 0 0] 40)
    rw [← hW3, ← hO2] at ho
    refine ⟨.slice none 0 0, [], cell_of_heap ho 0, cell_of_heap ho 1, frozen_of_heap ho 1, llown_none _ _ _, Below.refl _ _, ?_⟩
    have := (Array.getElem?_eq_some_iff.1 ho).1
    omega
  have HX3 : Hid (∀ X, Below O2 W3 X → Below y2.heap.size y2 X) := fun X hX => by
    have h1 : Below y2.heap.size y2 W3 := by rw [hW3]; exact (Below.refl _ _).alloc (Nat.le_refl _) _
    rw [hO2] at hX
    exact h1.trans hX
  have HX2 : Hid (∀ X, Below y2.heap.size y2 X → Below V2.heap.size V2 X) := fun X hX => HB9.out.trans (hX.mono HB9.out.size)
  have HW3 := hid hW3
  have HO2 := hid hO2
  clear hW3 hO2
  go_upto_region 6 with fail
  rw [← HW3.out, ← HO2.out]
  clear HW3
  go_wp2
  go_loopg [6] K (fun G i wz => ∃ t : Nat, t ≤ K ∧ K - t ≤ G ∧ i = .int .i64 t ∧ Hid (∃ v us, PtSt W3 wz O2 k v us (idS t)))
  case atStart => exact ⟨0, Nat.zero_le _, by omega, rfl, HST⟩
  case round =>
    clear HST
    obtain ⟨t, ht, hG, rfl, hst⟩ := hrel
    obtain ⟨v5, us, hSt⟩ := hst.out
    obtain ⟨k0, k1⟩ := HKP.out wr (HX2.out _ (HX3.out wr hSt.kp))
    by_cases hlt : t < K
    · have q1 : (t : Int) < (K : Int) := by omega
      have m1 := hSt.c1
      obtain ⟨va, vc, hv, _⟩ := sl_own hSt.ll.1
      rw [idS_len] at hv
      subst hv
      have hsz := hSt.sz
      have hown0 := hSt.ll.1
      rw [idS_len] at hown0
      have HOW : Hid (((wr.alloc (.cells #[.int .i64 (t : Int)] 3)).alloc (.cells #[.slice (some ⟨wr.heap.size, 0, none⟩) 1 1] 28)).ownsRow (O2 + 1) 28 1 (.slice va t vc) t us) := (hown0.alloc _).alloc _
      have HNW : Hid (∀ p', some (⟨wr.heap.size + 1, 0, none⟩ : Addr) = some p' → ∀ r u, [Value.slice (some ⟨wr.heap.size, 0, none⟩) 1 1][r]? = some u → ((wr.alloc (.cells #[.int .i64 (t : Int)] 3)).alloc (.cells #[.slice (some ⟨wr.heap.size, 0, none⟩) 1 1] 28)).cell? (p'.add r) = some u) := by
        have := news_one (w := wr.alloc (.cells #[.int .i64 (t : Int)] 3)) (x := Value.slice (some ⟨wr.heap.size, 0, none⟩) 1 1) (T := 28) (0, 0)
        rw [World.size_alloc] at this
        exact this
      have HON : Hid (∀ v' ∈ [Value.slice (some ⟨wr.heap.size, 0, none⟩) 1 1], v'.oneCell' = true) := fun v' hv => by simp at hv; rw [hv]; rfl
      have H63 : Hid (t + 1 ≤ maxLen) := by show _ ≤ _; unfold maxLen; omega
      have HBY : Hid ((t + 1) * 24 ≤ 140737488355328) := by show _ ≤ _; omega
      have HBS : Hid (O2 + 1 ≤ ((wr.alloc (.cells #[.int .i64 (t : Int)] 3)).alloc (.cells #[.slice (some ⟨wr.heap.size, 0, none⟩) 1 1] 28)).heap.size) := by show _ ≤ _; simp; omega
      have HPUT : Hid (∀ v4 w4, w4.ownsRow (O2 + 1) 28 1 v4 (t + 1) (us ++ [.slice (some ⟨wr.heap.size, 0, none⟩) 1 1]) → ((wr.alloc (.cells #[.int .i64 (t : Int)] 3)).alloc (.cells #[.slice (some ⟨wr.heap.size, 0, none⟩) 1 1] 28)).grownBy w4 (Value.slice va t vc).ownBlock → (v4.ownBlock = (Value.slice va t vc).ownBlock ∨ v4.ownBlock = some ((wr.alloc (.cells #[.int .i64 (t : Int)] 3)).alloc (.cells #[.slice (some ⟨wr.heap.size, 0, none⟩) 1 1] 28)).heap.size) → (w4.cell? ⟨O2, 1, none⟩ = some (.slice va t vc) ∧ w4.frozen? ⟨O2, 1, none⟩ = false) ∧ ∃ v us, PtSt W3 (w4.setCell ⟨O2, 1, none⟩ v4) O2 k v us (idS (t + 1))) := fun v4 w4 h1 h2 h3 => by
        obtain ⟨p1, p2⟩ := hSt.put (t : Int) (by rw [idS_len]; exact h1) h2 h3
        refine ⟨p1, _, _, by rw [idS_next]; exact p2⟩
      clear hst hSt hown0 hsz
      go_wp2_with (at_builtin; refine wpList_append_any _ rfl _ _ 29 rfl (O2 + 1) 28 i1 _ 1 24 Try.underlying29 hj hy0 hy1 hy2 rfl (by decide) _ _ _ rfl HOW.out (some ⟨wr.heap.size + 1, 0, none⟩) 1 1 [.slice (some ⟨wr.heap.size, 0, none⟩) 1 1] rfl (fun h => by cases h) rfl HNW.out HON.out H63.out HBY.out HBS.out ?_)
      intro v4 w4 hown4 hgrow4 hat4
      obtain ⟨va4, vc4, rfl, _⟩ := sl_own hown4
      obtain ⟨⟨z1, z2⟩, hst4⟩ := HPUT.out _ w4 hown4 hgrow4 (hat4.imp id (fun h => by rw [World.size_alloc, World.size_alloc]; exact h))
      have HNX := hid hst4
      clear hown4 hgrow4 hat4 hst4 HPUT HOW HNW HON H63 HBY HBS m1 k0 k1
      go_wp2
      go_roundg (K - (t + 1))
      case measure => omega
      case rel => exact ⟨t + 1, by omega, Nat.le_refl _, by go_num, HNX⟩
    · obtain rfl : t = K := by omega
      obtain ⟨V3, hV3⟩ := ex_eq wr
      obtain ⟨a5, c5, hv5, -, hat5⟩ := hSt.ll.at
      rw [idS_len] at hv5
      subst hv5
      have HB3 : Hid (Below V2.heap.size V2 wr) := HX2.out _ (HX3.out wr hSt.kp)
      have m0 := hSt.c0
      have m1 := hSt.c1
      have hO3 : O2 < wr.heap.size := by have := hSt.sz; omega
      have HKQ' : ∀ X, Below wr.heap.size wr X → X.cell? ⟨O, 0, none⟩ = some (.int .i64 (t : Nat)) ∧ X.cell? ⟨O, 1, none⟩ = some (.slice a2 Q c2) ∧ X.cell? ⟨O2, 0, none⟩ = some (.int .i64 k) ∧ X.cell? ⟨O2, 1, none⟩ = some (.slice a5 t c5) := fun X hX => by
        obtain ⟨p0, p1⟩ := HKP.out X (HB3.out.trans (hX.mono HB3.out.size))
        exact ⟨p0, p1, (hX.cell (p := ⟨O2, 0, none⟩) hO3).trans m0, (hX.cell (p := ⟨O2, 1, none⟩) hO3).trans m1⟩
      have HGX : ∀ X, Below wr.heap.size wr X → EAt X a2 (patE k) ∧ LLAt X a5 (idS t) ∧ Below w.heap.size w X := fun X hX => by
        have h := HB3.out.trans (hX.mono HB3.out.size)
        exact ⟨(HG2.out.on h).at_, hat5.below hX, HBW.out.trans (h.mono HBW.out.size)⟩
      have hpt : t ≤ 8 := by omega
      have CK' : ∀ X, Below wr.heap.size wr X → Calls Try.prog 20 #[.agg #[.int .i64 (t : Nat), .slice a2 Q c2], .agg #[.int .i64 k, .slice a5 t c5]] X fun e w' => e = .returned (.bool (decide (k = 1 ∨ k = 2))) ∧ Below X.heap.size X w' := fun X hX => by
        have := check_any (t : Nat) a2 c2 (patE k) true k a5 c5 (idS t) (decide (k = 1 ∨ k = 2)) X (by rw [← HQ.out]; omega) (HGX X hX).1 ⟨fun _ => HPR.out, fun _ => rfl⟩ (by rw [idS_len]; omega) (fun S hS => by unfold idS at hS; obtain ⟨z, _, rfl⟩ := List.mem_map.1 hS; simp) (HGX X hX).2.1 ⟨fun h => by
          have hk := of_decide_eq_true h
          have := pat_model hk
          rw [← HK.out] at this
          exact this, fun h => decide_eq_true h.kind⟩
        rw [idS_len, ← HQ.out] at this
        exact this
      have CJ' : ∀ X j, (j = 1 ∨ j = 2) → Below wr.heap.size wr X → Calls Try.prog 30 #[.agg #[.int .i64 (t : Nat), .slice a2 Q c2], .int .i64 j] X fun e w' => e = .returned (.bool (decide (k = j))) ∧ Below X.heap.size X w' := fun X j hj hX => by
        have := has8_any t a2 c2 (patE k) j X hj hpt HPR.out (HGX X hX).1
        rw [← HQ.out] at this
        refine this.mono ?_
        rintro e w' ⟨r, rfl, hr, hb⟩
        refine ⟨?_, hb⟩
        have h1 := hr.1
        rw [HK.out] at h1
        rw [pat_comes hj h1]
      have CH' : ∀ X, Below wr.heap.size wr X → Calls Try.prog 30 #[.agg #[.int .i64 (t : Nat), .slice a2 Q c2], .int .i64 k] X fun e w' => e = .returned (.bool (decide (k = 1 ∨ k = 2))) ∧ Below X.heap.size X w' := fun X hX => by
        by_cases hk : k = 1 ∨ k = 2
        · have := CJ' X k hk hX
          rw [decide_eq_true rfl] at this
          rw [decide_eq_true hk]; exact this
        · have := hasO_any t a2 c2 (patE k) k X hk hpt HPR.out (HGX X hX).1
          rw [← HQ.out] at this
          rw [decide_eq_false hk]; exact this
      have HKQ := hid HKQ'
      have CK0 := hid CK'
      have CJ0 := hid CJ'
      have CH0 := hid CH'
      have HEND : Hid (∀ X, Below wr.heap.size wr X → Below w.heap.size w X) := fun X hX => (HGX X hX).2.2
      clear hst hSt hat5 HB3 hO3 HKQ' HGX CK' CJ' CH' m0 m1
      subst hV3
      have HD3 : Hid (Below V3.heap.size V3 V3.drew) := (Below.refl _ _).drew
      have hS := HKQ.out V3.drew HD3.out
      go_upto_region 10 with fail
      have hway : k = 1 ∨ k = 2 ∨ ¬ (k = 1 ∨ k = 2) := by omega
      rcases hway with rfl | rfl | hk
      · have CK : Hid (∀ X, Below V3.heap.size V3 X → Calls Try.prog 20 #[.agg #[.int .i64 (t : Nat), .slice a2 Q c2], .agg #[.int .i64 1, .slice a5 t c5]] X fun e w' => e = .returned (.bool true) ∧ Below X.heap.size X w') := fun X hX => by
          have := CK0.out X hX
          rw [show decide _ = true from decide_eq_true (by omega)] at this
          exact this
        have CH : Hid (∀ X, Below V3.heap.size V3 X → Calls Try.prog 30 #[.agg #[.int .i64 (t : Nat), .slice a2 Q c2], .int .i64 1] X fun e w' => e = .returned (.bool true) ∧ Below X.heap.size X w') := fun X hX => by
          have := CH0.out X hX
          rw [show decide _ = true from decide_eq_true (by omega)] at this
          exact this
        have C1 : Hid (∀ X, Below V3.heap.size V3 X → Calls Try.prog 30 #[.agg #[.int .i64 (t : Nat), .slice a2 Q c2], .int .i64 1] X fun e w' => e = .returned (.bool true) ∧ Below X.heap.size X w') := fun X hX => by
          have := CJ0.out X 1 (Or.inl rfl) hX
          rw [show decide _ = true from decide_eq_true (by omega)] at this
          exact this
        have C2 : Hid (∀ X, Below V3.heap.size V3 X → Calls Try.prog 30 #[.agg #[.int .i64 (t : Nat), .slice a2 Q c2], .int .i64 2] X fun e w' => e = .returned (.bool false) ∧ Below X.heap.size X w') := fun X hX => by
          have := CJ0.out X 2 (Or.inr rfl) hX
          rw [show decide _ = false from decide_eq_false (by omega)] at this
          exact this
        clear CK0 CJ0 CH0
        refine wp_region_held_drew (S := (fun X => X.cell? ⟨O, 0, none⟩ = some (.int .i64 (t : Nat)) ∧ X.cell? ⟨O, 1, none⟩ = some (.slice a2 Q c2) ∧ X.cell? ⟨O2, 0, none⟩ = some (.int .i64 1) ∧ X.cell? ⟨O2, 1, none⟩ = some (.slice a5 t c5))) (by kernel_rfl) hS (fun hHeld => ?_)
        (refine takeW (i := 0) (dst := some 30) (v := ?_) rfl rfl (by kernel_rfl) (by kernel_rfl) (by kernel_rfl) (fun _ _ _ h => h) (Or.inl ⟨by rfl, ?_⟩) hHeld ?_; rotate_left; focus (intro w hSw; (try dsimp only at hSw); go_simp; (try with_reducible rfl); done))
        try simp only [Act.put, List.setIfInBounds_toArray, List.set_cons_zero, List.set_cons_succ]
        (refine takeW (i := 1) (dst := some 31) (v := ?_) rfl rfl (by kernel_rfl) (by kernel_rfl) (by kernel_rfl) (fun _ _ _ h => h) (Or.inl ⟨by rfl, ?_⟩) hHeld ?_; rotate_left; focus (intro w hSw; (try dsimp only at hSw); go_simp; (try with_reducible rfl); done))
        try simp only [Act.put, List.setIfInBounds_toArray, List.set_cons_zero, List.set_cons_succ]
        first | refine takeW (i := 2) (dst := some 32) (v := undef) rfl rfl (by kernel_rfl) (by kernel_rfl) (by kernel_rfl) (fun _ _ _ h => h) (Or.inr ⟨by rfl, rfl⟩) hHeld ?_ | (refine takeW (i := 2) (dst := some 32) (v := ?_) rfl rfl (by kernel_rfl) (by kernel_rfl) (by kernel_rfl) (fun _ _ _ h => h) (Or.inl ⟨by rfl, ?_⟩) hHeld ?_; rotate_left; focus (intro w hSw; (try dsimp only at hSw); go_simp; (try with_reducible rfl); done))
        try simp only [Act.put, List.setIfInBounds_toArray, List.set_cons_zero, List.set_cons_succ]
        first | refine takeW (i := 3) (dst := some 33) (v := undef) rfl rfl (by kernel_rfl) (by kernel_rfl) (by kernel_rfl) (fun _ _ _ h => h) (Or.inr ⟨by rfl, rfl⟩) hHeld ?_ | (refine takeW (i := 3) (dst := some 33) (v := ?_) rfl rfl (by kernel_rfl) (by kernel_rfl) (by kernel_rfl) (fun _ _ _ h => h) (Or.inl ⟨by rfl, ?_⟩) hHeld ?_; rotate_left; focus (intro w hSw; (try dsimp only at hSw); go_simp; (try with_reducible rfl); done))
        try simp only [Act.put, List.setIfInBounds_toArray, List.set_cons_zero, List.set_cons_succ]
        first | refine takeW (i := 5) (dst := some 35) (v := undef) rfl rfl (by kernel_rfl) (by kernel_rfl) (by kernel_rfl) (fun _ _ _ h => h) (Or.inr ⟨by rfl, rfl⟩) hHeld ?_ | (refine takeW (i := 5) (dst := some 35) (v := ?_) rfl rfl (by kernel_rfl) (by kernel_rfl) (by kernel_rfl) (fun _ _ _ h => h) (Or.inl ⟨by rfl, ?_⟩) hHeld ?_; rotate_left; focus (intro w hSw; (try dsimp only at hSw); go_simp; (try with_reducible rfl); done))
        try simp only [Act.put, List.setIfInBounds_toArray, List.set_cons_zero, List.set_cons_succ]
        first | refine takeW (i := 6) (dst := some 36) (v := undef) rfl rfl (by kernel_rfl) (by kernel_rfl) (by kernel_rfl) (fun _ _ _ h => h) (Or.inr ⟨by rfl, rfl⟩) hHeld ?_ | (refine takeW (i := 6) (dst := some 36) (v := ?_) rfl rfl (by kernel_rfl) (by kernel_rfl) (by kernel_rfl) (fun _ _ _ h => h) (Or.inl ⟨by rfl, ?_⟩) hHeld ?_; rotate_left; focus (intro w hSw; (try dsimp only at hSw); go_simp; (try with_reducible rfl); done))
        try simp only [Act.put, List.setIfInBounds_toArray, List.set_cons_zero, List.set_cons_succ]
        refine wpAnyH_ready (rs := [4]) (by kernel_rfl) (by simp) ?_
        refine AllReadyH.cons (o := _) rfl (fun KK hK => ?_) AllReadyH.nil
        go_simp
        refine (CK.out V3.drew HD3.out).mono ?_
        rintro e z1 ⟨rfl, hbx⟩
        have HZ1 : Hid (Below V3.heap.size V3 z1) := HD3.out.trans (hbx.mono HD3.out.size)
        have hT1 := HKQ.out z1 HZ1.out
        clear hbx
        refine hK.out _ _ hT1 (fun hHeld => ?_)
        clear hK KK
        try simp only [Act.put]
        try simp only [List.setIfInBounds_toArray]
        try simp only [List.set_cons_succ]
        try simp only [List.set_cons_zero]
        first | refine takeW (i := 7) (dst := some 37) (v := undef) rfl rfl (by kernel_rfl) (by kernel_rfl) (by kernel_rfl) (fun _ _ _ h => h) (Or.inr ⟨by rfl, rfl⟩) hHeld ?_ | (refine takeW (i := 7) (dst := some 37) (v := ?_) rfl rfl (by kernel_rfl) (by kernel_rfl) (by kernel_rfl) (fun _ _ _ h => h) (Or.inl ⟨by rfl, ?_⟩) hHeld ?_; rotate_left; focus (intro w hSw; (try dsimp only at hSw); go_simp; (try with_reducible rfl); done))
        try simp only [Act.put, List.setIfInBounds_toArray, List.set_cons_zero, List.set_cons_succ]
        first | refine takeW (i := 8) (dst := some 38) (v := undef) rfl rfl (by kernel_rfl) (by kernel_rfl) (by kernel_rfl) (fun _ _ _ h => h) (Or.inr ⟨by rfl, rfl⟩) hHeld ?_ | (refine takeW (i := 8) (dst := some 38) (v := ?_) rfl rfl (by kernel_rfl) (by kernel_rfl) (by kernel_rfl) (fun _ _ _ h => h) (Or.inl ⟨by rfl, ?_⟩) hHeld ?_; rotate_left; focus (intro w hSw; (try dsimp only at hSw); go_simp; (try with_reducible rfl); done))
        try simp only [Act.put, List.setIfInBounds_toArray, List.set_cons_zero, List.set_cons_succ]
        first | refine takeW (i := 9) (dst := some 39) (v := undef) rfl rfl (by kernel_rfl) (by kernel_rfl) (by kernel_rfl) (fun _ _ _ h => h) (Or.inr ⟨by rfl, rfl⟩) hHeld ?_ | (refine takeW (i := 9) (dst := some 39) (v := ?_) rfl rfl (by kernel_rfl) (by kernel_rfl) (by kernel_rfl) (fun _ _ _ h => h) (Or.inl ⟨by rfl, ?_⟩) hHeld ?_; rotate_left; focus (intro w hSw; (try dsimp only at hSw); go_simp; (try with_reducible rfl); done))
        try simp only [Act.put, List.setIfInBounds_toArray, List.set_cons_zero, List.set_cons_succ]
        first | refine takeW (i := 10) (dst := some 40) (v := undef) rfl rfl (by kernel_rfl) (by kernel_rfl) (by kernel_rfl) (fun _ _ _ h => h) (Or.inr ⟨by rfl, rfl⟩) hHeld ?_ | (refine takeW (i := 10) (dst := some 40) (v := ?_) rfl rfl (by kernel_rfl) (by kernel_rfl) (by kernel_rfl) (fun _ _ _ h => h) (Or.inl ⟨by rfl, ?_⟩) hHeld ?_; rotate_left; focus (intro w hSw; (try dsimp only at hSw); go_simp; (try with_reducible rfl); done))
        try simp only [Act.put, List.setIfInBounds_toArray, List.set_cons_zero, List.set_cons_succ]
        first | refine takeW (i := 11) (dst := some 41) (v := undef) rfl rfl (by kernel_rfl) (by kernel_rfl) (by kernel_rfl) (fun _ _ _ h => h) (Or.inr ⟨by rfl, rfl⟩) hHeld ?_ | (refine takeW (i := 11) (dst := some 41) (v := ?_) rfl rfl (by kernel_rfl) (by kernel_rfl) (by kernel_rfl) (fun _ _ _ h => h) (Or.inl ⟨by rfl, ?_⟩) hHeld ?_; rotate_left; focus (intro w hSw; (try dsimp only at hSw); go_simp; (try with_reducible rfl); done))
        try simp only [Act.put, List.setIfInBounds_toArray, List.set_cons_zero, List.set_cons_succ]
        (refine takeW (i := 12) (dst := some 42) (v := ?_) rfl rfl (by kernel_rfl) (by kernel_rfl) (by kernel_rfl) (fun _ _ _ h => h) (Or.inl ⟨by rfl, ?_⟩) hHeld ?_; rotate_left; focus (intro w hSw; (try dsimp only at hSw); go_simp; (try with_reducible rfl); done))
        try simp only [Act.put, List.setIfInBounds_toArray, List.set_cons_zero, List.set_cons_succ]
        (refine takeW (i := 13) (dst := some 43) (v := ?_) rfl rfl (by kernel_rfl) (by kernel_rfl) (by kernel_rfl) (fun _ _ _ h => h) (Or.inl ⟨by rfl, ?_⟩) hHeld ?_; rotate_left; focus (intro w hSw; (try dsimp only at hSw); go_simp; (try with_reducible rfl); done))
        try simp only [Act.put, List.setIfInBounds_toArray, List.set_cons_zero, List.set_cons_succ]
        first | refine takeW (i := 14) (dst := some 44) (v := undef) rfl rfl (by kernel_rfl) (by kernel_rfl) (by kernel_rfl) (fun _ _ _ h => h) (Or.inr ⟨by rfl, rfl⟩) hHeld ?_ | (refine takeW (i := 14) (dst := some 44) (v := ?_) rfl rfl (by kernel_rfl) (by kernel_rfl) (by kernel_rfl) (fun _ _ _ h => h) (Or.inl ⟨by rfl, ?_⟩) hHeld ?_; rotate_left; focus (intro w hSw; (try dsimp only at hSw); go_simp; (try with_reducible rfl); done))
        try simp only [Act.put, List.setIfInBounds_toArray, List.set_cons_zero, List.set_cons_succ]
        first | refine takeW (i := 15) (dst := some 45) (v := undef) rfl rfl (by kernel_rfl) (by kernel_rfl) (by kernel_rfl) (fun _ _ _ h => h) (Or.inr ⟨by rfl, rfl⟩) hHeld ?_ | (refine takeW (i := 15) (dst := some 45) (v := ?_) rfl rfl (by kernel_rfl) (by kernel_rfl) (by kernel_rfl) (fun _ _ _ h => h) (Or.inl ⟨by rfl, ?_⟩) hHeld ?_; rotate_left; focus (intro w hSw; (try dsimp only at hSw); go_simp; (try with_reducible rfl); done))
        try simp only [Act.put, List.setIfInBounds_toArray, List.set_cons_zero, List.set_cons_succ]
        first | refine takeW (i := 17) (dst := some 47) (v := undef) rfl rfl (by kernel_rfl) (by kernel_rfl) (by kernel_rfl) (fun _ _ _ h => h) (Or.inr ⟨by rfl, rfl⟩) hHeld ?_ | (refine takeW (i := 17) (dst := some 47) (v := ?_) rfl rfl (by kernel_rfl) (by kernel_rfl) (by kernel_rfl) (fun _ _ _ h => h) (Or.inl ⟨by rfl, ?_⟩) hHeld ?_; rotate_left; focus (intro w hSw; (try dsimp only at hSw); go_simp; (try with_reducible rfl); done))
        try simp only [Act.put, List.setIfInBounds_toArray, List.set_cons_zero, List.set_cons_succ]
        first | refine takeW (i := 18) (dst := some 48) (v := undef) rfl rfl (by kernel_rfl) (by kernel_rfl) (by kernel_rfl) (fun _ _ _ h => h) (Or.inr ⟨by rfl, rfl⟩) hHeld ?_ | (refine takeW (i := 18) (dst := some 48) (v := ?_) rfl rfl (by kernel_rfl) (by kernel_rfl) (by kernel_rfl) (fun _ _ _ h => h) (Or.inl ⟨by rfl, ?_⟩) hHeld ?_; rotate_left; focus (intro w hSw; (try dsimp only at hSw); go_simp; (try with_reducible rfl); done))
        try simp only [Act.put, List.setIfInBounds_toArray, List.set_cons_zero, List.set_cons_succ]
        refine wpAnyH_ready (rs := [16]) (by kernel_rfl) (by simp) ?_
        refine AllReadyH.cons (o := _) rfl (fun KK hK => ?_) AllReadyH.nil
        go_simp
        refine (CH.out z1 HZ1.out).mono ?_
        rintro e z2 ⟨rfl, hbx⟩
        have HZ2 : Hid (Below V3.heap.size V3 z2) := HZ1.out.trans (hbx.mono HZ1.out.size)
        have hT2 := HKQ.out z2 HZ2.out
        clear hbx
        refine hK.out _ _ hT2 (fun hHeld => ?_)
        clear hK KK
        try simp only [Act.put]
        try simp only [List.setIfInBounds_toArray]
        try simp only [List.set_cons_succ]
        try simp only [List.set_cons_zero]
        refine wpAnyH_ready (rs := [19]) (by kernel_rfl) (by simp) ?_
        refine AllReadyH.cons (o := _) rfl (fun KK hK => ?_) AllReadyH.nil
        go_simp
        refine (CK.out z2 HZ2.out).mono ?_
        rintro e z3 ⟨rfl, hbx⟩
        have HZ3 : Hid (Below V3.heap.size V3 z3) := HZ2.out.trans (hbx.mono HZ2.out.size)
        have hT3 := HKQ.out z3 HZ3.out
        clear hbx
        refine hK.out _ _ hT3 (fun hHeld => ?_)
        clear hK KK
        try simp only [Act.put]
        try simp only [List.setIfInBounds_toArray]
        try simp only [List.set_cons_succ]
        try simp only [List.set_cons_zero]
        first | refine takeW (i := 20) (dst := some 50) (v := undef) rfl rfl (by kernel_rfl) (by kernel_rfl) (by kernel_rfl) (fun _ _ _ h => h) (Or.inr ⟨by rfl, rfl⟩) hHeld ?_ | (refine takeW (i := 20) (dst := some 50) (v := ?_) rfl rfl (by kernel_rfl) (by kernel_rfl) (by kernel_rfl) (fun _ _ _ h => h) (Or.inl ⟨by rfl, ?_⟩) hHeld ?_; rotate_left; focus (intro w hSw; (try dsimp only at hSw); go_simp; (try with_reducible rfl); done))
        try simp only [Act.put, List.setIfInBounds_toArray, List.set_cons_zero, List.set_cons_succ]
        (refine takeW (i := 21) (dst := some 51) (v := ?_) rfl rfl (by kernel_rfl) (by kernel_rfl) (by kernel_rfl) (fun _ _ _ h => h) (Or.inl ⟨by rfl, ?_⟩) hHeld ?_; rotate_left; focus (intro w hSw; (try dsimp only at hSw); go_simp; (try with_reducible rfl); done))
        try simp only [Act.put, List.setIfInBounds_toArray, List.set_cons_zero, List.set_cons_succ]
        (refine takeW (i := 22) (dst := some 52) (v := ?_) rfl rfl (by kernel_rfl) (by kernel_rfl) (by kernel_rfl) (fun _ _ _ h => h) (Or.inl ⟨by rfl, ?_⟩) hHeld ?_; rotate_left; focus (intro w hSw; (try dsimp only at hSw); go_simp; (try with_reducible rfl); done))
        try simp only [Act.put, List.setIfInBounds_toArray, List.set_cons_zero, List.set_cons_succ]
        first | refine takeW (i := 23) (dst := some 53) (v := undef) rfl rfl (by kernel_rfl) (by kernel_rfl) (by kernel_rfl) (fun _ _ _ h => h) (Or.inr ⟨by rfl, rfl⟩) hHeld ?_ | (refine takeW (i := 23) (dst := some 53) (v := ?_) rfl rfl (by kernel_rfl) (by kernel_rfl) (by kernel_rfl) (fun _ _ _ h => h) (Or.inl ⟨by rfl, ?_⟩) hHeld ?_; rotate_left; focus (intro w hSw; (try dsimp only at hSw); go_simp; (try with_reducible rfl); done))
        try simp only [Act.put, List.setIfInBounds_toArray, List.set_cons_zero, List.set_cons_succ]
        refine wpAnyH_ready (rs := [24]) (by kernel_rfl) (by simp) ?_
        refine AllReadyH.cons (o := _) rfl (fun KK hK => ?_) AllReadyH.nil
        go_simp
        refine (C1.out z3 HZ3.out).mono ?_
        rintro e z4 ⟨rfl, hbx⟩
        have HZ4 : Hid (Below V3.heap.size V3 z4) := HZ3.out.trans (hbx.mono HZ3.out.size)
        have hT4 := HKQ.out z4 HZ4.out
        clear hbx
        refine hK.out _ _ hT4 (fun hHeld => ?_)
        clear hK KK
        try simp only [Act.put]
        try simp only [List.setIfInBounds_toArray]
        try simp only [List.set_cons_succ]
        try simp only [List.set_cons_zero]
        first | refine takeW (i := 25) (dst := some 55) (v := undef) rfl rfl (by kernel_rfl) (by kernel_rfl) (by kernel_rfl) (fun _ _ _ h => h) (Or.inr ⟨by rfl, rfl⟩) hHeld ?_ | (refine takeW (i := 25) (dst := some 55) (v := ?_) rfl rfl (by kernel_rfl) (by kernel_rfl) (by kernel_rfl) (fun _ _ _ h => h) (Or.inl ⟨by rfl, ?_⟩) hHeld ?_; rotate_left; focus (intro w hSw; (try dsimp only at hSw); go_simp; (try with_reducible rfl); done))
        try simp only [Act.put, List.setIfInBounds_toArray, List.set_cons_zero, List.set_cons_succ]
        first | refine takeW (i := 26) (dst := some 56) (v := undef) rfl rfl (by kernel_rfl) (by kernel_rfl) (by kernel_rfl) (fun _ _ _ h => h) (Or.inr ⟨by rfl, rfl⟩) hHeld ?_ | (refine takeW (i := 26) (dst := some 56) (v := ?_) rfl rfl (by kernel_rfl) (by kernel_rfl) (by kernel_rfl) (fun _ _ _ h => h) (Or.inl ⟨by rfl, ?_⟩) hHeld ?_; rotate_left; focus (intro w hSw; (try dsimp only at hSw); go_simp; (try with_reducible rfl); done))
        try simp only [Act.put, List.setIfInBounds_toArray, List.set_cons_zero, List.set_cons_succ]
        refine wpAnyH_ready (rs := [27]) (by kernel_rfl) (by simp) ?_
        refine AllReadyH.cons (o := _) rfl (fun KK hK => ?_) AllReadyH.nil
        go_simp
        refine (C2.out z4 HZ4.out).mono ?_
        rintro e z5 ⟨rfl, hbx⟩
        have HZ5 : Hid (Below V3.heap.size V3 z5) := HZ4.out.trans (hbx.mono HZ4.out.size)
        have hT5 := HKQ.out z5 HZ5.out
        clear hbx
        refine hK.out _ _ hT5 (fun hHeld => ?_)
        clear hK KK
        try simp only [Act.put]
        try simp only [List.setIfInBounds_toArray]
        try simp only [List.set_cons_succ]
        try simp only [List.set_cons_zero]
        first | refine takeW (i := 28) (dst := some 58) (v := undef) rfl rfl (by kernel_rfl) (by kernel_rfl) (by kernel_rfl) (fun _ _ _ h => h) (Or.inr ⟨by rfl, rfl⟩) hHeld ?_ | (refine takeW (i := 28) (dst := some 58) (v := ?_) rfl rfl (by kernel_rfl) (by kernel_rfl) (by kernel_rfl) (fun _ _ _ h => h) (Or.inl ⟨by rfl, ?_⟩) hHeld ?_; rotate_left; focus (intro w hSw; (try dsimp only at hSw); go_simp; (try with_reducible rfl); done))
        try simp only [Act.put, List.setIfInBounds_toArray, List.set_cons_zero, List.set_cons_succ]
        first | refine takeW (i := 29) (dst := some 59) (v := undef) rfl rfl (by kernel_rfl) (by kernel_rfl) (by kernel_rfl) (fun _ _ _ h => h) (Or.inr ⟨by rfl, rfl⟩) hHeld ?_ | (refine takeW (i := 29) (dst := some 59) (v := ?_) rfl rfl (by kernel_rfl) (by kernel_rfl) (by kernel_rfl) (fun _ _ _ h => h) (Or.inl ⟨by rfl, ?_⟩) hHeld ?_; rotate_left; focus (intro w hSw; (try dsimp only at hSw); go_simp; (try with_reducible rfl); done))
        try simp only [Act.put, List.setIfInBounds_toArray, List.set_cons_zero, List.set_cons_succ]
        (refine takeW (i := 30) (dst := some 60) (v := ?_) rfl rfl (by kernel_rfl) (by kernel_rfl) (by kernel_rfl) (fun _ _ _ h => h) (Or.inl ⟨by rfl, ?_⟩) hHeld ?_; rotate_left; focus (intro w hSw; (try dsimp only at hSw); go_simp; (try with_reducible rfl); done))
        try simp only [Act.put, List.setIfInBounds_toArray, List.set_cons_zero, List.set_cons_succ]
        (refine takeW (i := 31) (dst := some 2) (v := ?_) rfl rfl (by kernel_rfl) (by kernel_rfl) (by kernel_rfl) (fun _ _ _ h => h) (Or.inl ⟨by rfl, ?_⟩) hHeld ?_; rotate_left; focus (intro w hSw; (try dsimp only at hSw); go_simp; (try with_reducible rfl); done))
        try simp only [Act.put]
        try simp only [List.setIfInBounds_toArray]
        try simp only [List.set_cons_succ]
        try simp only [List.set_cons_zero]
        refine wpAnyH_done (by kernel_rfl) ?_ _
        have HF := hid (HEND.out z5 HZ5.out)
        clear hHeld hS
        go_wp2
        go_ret
        exact ⟨rfl, HF.out⟩
      · have CK : Hid (∀ X, Below V3.heap.size V3 X → Calls Try.prog 20 #[.agg #[.int .i64 (t : Nat), .slice a2 Q c2], .agg #[.int .i64 2, .slice a5 t c5]] X fun e w' => e = .returned (.bool true) ∧ Below X.heap.size X w') := fun X hX => by
          have := CK0.out X hX
          rw [show decide _ = true from decide_eq_true (by omega)] at this
          exact this
        have CH : Hid (∀ X, Below V3.heap.size V3 X → Calls Try.prog 30 #[.agg #[.int .i64 (t : Nat), .slice a2 Q c2], .int .i64 2] X fun e w' => e = .returned (.bool true) ∧ Below X.heap.size X w') := fun X hX => by
          have := CH0.out X hX
          rw [show decide _ = true from decide_eq_true (by omega)] at this
          exact this
        have C1 : Hid (∀ X, Below V3.heap.size V3 X → Calls Try.prog 30 #[.agg #[.int .i64 (t : Nat), .slice a2 Q c2], .int .i64 1] X fun e w' => e = .returned (.bool false) ∧ Below X.heap.size X w') := fun X hX => by
          have := CJ0.out X 1 (Or.inl rfl) hX
          rw [show decide _ = false from decide_eq_false (by omega)] at this
          exact this
        have C2 : Hid (∀ X, Below V3.heap.size V3 X → Calls Try.prog 30 #[.agg #[.int .i64 (t : Nat), .slice a2 Q c2], .int .i64 2] X fun e w' => e = .returned (.bool true) ∧ Below X.heap.size X w') := fun X hX => by
          have := CJ0.out X 2 (Or.inr rfl) hX
          rw [show decide _ = true from decide_eq_true (by omega)] at this
          exact this
        clear CK0 CJ0 CH0
        refine wp_region_held_drew (S := (fun X => X.cell? ⟨O, 0, none⟩ = some (.int .i64 (t : Nat)) ∧ X.cell? ⟨O, 1, none⟩ = some (.slice a2 Q c2) ∧ X.cell? ⟨O2, 0, none⟩ = some (.int .i64 2) ∧ X.cell? ⟨O2, 1, none⟩ = some (.slice a5 t c5))) (by kernel_rfl) hS (fun hHeld => ?_)
        (refine takeW (i := 0) (dst := some 30) (v := ?_) rfl rfl (by kernel_rfl) (by kernel_rfl) (by kernel_rfl) (fun _ _ _ h => h) (Or.inl ⟨by rfl, ?_⟩) hHeld ?_; rotate_left; focus (intro w hSw; (try dsimp only at hSw); go_simp; (try with_reducible rfl); done))
        try simp only [Act.put, List.setIfInBounds_toArray, List.set_cons_zero, List.set_cons_succ]
        (refine takeW (i := 1) (dst := some 31) (v := ?_) rfl rfl (by kernel_rfl) (by kernel_rfl) (by kernel_rfl) (fun _ _ _ h => h) (Or.inl ⟨by rfl, ?_⟩) hHeld ?_; rotate_left; focus (intro w hSw; (try dsimp only at hSw); go_simp; (try with_reducible rfl); done))
        try simp only [Act.put, List.setIfInBounds_toArray, List.set_cons_zero, List.set_cons_succ]
        first | refine takeW (i := 2) (dst := some 32) (v := undef) rfl rfl (by kernel_rfl) (by kernel_rfl) (by kernel_rfl) (fun _ _ _ h => h) (Or.inr ⟨by rfl, rfl⟩) hHeld ?_ | (refine takeW (i := 2) (dst := some 32) (v := ?_) rfl rfl (by kernel_rfl) (by kernel_rfl) (by kernel_rfl) (fun _ _ _ h => h) (Or.inl ⟨by rfl, ?_⟩) hHeld ?_; rotate_left; focus (intro w hSw; (try dsimp only at hSw); go_simp; (try with_reducible rfl); done))
        try simp only [Act.put, List.setIfInBounds_toArray, List.set_cons_zero, List.set_cons_succ]
        first | refine takeW (i := 3) (dst := some 33) (v := undef) rfl rfl (by kernel_rfl) (by kernel_rfl) (by kernel_rfl) (fun _ _ _ h => h) (Or.inr ⟨by rfl, rfl⟩) hHeld ?_ | (refine takeW (i := 3) (dst := some 33) (v := ?_) rfl rfl (by kernel_rfl) (by kernel_rfl) (by kernel_rfl) (fun _ _ _ h => h) (Or.inl ⟨by rfl, ?_⟩) hHeld ?_; rotate_left; focus (intro w hSw; (try dsimp only at hSw); go_simp; (try with_reducible rfl); done))
        try simp only [Act.put, List.setIfInBounds_toArray, List.set_cons_zero, List.set_cons_succ]
        first | refine takeW (i := 5) (dst := some 35) (v := undef) rfl rfl (by kernel_rfl) (by kernel_rfl) (by kernel_rfl) (fun _ _ _ h => h) (Or.inr ⟨by rfl, rfl⟩) hHeld ?_ | (refine takeW (i := 5) (dst := some 35) (v := ?_) rfl rfl (by kernel_rfl) (by kernel_rfl) (by kernel_rfl) (fun _ _ _ h => h) (Or.inl ⟨by rfl, ?_⟩) hHeld ?_; rotate_left; focus (intro w hSw; (try dsimp only at hSw); go_simp; (try with_reducible rfl); done))
        try simp only [Act.put, List.setIfInBounds_toArray, List.set_cons_zero, List.set_cons_succ]
        first | refine takeW (i := 6) (dst := some 36) (v := undef) rfl rfl (by kernel_rfl) (by kernel_rfl) (by kernel_rfl) (fun _ _ _ h => h) (Or.inr ⟨by rfl, rfl⟩) hHeld ?_ | (refine takeW (i := 6) (dst := some 36) (v := ?_) rfl rfl (by kernel_rfl) (by kernel_rfl) (by kernel_rfl) (fun _ _ _ h => h) (Or.inl ⟨by rfl, ?_⟩) hHeld ?_; rotate_left; focus (intro w hSw; (try dsimp only at hSw); go_simp; (try with_reducible rfl); done))
        try simp only [Act.put, List.setIfInBounds_toArray, List.set_cons_zero, List.set_cons_succ]
        refine wpAnyH_ready (rs := [4]) (by kernel_rfl) (by simp) ?_
        refine AllReadyH.cons (o := _) rfl (fun KK hK => ?_) AllReadyH.nil
        go_simp
        refine (CK.out V3.drew HD3.out).mono ?_
        rintro e z1 ⟨rfl, hbx⟩
        have HZ1 : Hid (Below V3.heap.size V3 z1) := HD3.out.trans (hbx.mono HD3.out.size)
        have hT1 := HKQ.out z1 HZ1.out
        clear hbx
        refine hK.out _ _ hT1 (fun hHeld => ?_)
        clear hK KK
        try simp only [Act.put]
        try simp only [List.setIfInBounds_toArray]
        try simp only [List.set_cons_succ]
        try simp only [List.set_cons_zero]
        first | refine takeW (i := 7) (dst := some 37) (v := undef) rfl rfl (by kernel_rfl) (by kernel_rfl) (by kernel_rfl) (fun _ _ _ h => h) (Or.inr ⟨by rfl, rfl⟩) hHeld ?_ | (refine takeW (i := 7) (dst := some 37) (v := ?_) rfl rfl (by kernel_rfl) (by kernel_rfl) (by kernel_rfl) (fun _ _ _ h => h) (Or.inl ⟨by rfl, ?_⟩) hHeld ?_; rotate_left; focus (intro w hSw; (try dsimp only at hSw); go_simp; (try with_reducible rfl); done))
        try simp only [Act.put, List.setIfInBounds_toArray, List.set_cons_zero, List.set_cons_succ]
        first | refine takeW (i := 8) (dst := some 38) (v := undef) rfl rfl (by kernel_rfl) (by kernel_rfl) (by kernel_rfl) (fun _ _ _ h => h) (Or.inr ⟨by rfl, rfl⟩) hHeld ?_ | (refine takeW (i := 8) (dst := some 38) (v := ?_) rfl rfl (by kernel_rfl) (by kernel_rfl) (by kernel_rfl) (fun _ _ _ h => h) (Or.inl ⟨by rfl, ?_⟩) hHeld ?_; rotate_left; focus (intro w hSw; (try dsimp only at hSw); go_simp; (try with_reducible rfl); done))
        try simp only [Act.put, List.setIfInBounds_toArray, List.set_cons_zero, List.set_cons_succ]
        first | refine takeW (i := 9) (dst := some 39) (v := undef) rfl rfl (by kernel_rfl) (by kernel_rfl) (by kernel_rfl) (fun _ _ _ h => h) (Or.inr ⟨by rfl, rfl⟩) hHeld ?_ | (refine takeW (i := 9) (dst := some 39) (v := ?_) rfl rfl (by kernel_rfl) (by kernel_rfl) (by kernel_rfl) (fun _ _ _ h => h) (Or.inl ⟨by rfl, ?_⟩) hHeld ?_; rotate_left; focus (intro w hSw; (try dsimp only at hSw); go_simp; (try with_reducible rfl); done))
        try simp only [Act.put, List.setIfInBounds_toArray, List.set_cons_zero, List.set_cons_succ]
        first | refine takeW (i := 10) (dst := some 40) (v := undef) rfl rfl (by kernel_rfl) (by kernel_rfl) (by kernel_rfl) (fun _ _ _ h => h) (Or.inr ⟨by rfl, rfl⟩) hHeld ?_ | (refine takeW (i := 10) (dst := some 40) (v := ?_) rfl rfl (by kernel_rfl) (by kernel_rfl) (by kernel_rfl) (fun _ _ _ h => h) (Or.inl ⟨by rfl, ?_⟩) hHeld ?_; rotate_left; focus (intro w hSw; (try dsimp only at hSw); go_simp; (try with_reducible rfl); done))
        try simp only [Act.put, List.setIfInBounds_toArray, List.set_cons_zero, List.set_cons_succ]
        first | refine takeW (i := 11) (dst := some 41) (v := undef) rfl rfl (by kernel_rfl) (by kernel_rfl) (by kernel_rfl) (fun _ _ _ h => h) (Or.inr ⟨by rfl, rfl⟩) hHeld ?_ | (refine takeW (i := 11) (dst := some 41) (v := ?_) rfl rfl (by kernel_rfl) (by kernel_rfl) (by kernel_rfl) (fun _ _ _ h => h) (Or.inl ⟨by rfl, ?_⟩) hHeld ?_; rotate_left; focus (intro w hSw; (try dsimp only at hSw); go_simp; (try with_reducible rfl); done))
        try simp only [Act.put, List.setIfInBounds_toArray, List.set_cons_zero, List.set_cons_succ]
        (refine takeW (i := 12) (dst := some 42) (v := ?_) rfl rfl (by kernel_rfl) (by kernel_rfl) (by kernel_rfl) (fun _ _ _ h => h) (Or.inl ⟨by rfl, ?_⟩) hHeld ?_; rotate_left; focus (intro w hSw; (try dsimp only at hSw); go_simp; (try with_reducible rfl); done))
        try simp only [Act.put, List.setIfInBounds_toArray, List.set_cons_zero, List.set_cons_succ]
        (refine takeW (i := 13) (dst := some 43) (v := ?_) rfl rfl (by kernel_rfl) (by kernel_rfl) (by kernel_rfl) (fun _ _ _ h => h) (Or.inl ⟨by rfl, ?_⟩) hHeld ?_; rotate_left; focus (intro w hSw; (try dsimp only at hSw); go_simp; (try with_reducible rfl); done))
        try simp only [Act.put, List.setIfInBounds_toArray, List.set_cons_zero, List.set_cons_succ]
        first | refine takeW (i := 14) (dst := some 44) (v := undef) rfl rfl (by kernel_rfl) (by kernel_rfl) (by kernel_rfl) (fun _ _ _ h => h) (Or.inr ⟨by rfl, rfl⟩) hHeld ?_ | (refine takeW (i := 14) (dst := some 44) (v := ?_) rfl rfl (by kernel_rfl) (by kernel_rfl) (by kernel_rfl) (fun _ _ _ h => h) (Or.inl ⟨by rfl, ?_⟩) hHeld ?_; rotate_left; focus (intro w hSw; (try dsimp only at hSw); go_simp; (try with_reducible rfl); done))
        try simp only [Act.put, List.setIfInBounds_toArray, List.set_cons_zero, List.set_cons_succ]
        first | refine takeW (i := 15) (dst := some 45) (v := undef) rfl rfl (by kernel_rfl) (by kernel_rfl) (by kernel_rfl) (fun _ _ _ h => h) (Or.inr ⟨by rfl, rfl⟩) hHeld ?_ | (refine takeW (i := 15) (dst := some 45) (v := ?_) rfl rfl (by kernel_rfl) (by kernel_rfl) (by kernel_rfl) (fun _ _ _ h => h) (Or.inl ⟨by rfl, ?_⟩) hHeld ?_; rotate_left; focus (intro w hSw; (try dsimp only at hSw); go_simp; (try with_reducible rfl); done))
        try simp only [Act.put, List.setIfInBounds_toArray, List.set_cons_zero, List.set_cons_succ]
        first | refine takeW (i := 17) (dst := some 47) (v := undef) rfl rfl (by kernel_rfl) (by kernel_rfl) (by kernel_rfl) (fun _ _ _ h => h) (Or.inr ⟨by rfl, rfl⟩) hHeld ?_ | (refine takeW (i := 17) (dst := some 47) (v := ?_) rfl rfl (by kernel_rfl) (by kernel_rfl) (by kernel_rfl) (fun _ _ _ h => h) (Or.inl ⟨by rfl, ?_⟩) hHeld ?_; rotate_left; focus (intro w hSw; (try dsimp only at hSw); go_simp; (try with_reducible rfl); done))
        try simp only [Act.put, List.setIfInBounds_toArray, List.set_cons_zero, List.set_cons_succ]
        first | refine takeW (i := 18) (dst := some 48) (v := undef) rfl rfl (by kernel_rfl) (by kernel_rfl) (by kernel_rfl) (fun _ _ _ h => h) (Or.inr ⟨by rfl, rfl⟩) hHeld ?_ | (refine takeW (i := 18) (dst := some 48) (v := ?_) rfl rfl (by kernel_rfl) (by kernel_rfl) (by kernel_rfl) (fun _ _ _ h => h) (Or.inl ⟨by rfl, ?_⟩) hHeld ?_; rotate_left; focus (intro w hSw; (try dsimp only at hSw); go_simp; (try with_reducible rfl); done))
        try simp only [Act.put, List.setIfInBounds_toArray, List.set_cons_zero, List.set_cons_succ]
        refine wpAnyH_ready (rs := [16]) (by kernel_rfl) (by simp) ?_
        refine AllReadyH.cons (o := _) rfl (fun KK hK => ?_) AllReadyH.nil
        go_simp
        refine (CH.out z1 HZ1.out).mono ?_
        rintro e z2 ⟨rfl, hbx⟩
        have HZ2 : Hid (Below V3.heap.size V3 z2) := HZ1.out.trans (hbx.mono HZ1.out.size)
        have hT2 := HKQ.out z2 HZ2.out
        clear hbx
        refine hK.out _ _ hT2 (fun hHeld => ?_)
        clear hK KK
        try simp only [Act.put]
        try simp only [List.setIfInBounds_toArray]
        try simp only [List.set_cons_succ]
        try simp only [List.set_cons_zero]
        refine wpAnyH_ready (rs := [19]) (by kernel_rfl) (by simp) ?_
        refine AllReadyH.cons (o := _) rfl (fun KK hK => ?_) AllReadyH.nil
        go_simp
        refine (CK.out z2 HZ2.out).mono ?_
        rintro e z3 ⟨rfl, hbx⟩
        have HZ3 : Hid (Below V3.heap.size V3 z3) := HZ2.out.trans (hbx.mono HZ2.out.size)
        have hT3 := HKQ.out z3 HZ3.out
        clear hbx
        refine hK.out _ _ hT3 (fun hHeld => ?_)
        clear hK KK
        try simp only [Act.put]
        try simp only [List.setIfInBounds_toArray]
        try simp only [List.set_cons_succ]
        try simp only [List.set_cons_zero]
        first | refine takeW (i := 20) (dst := some 50) (v := undef) rfl rfl (by kernel_rfl) (by kernel_rfl) (by kernel_rfl) (fun _ _ _ h => h) (Or.inr ⟨by rfl, rfl⟩) hHeld ?_ | (refine takeW (i := 20) (dst := some 50) (v := ?_) rfl rfl (by kernel_rfl) (by kernel_rfl) (by kernel_rfl) (fun _ _ _ h => h) (Or.inl ⟨by rfl, ?_⟩) hHeld ?_; rotate_left; focus (intro w hSw; (try dsimp only at hSw); go_simp; (try with_reducible rfl); done))
        try simp only [Act.put, List.setIfInBounds_toArray, List.set_cons_zero, List.set_cons_succ]
        (refine takeW (i := 21) (dst := some 51) (v := ?_) rfl rfl (by kernel_rfl) (by kernel_rfl) (by kernel_rfl) (fun _ _ _ h => h) (Or.inl ⟨by rfl, ?_⟩) hHeld ?_; rotate_left; focus (intro w hSw; (try dsimp only at hSw); go_simp; (try with_reducible rfl); done))
        try simp only [Act.put, List.setIfInBounds_toArray, List.set_cons_zero, List.set_cons_succ]
        (refine takeW (i := 22) (dst := some 52) (v := ?_) rfl rfl (by kernel_rfl) (by kernel_rfl) (by kernel_rfl) (fun _ _ _ h => h) (Or.inl ⟨by rfl, ?_⟩) hHeld ?_; rotate_left; focus (intro w hSw; (try dsimp only at hSw); go_simp; (try with_reducible rfl); done))
        try simp only [Act.put, List.setIfInBounds_toArray, List.set_cons_zero, List.set_cons_succ]
        first | refine takeW (i := 23) (dst := some 53) (v := undef) rfl rfl (by kernel_rfl) (by kernel_rfl) (by kernel_rfl) (fun _ _ _ h => h) (Or.inr ⟨by rfl, rfl⟩) hHeld ?_ | (refine takeW (i := 23) (dst := some 53) (v := ?_) rfl rfl (by kernel_rfl) (by kernel_rfl) (by kernel_rfl) (fun _ _ _ h => h) (Or.inl ⟨by rfl, ?_⟩) hHeld ?_; rotate_left; focus (intro w hSw; (try dsimp only at hSw); go_simp; (try with_reducible rfl); done))
        try simp only [Act.put, List.setIfInBounds_toArray, List.set_cons_zero, List.set_cons_succ]
        refine wpAnyH_ready (rs := [24]) (by kernel_rfl) (by simp) ?_
        refine AllReadyH.cons (o := _) rfl (fun KK hK => ?_) AllReadyH.nil
        go_simp
        refine (C1.out z3 HZ3.out).mono ?_
        rintro e z4 ⟨rfl, hbx⟩
        have HZ4 : Hid (Below V3.heap.size V3 z4) := HZ3.out.trans (hbx.mono HZ3.out.size)
        have hT4 := HKQ.out z4 HZ4.out
        clear hbx
        refine hK.out _ _ hT4 (fun hHeld => ?_)
        clear hK KK
        try simp only [Act.put]
        try simp only [List.setIfInBounds_toArray]
        try simp only [List.set_cons_succ]
        try simp only [List.set_cons_zero]
        first | refine takeW (i := 25) (dst := some 55) (v := undef) rfl rfl (by kernel_rfl) (by kernel_rfl) (by kernel_rfl) (fun _ _ _ h => h) (Or.inr ⟨by rfl, rfl⟩) hHeld ?_ | (refine takeW (i := 25) (dst := some 55) (v := ?_) rfl rfl (by kernel_rfl) (by kernel_rfl) (by kernel_rfl) (fun _ _ _ h => h) (Or.inl ⟨by rfl, ?_⟩) hHeld ?_; rotate_left; focus (intro w hSw; (try dsimp only at hSw); go_simp; (try with_reducible rfl); done))
        try simp only [Act.put, List.setIfInBounds_toArray, List.set_cons_zero, List.set_cons_succ]
        first | refine takeW (i := 26) (dst := some 56) (v := undef) rfl rfl (by kernel_rfl) (by kernel_rfl) (by kernel_rfl) (fun _ _ _ h => h) (Or.inr ⟨by rfl, rfl⟩) hHeld ?_ | (refine takeW (i := 26) (dst := some 56) (v := ?_) rfl rfl (by kernel_rfl) (by kernel_rfl) (by kernel_rfl) (fun _ _ _ h => h) (Or.inl ⟨by rfl, ?_⟩) hHeld ?_; rotate_left; focus (intro w hSw; (try dsimp only at hSw); go_simp; (try with_reducible rfl); done))
        try simp only [Act.put, List.setIfInBounds_toArray, List.set_cons_zero, List.set_cons_succ]
        first | refine takeW (i := 27) (dst := some 57) (v := undef) rfl rfl (by kernel_rfl) (by kernel_rfl) (by kernel_rfl) (fun _ _ _ h => h) (Or.inr ⟨by rfl, rfl⟩) hHeld ?_ | (refine takeW (i := 27) (dst := some 57) (v := ?_) rfl rfl (by kernel_rfl) (by kernel_rfl) (by kernel_rfl) (fun _ _ _ h => h) (Or.inl ⟨by rfl, ?_⟩) hHeld ?_; rotate_left; focus (intro w hSw; (try dsimp only at hSw); go_simp; (try with_reducible rfl); done))
        try simp only [Act.put, List.setIfInBounds_toArray, List.set_cons_zero, List.set_cons_succ]
        first | refine takeW (i := 28) (dst := some 58) (v := undef) rfl rfl (by kernel_rfl) (by kernel_rfl) (by kernel_rfl) (fun _ _ _ h => h) (Or.inr ⟨by rfl, rfl⟩) hHeld ?_ | (refine takeW (i := 28) (dst := some 58) (v := ?_) rfl rfl (by kernel_rfl) (by kernel_rfl) (by kernel_rfl) (fun _ _ _ h => h) (Or.inl ⟨by rfl, ?_⟩) hHeld ?_; rotate_left; focus (intro w hSw; (try dsimp only at hSw); go_simp; (try with_reducible rfl); done))
        try simp only [Act.put, List.setIfInBounds_toArray, List.set_cons_zero, List.set_cons_succ]
        first | refine takeW (i := 29) (dst := some 59) (v := undef) rfl rfl (by kernel_rfl) (by kernel_rfl) (by kernel_rfl) (fun _ _ _ h => h) (Or.inr ⟨by rfl, rfl⟩) hHeld ?_ | (refine takeW (i := 29) (dst := some 59) (v := ?_) rfl rfl (by kernel_rfl) (by kernel_rfl) (by kernel_rfl) (fun _ _ _ h => h) (Or.inl ⟨by rfl, ?_⟩) hHeld ?_; rotate_left; focus (intro w hSw; (try dsimp only at hSw); go_simp; (try with_reducible rfl); done))
        try simp only [Act.put, List.setIfInBounds_toArray, List.set_cons_zero, List.set_cons_succ]
        (refine takeW (i := 30) (dst := some 60) (v := ?_) rfl rfl (by kernel_rfl) (by kernel_rfl) (by kernel_rfl) (fun _ _ _ h => h) (Or.inl ⟨by rfl, ?_⟩) hHeld ?_; rotate_left; focus (intro w hSw; (try dsimp only at hSw); go_simp; (try with_reducible rfl); done))
        try simp only [Act.put, List.setIfInBounds_toArray, List.set_cons_zero, List.set_cons_succ]
        (refine takeW (i := 31) (dst := some 2) (v := ?_) rfl rfl (by kernel_rfl) (by kernel_rfl) (by kernel_rfl) (fun _ _ _ h => h) (Or.inl ⟨by rfl, ?_⟩) hHeld ?_; rotate_left; focus (intro w hSw; (try dsimp only at hSw); go_simp; (try with_reducible rfl); done))
        try simp only [Act.put]
        try simp only [List.setIfInBounds_toArray]
        try simp only [List.set_cons_succ]
        try simp only [List.set_cons_zero]
        refine wpAnyH_done (by kernel_rfl) ?_ _
        have HF := hid (HEND.out z4 HZ4.out)
        clear hHeld hS
        go_wp2
        go_ret
        exact ⟨rfl, HF.out⟩
      · have t1 : (k == 1) = false := beq_eq_false_iff_ne.2 (fun e => hk (Or.inl e))
        have t2 : (k == 2) = false := beq_eq_false_iff_ne.2 (fun e => hk (Or.inr e))
        have t3 : ¬ k = 1 := fun e => hk (Or.inl e)
        have t4 : ¬ k = 2 := fun e => hk (Or.inr e)
        have CK : Hid (∀ X, Below V3.heap.size V3 X → Calls Try.prog 20 #[.agg #[.int .i64 (t : Nat), .slice a2 Q c2], .agg #[.int .i64 k, .slice a5 t c5]] X fun e w' => e = .returned (.bool false) ∧ Below X.heap.size X w') := fun X hX => by
          have := CK0.out X hX
          rw [show decide _ = false from decide_eq_false (by omega)] at this
          exact this
        have CH : Hid (∀ X, Below V3.heap.size V3 X → Calls Try.prog 30 #[.agg #[.int .i64 (t : Nat), .slice a2 Q c2], .int .i64 k] X fun e w' => e = .returned (.bool false) ∧ Below X.heap.size X w') := fun X hX => by
          have := CH0.out X hX
          rw [show decide _ = false from decide_eq_false (by omega)] at this
          exact this
        have C1 : Hid (∀ X, Below V3.heap.size V3 X → Calls Try.prog 30 #[.agg #[.int .i64 (t : Nat), .slice a2 Q c2], .int .i64 1] X fun e w' => e = .returned (.bool false) ∧ Below X.heap.size X w') := fun X hX => by
          have := CJ0.out X 1 (Or.inl rfl) hX
          rw [show decide _ = false from decide_eq_false (by omega)] at this
          exact this
        have C2 : Hid (∀ X, Below V3.heap.size V3 X → Calls Try.prog 30 #[.agg #[.int .i64 (t : Nat), .slice a2 Q c2], .int .i64 2] X fun e w' => e = .returned (.bool false) ∧ Below X.heap.size X w') := fun X hX => by
          have := CJ0.out X 2 (Or.inr rfl) hX
          rw [show decide _ = false from decide_eq_false (by omega)] at this
          exact this
        clear CK0 CJ0 CH0
        refine wp_region_held_drew (S := (fun X => X.cell? ⟨O, 0, none⟩ = some (.int .i64 (t : Nat)) ∧ X.cell? ⟨O, 1, none⟩ = some (.slice a2 Q c2) ∧ X.cell? ⟨O2, 0, none⟩ = some (.int .i64 k) ∧ X.cell? ⟨O2, 1, none⟩ = some (.slice a5 t c5))) (by kernel_rfl) hS (fun hHeld => ?_)
        (refine takeW (i := 0) (dst := some 30) (v := ?_) rfl rfl (by kernel_rfl) (by kernel_rfl) (by kernel_rfl) (fun _ _ _ h => h) (Or.inl ⟨by rfl, ?_⟩) hHeld ?_; rotate_left; focus (intro w hSw; (try dsimp only at hSw); go_simp; (try with_reducible rfl); done))
        try simp only [Act.put, List.setIfInBounds_toArray, List.set_cons_zero, List.set_cons_succ]
        (refine takeW (i := 1) (dst := some 31) (v := ?_) rfl rfl (by kernel_rfl) (by kernel_rfl) (by kernel_rfl) (fun _ _ _ h => h) (Or.inl ⟨by rfl, ?_⟩) hHeld ?_; rotate_left; focus (intro w hSw; (try dsimp only at hSw); go_simp; (try with_reducible rfl); done))
        try simp only [Act.put, List.setIfInBounds_toArray, List.set_cons_zero, List.set_cons_succ]
        first | refine takeW (i := 2) (dst := some 32) (v := undef) rfl rfl (by kernel_rfl) (by kernel_rfl) (by kernel_rfl) (fun _ _ _ h => h) (Or.inr ⟨by rfl, rfl⟩) hHeld ?_ | (refine takeW (i := 2) (dst := some 32) (v := ?_) rfl rfl (by kernel_rfl) (by kernel_rfl) (by kernel_rfl) (fun _ _ _ h => h) (Or.inl ⟨by rfl, ?_⟩) hHeld ?_; rotate_left; focus (intro w hSw; (try dsimp only at hSw); go_simp; (try with_reducible rfl); done))
        try simp only [Act.put, List.setIfInBounds_toArray, List.set_cons_zero, List.set_cons_succ]
        first | refine takeW (i := 3) (dst := some 33) (v := undef) rfl rfl (by kernel_rfl) (by kernel_rfl) (by kernel_rfl) (fun _ _ _ h => h) (Or.inr ⟨by rfl, rfl⟩) hHeld ?_ | (refine takeW (i := 3) (dst := some 33) (v := ?_) rfl rfl (by kernel_rfl) (by kernel_rfl) (by kernel_rfl) (fun _ _ _ h => h) (Or.inl ⟨by rfl, ?_⟩) hHeld ?_; rotate_left; focus (intro w hSw; (try dsimp only at hSw); go_simp; (try with_reducible rfl); done))
        try simp only [Act.put, List.setIfInBounds_toArray, List.set_cons_zero, List.set_cons_succ]
        first | refine takeW (i := 5) (dst := some 35) (v := undef) rfl rfl (by kernel_rfl) (by kernel_rfl) (by kernel_rfl) (fun _ _ _ h => h) (Or.inr ⟨by rfl, rfl⟩) hHeld ?_ | (refine takeW (i := 5) (dst := some 35) (v := ?_) rfl rfl (by kernel_rfl) (by kernel_rfl) (by kernel_rfl) (fun _ _ _ h => h) (Or.inl ⟨by rfl, ?_⟩) hHeld ?_; rotate_left; focus (intro w hSw; (try dsimp only at hSw); go_simp; (try with_reducible rfl); done))
        try simp only [Act.put, List.setIfInBounds_toArray, List.set_cons_zero, List.set_cons_succ]
        first | refine takeW (i := 6) (dst := some 36) (v := undef) rfl rfl (by kernel_rfl) (by kernel_rfl) (by kernel_rfl) (fun _ _ _ h => h) (Or.inr ⟨by rfl, rfl⟩) hHeld ?_ | (refine takeW (i := 6) (dst := some 36) (v := ?_) rfl rfl (by kernel_rfl) (by kernel_rfl) (by kernel_rfl) (fun _ _ _ h => h) (Or.inl ⟨by rfl, ?_⟩) hHeld ?_; rotate_left; focus (intro w hSw; (try dsimp only at hSw); go_simp; (try with_reducible rfl); done))
        try simp only [Act.put, List.setIfInBounds_toArray, List.set_cons_zero, List.set_cons_succ]
        refine wpAnyH_ready (rs := [4]) (by kernel_rfl) (by simp) ?_
        refine AllReadyH.cons (o := _) rfl (fun KK hK => ?_) AllReadyH.nil
        go_simp
        refine (CK.out V3.drew HD3.out).mono ?_
        rintro e z1 ⟨rfl, hbx⟩
        have HZ1 : Hid (Below V3.heap.size V3 z1) := HD3.out.trans (hbx.mono HD3.out.size)
        have hT1 := HKQ.out z1 HZ1.out
        clear hbx
        refine hK.out _ _ hT1 (fun hHeld => ?_)
        clear hK KK
        try simp only [Act.put]
        try simp only [List.setIfInBounds_toArray]
        try simp only [List.set_cons_succ]
        try simp only [List.set_cons_zero]
        first | refine takeW (i := 7) (dst := some 37) (v := undef) rfl rfl (by kernel_rfl) (by kernel_rfl) (by kernel_rfl) (fun _ _ _ h => h) (Or.inr ⟨by rfl, rfl⟩) hHeld ?_ | (refine takeW (i := 7) (dst := some 37) (v := ?_) rfl rfl (by kernel_rfl) (by kernel_rfl) (by kernel_rfl) (fun _ _ _ h => h) (Or.inl ⟨by rfl, ?_⟩) hHeld ?_; rotate_left; focus (intro w hSw; (try dsimp only at hSw); go_simp; (try with_reducible rfl); done))
        try simp only [Act.put, List.setIfInBounds_toArray, List.set_cons_zero, List.set_cons_succ]
        first | refine takeW (i := 8) (dst := some 38) (v := undef) rfl rfl (by kernel_rfl) (by kernel_rfl) (by kernel_rfl) (fun _ _ _ h => h) (Or.inr ⟨by rfl, rfl⟩) hHeld ?_ | (refine takeW (i := 8) (dst := some 38) (v := ?_) rfl rfl (by kernel_rfl) (by kernel_rfl) (by kernel_rfl) (fun _ _ _ h => h) (Or.inl ⟨by rfl, ?_⟩) hHeld ?_; rotate_left; focus (intro w hSw; (try dsimp only at hSw); go_simp; (try with_reducible rfl); done))
        try simp only [Act.put, List.setIfInBounds_toArray, List.set_cons_zero, List.set_cons_succ]
        first | refine takeW (i := 9) (dst := some 39) (v := undef) rfl rfl (by kernel_rfl) (by kernel_rfl) (by kernel_rfl) (fun _ _ _ h => h) (Or.inr ⟨by rfl, rfl⟩) hHeld ?_ | (refine takeW (i := 9) (dst := some 39) (v := ?_) rfl rfl (by kernel_rfl) (by kernel_rfl) (by kernel_rfl) (fun _ _ _ h => h) (Or.inl ⟨by rfl, ?_⟩) hHeld ?_; rotate_left; focus (intro w hSw; (try dsimp only at hSw); go_simp; (try with_reducible rfl); done))
        try simp only [Act.put, List.setIfInBounds_toArray, List.set_cons_zero, List.set_cons_succ]
        first | refine takeW (i := 10) (dst := some 40) (v := undef) rfl rfl (by kernel_rfl) (by kernel_rfl) (by kernel_rfl) (fun _ _ _ h => h) (Or.inr ⟨by rfl, rfl⟩) hHeld ?_ | (refine takeW (i := 10) (dst := some 40) (v := ?_) rfl rfl (by kernel_rfl) (by kernel_rfl) (by kernel_rfl) (fun _ _ _ h => h) (Or.inl ⟨by rfl, ?_⟩) hHeld ?_; rotate_left; focus (intro w hSw; (try dsimp only at hSw); go_simp; (try with_reducible rfl); done))
        try simp only [Act.put, List.setIfInBounds_toArray, List.set_cons_zero, List.set_cons_succ]
        first | refine takeW (i := 11) (dst := some 41) (v := undef) rfl rfl (by kernel_rfl) (by kernel_rfl) (by kernel_rfl) (fun _ _ _ h => h) (Or.inr ⟨by rfl, rfl⟩) hHeld ?_ | (refine takeW (i := 11) (dst := some 41) (v := ?_) rfl rfl (by kernel_rfl) (by kernel_rfl) (by kernel_rfl) (fun _ _ _ h => h) (Or.inl ⟨by rfl, ?_⟩) hHeld ?_; rotate_left; focus (intro w hSw; (try dsimp only at hSw); go_simp; (try with_reducible rfl); done))
        try simp only [Act.put, List.setIfInBounds_toArray, List.set_cons_zero, List.set_cons_succ]
        (refine takeW (i := 12) (dst := some 42) (v := ?_) rfl rfl (by kernel_rfl) (by kernel_rfl) (by kernel_rfl) (fun _ _ _ h => h) (Or.inl ⟨by rfl, ?_⟩) hHeld ?_; rotate_left; focus (intro w hSw; (try dsimp only at hSw); go_simp; (try with_reducible rfl); done))
        try simp only [Act.put, List.setIfInBounds_toArray, List.set_cons_zero, List.set_cons_succ]
        (refine takeW (i := 13) (dst := some 43) (v := ?_) rfl rfl (by kernel_rfl) (by kernel_rfl) (by kernel_rfl) (fun _ _ _ h => h) (Or.inl ⟨by rfl, ?_⟩) hHeld ?_; rotate_left; focus (intro w hSw; (try dsimp only at hSw); go_simp; (try with_reducible rfl); done))
        try simp only [Act.put, List.setIfInBounds_toArray, List.set_cons_zero, List.set_cons_succ]
        first | refine takeW (i := 14) (dst := some 44) (v := undef) rfl rfl (by kernel_rfl) (by kernel_rfl) (by kernel_rfl) (fun _ _ _ h => h) (Or.inr ⟨by rfl, rfl⟩) hHeld ?_ | (refine takeW (i := 14) (dst := some 44) (v := ?_) rfl rfl (by kernel_rfl) (by kernel_rfl) (by kernel_rfl) (fun _ _ _ h => h) (Or.inl ⟨by rfl, ?_⟩) hHeld ?_; rotate_left; focus (intro w hSw; (try dsimp only at hSw); go_simp; (try with_reducible rfl); done))
        try simp only [Act.put, List.setIfInBounds_toArray, List.set_cons_zero, List.set_cons_succ]
        first | refine takeW (i := 15) (dst := some 45) (v := undef) rfl rfl (by kernel_rfl) (by kernel_rfl) (by kernel_rfl) (fun _ _ _ h => h) (Or.inr ⟨by rfl, rfl⟩) hHeld ?_ | (refine takeW (i := 15) (dst := some 45) (v := ?_) rfl rfl (by kernel_rfl) (by kernel_rfl) (by kernel_rfl) (fun _ _ _ h => h) (Or.inl ⟨by rfl, ?_⟩) hHeld ?_; rotate_left; focus (intro w hSw; (try dsimp only at hSw); go_simp; (try with_reducible rfl); done))
        try simp only [Act.put, List.setIfInBounds_toArray, List.set_cons_zero, List.set_cons_succ]
        first | refine takeW (i := 17) (dst := some 47) (v := undef) rfl rfl (by kernel_rfl) (by kernel_rfl) (by kernel_rfl) (fun _ _ _ h => h) (Or.inr ⟨by rfl, rfl⟩) hHeld ?_ | (refine takeW (i := 17) (dst := some 47) (v := ?_) rfl rfl (by kernel_rfl) (by kernel_rfl) (by kernel_rfl) (fun _ _ _ h => h) (Or.inl ⟨by rfl, ?_⟩) hHeld ?_; rotate_left; focus (intro w hSw; (try dsimp only at hSw); go_simp; (try with_reducible rfl); done))
        try simp only [Act.put, List.setIfInBounds_toArray, List.set_cons_zero, List.set_cons_succ]
        first | refine takeW (i := 18) (dst := some 48) (v := undef) rfl rfl (by kernel_rfl) (by kernel_rfl) (by kernel_rfl) (fun _ _ _ h => h) (Or.inr ⟨by rfl, rfl⟩) hHeld ?_ | (refine takeW (i := 18) (dst := some 48) (v := ?_) rfl rfl (by kernel_rfl) (by kernel_rfl) (by kernel_rfl) (fun _ _ _ h => h) (Or.inl ⟨by rfl, ?_⟩) hHeld ?_; rotate_left; focus (intro w hSw; (try dsimp only at hSw); go_simp; (try with_reducible rfl); done))
        try simp only [Act.put, List.setIfInBounds_toArray, List.set_cons_zero, List.set_cons_succ]
        refine wpAnyH_ready (rs := [16]) (by kernel_rfl) (by simp) ?_
        refine AllReadyH.cons (o := _) rfl (fun KK hK => ?_) AllReadyH.nil
        go_simp
        refine (CH.out z1 HZ1.out).mono ?_
        rintro e z2 ⟨rfl, hbx⟩
        have HZ2 : Hid (Below V3.heap.size V3 z2) := HZ1.out.trans (hbx.mono HZ1.out.size)
        have hT2 := HKQ.out z2 HZ2.out
        clear hbx
        refine hK.out _ _ hT2 (fun hHeld => ?_)
        clear hK KK
        try simp only [Act.put]
        try simp only [List.setIfInBounds_toArray]
        try simp only [List.set_cons_succ]
        try simp only [List.set_cons_zero]
        refine wpAnyH_ready (rs := [19]) (by kernel_rfl) (by simp) ?_
        refine AllReadyH.cons (o := _) rfl (fun KK hK => ?_) AllReadyH.nil
        go_simp
        refine (CK.out z2 HZ2.out).mono ?_
        rintro e z3 ⟨rfl, hbx⟩
        have HZ3 : Hid (Below V3.heap.size V3 z3) := HZ2.out.trans (hbx.mono HZ2.out.size)
        have hT3 := HKQ.out z3 HZ3.out
        clear hbx
        refine hK.out _ _ hT3 (fun hHeld => ?_)
        clear hK KK
        try simp only [Act.put]
        try simp only [List.setIfInBounds_toArray]
        try simp only [List.set_cons_succ]
        try simp only [List.set_cons_zero]
        first | refine takeW (i := 20) (dst := some 50) (v := undef) rfl rfl (by kernel_rfl) (by kernel_rfl) (by kernel_rfl) (fun _ _ _ h => h) (Or.inr ⟨by rfl, rfl⟩) hHeld ?_ | (refine takeW (i := 20) (dst := some 50) (v := ?_) rfl rfl (by kernel_rfl) (by kernel_rfl) (by kernel_rfl) (fun _ _ _ h => h) (Or.inl ⟨by rfl, ?_⟩) hHeld ?_; rotate_left; focus (intro w hSw; (try dsimp only at hSw); go_simp; (try with_reducible rfl); done))
        try simp only [Act.put, List.setIfInBounds_toArray, List.set_cons_zero, List.set_cons_succ]
        (refine takeW (i := 21) (dst := some 51) (v := ?_) rfl rfl (by kernel_rfl) (by kernel_rfl) (by kernel_rfl) (fun _ _ _ h => h) (Or.inl ⟨by rfl, ?_⟩) hHeld ?_; rotate_left; focus (intro w hSw; (try dsimp only at hSw); go_simp; (try with_reducible rfl); done))
        try simp only [Act.put, List.setIfInBounds_toArray, List.set_cons_zero, List.set_cons_succ]
        (refine takeW (i := 22) (dst := some 52) (v := ?_) rfl rfl (by kernel_rfl) (by kernel_rfl) (by kernel_rfl) (fun _ _ _ h => h) (Or.inl ⟨by rfl, ?_⟩) hHeld ?_; rotate_left; focus (intro w hSw; (try dsimp only at hSw); go_simp; (try with_reducible rfl); done))
        try simp only [Act.put, List.setIfInBounds_toArray, List.set_cons_zero, List.set_cons_succ]
        first | refine takeW (i := 23) (dst := some 53) (v := undef) rfl rfl (by kernel_rfl) (by kernel_rfl) (by kernel_rfl) (fun _ _ _ h => h) (Or.inr ⟨by rfl, rfl⟩) hHeld ?_ | (refine takeW (i := 23) (dst := some 53) (v := ?_) rfl rfl (by kernel_rfl) (by kernel_rfl) (by kernel_rfl) (fun _ _ _ h => h) (Or.inl ⟨by rfl, ?_⟩) hHeld ?_; rotate_left; focus (intro w hSw; (try dsimp only at hSw); go_simp; (try with_reducible rfl); done))
        try simp only [Act.put, List.setIfInBounds_toArray, List.set_cons_zero, List.set_cons_succ]
        refine wpAnyH_ready (rs := [24]) (by kernel_rfl) (by simp) ?_
        refine AllReadyH.cons (o := _) rfl (fun KK hK => ?_) AllReadyH.nil
        go_simp
        refine (C1.out z3 HZ3.out).mono ?_
        rintro e z4 ⟨rfl, hbx⟩
        have HZ4 : Hid (Below V3.heap.size V3 z4) := HZ3.out.trans (hbx.mono HZ3.out.size)
        have hT4 := HKQ.out z4 HZ4.out
        clear hbx
        refine hK.out _ _ hT4 (fun hHeld => ?_)
        clear hK KK
        try simp only [Act.put]
        try simp only [List.setIfInBounds_toArray]
        try simp only [List.set_cons_succ]
        try simp only [List.set_cons_zero]
        first | refine takeW (i := 25) (dst := some 55) (v := undef) rfl rfl (by kernel_rfl) (by kernel_rfl) (by kernel_rfl) (fun _ _ _ h => h) (Or.inr ⟨by rfl, rfl⟩) hHeld ?_ | (refine takeW (i := 25) (dst := some 55) (v := ?_) rfl rfl (by kernel_rfl) (by kernel_rfl) (by kernel_rfl) (fun _ _ _ h => h) (Or.inl ⟨by rfl, ?_⟩) hHeld ?_; rotate_left; focus (intro w hSw; (try dsimp only at hSw); go_simp; (try with_reducible rfl); done))
        try simp only [Act.put, List.setIfInBounds_toArray, List.set_cons_zero, List.set_cons_succ]
        first | refine takeW (i := 26) (dst := some 56) (v := undef) rfl rfl (by kernel_rfl) (by kernel_rfl) (by kernel_rfl) (fun _ _ _ h => h) (Or.inr ⟨by rfl, rfl⟩) hHeld ?_ | (refine takeW (i := 26) (dst := some 56) (v := ?_) rfl rfl (by kernel_rfl) (by kernel_rfl) (by kernel_rfl) (fun _ _ _ h => h) (Or.inl ⟨by rfl, ?_⟩) hHeld ?_; rotate_left; focus (intro w hSw; (try dsimp only at hSw); go_simp; (try with_reducible rfl); done))
        try simp only [Act.put, List.setIfInBounds_toArray, List.set_cons_zero, List.set_cons_succ]
        first | refine takeW (i := 27) (dst := some 57) (v := undef) rfl rfl (by kernel_rfl) (by kernel_rfl) (by kernel_rfl) (fun _ _ _ h => h) (Or.inr ⟨by rfl, rfl⟩) hHeld ?_ | (refine takeW (i := 27) (dst := some 57) (v := ?_) rfl rfl (by kernel_rfl) (by kernel_rfl) (by kernel_rfl) (fun _ _ _ h => h) (Or.inl ⟨by rfl, ?_⟩) hHeld ?_; rotate_left; focus (intro w hSw; (try dsimp only at hSw); go_simp; (try with_reducible rfl); done))
        try simp only [Act.put, List.setIfInBounds_toArray, List.set_cons_zero, List.set_cons_succ]
        first | refine takeW (i := 28) (dst := some 58) (v := undef) rfl rfl (by kernel_rfl) (by kernel_rfl) (by kernel_rfl) (fun _ _ _ h => h) (Or.inr ⟨by rfl, rfl⟩) hHeld ?_ | (refine takeW (i := 28) (dst := some 58) (v := ?_) rfl rfl (by kernel_rfl) (by kernel_rfl) (by kernel_rfl) (fun _ _ _ h => h) (Or.inl ⟨by rfl, ?_⟩) hHeld ?_; rotate_left; focus (intro w hSw; (try dsimp only at hSw); go_simp; (try with_reducible rfl); done))
        try simp only [Act.put, List.setIfInBounds_toArray, List.set_cons_zero, List.set_cons_succ]
        first | refine takeW (i := 29) (dst := some 59) (v := undef) rfl rfl (by kernel_rfl) (by kernel_rfl) (by kernel_rfl) (fun _ _ _ h => h) (Or.inr ⟨by rfl, rfl⟩) hHeld ?_ | (refine takeW (i := 29) (dst := some 59) (v := ?_) rfl rfl (by kernel_rfl) (by kernel_rfl) (by kernel_rfl) (fun _ _ _ h => h) (Or.inl ⟨by rfl, ?_⟩) hHeld ?_; rotate_left; focus (intro w hSw; (try dsimp only at hSw); go_simp; (try with_reducible rfl); done))
        try simp only [Act.put, List.setIfInBounds_toArray, List.set_cons_zero, List.set_cons_succ]
        (refine takeW (i := 30) (dst := some 60) (v := ?_) rfl rfl (by kernel_rfl) (by kernel_rfl) (by kernel_rfl) (fun _ _ _ h => h) (Or.inl ⟨by rfl, ?_⟩) hHeld ?_; rotate_left; focus (intro w hSw; (try dsimp only at hSw); go_simp; (try with_reducible rfl); done))
        try simp only [Act.put, List.setIfInBounds_toArray, List.set_cons_zero, List.set_cons_succ]
        (refine takeW (i := 31) (dst := some 2) (v := ?_) rfl rfl (by kernel_rfl) (by kernel_rfl) (by kernel_rfl) (fun _ _ _ h => h) (Or.inl ⟨by rfl, ?_⟩) hHeld ?_; rotate_left; focus (intro w hSw; (try dsimp only at hSw); go_simp; (try with_reducible rfl); done))
        try simp only [Act.put]
        try simp only [List.setIfInBounds_toArray]
        try simp only [List.set_cons_succ]
        try simp only [List.set_cons_zero]
        refine wpAnyH_done (by kernel_rfl) ?_ _
        have HF := hid (HEND.out z4 HZ4.out)
        clear hHeld hS
        go_wp2
        go_ret
        exact ⟨rfl, HF.out⟩
end Go.Proofs.Ytlebimolgienkaa
