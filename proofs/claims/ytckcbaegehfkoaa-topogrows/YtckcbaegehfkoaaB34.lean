/-
  The document's merged and is, over rows of bits (layer 8).
-/
import Derived.Test.YtckcbaegehfkoaaB33
import Derived.Test.YtckcbaegehfkoaaB25
namespace Go.Proofs.Ytckcbaegehfkoaa
open Go.RowKit Go.Lib

theorem NewRow.lower {L : List Int} {w W w' : World} {u : Value} (hb : Below w.heap.size w W) (h : NewRow L W w' u) : NewRow L w w' u := ⟨own_lowerS h.1 hb.size, hb.trans (h.2.mono hb.size)⟩
theorem bit_and (x b : Nat) : (x >>> b) &&& 1 = (x.testBit b).toNat := by
  rw [Nat.and_one_is_mod, Nat.shiftRight_eq_div_pow, Nat.toNat_testBit]
theorem or_lt8 {x y : Nat} (hx : x < 256) (hy : y < 256) : x ||| y < 256 := Nat.or_lt_two_pow (n := 8) hx hy
theorem andN_le (a b : Nat) : andN a b ≤ a := by
  have e : andN a b = a &&& andN a b := by
    apply Nat.eq_of_testBit_eq
    intro i
    rw [Nat.testBit_and, andN_bit]
    cases a.testBit i <;> simp
  rw [e]; exact Nat.and_le_left
theorem pow8' {v : Nat} (h : v < 8) : 2 ^ v < 256 := Nat.pow_lt_pow_right (by omega) h
theorem getD_sm {r : List Nat} (h : Sm r) (i : Nat) : r.getD i 0 < 256 := by
  rw [List.getD_eq_getElem?_getD]
  cases e : r[i]? with
  | none => simp
  | some x => exact h x (List.mem_of_getElem? e)
theorem mergO_sm {r : List Nat} {a b : Nat} (h : Sm r) (ha : a < 8) : Sm (mergO r a b) := fun x hx => by
  unfold mergO at hx
  obtain ⟨i, _, rfl⟩ := List.mem_map.1 hx
  have hp := pow8' ha
  split
  · exact Nat.lt_of_le_of_lt (andN_le _ _) (or_lt8 (getD_sm h _) (getD_sm h _))
  · split
    · exact or_lt8 (getD_sm h _) hp
    · exact getD_sm h _
theorem merg_sm {r : List Nat} {a b : Nat} (h : Sm r) (ha : a < 8) (hb : b < 8) : Sm (mergR r a b) := less_sm (mergO_sm h ha) hb
/-- The rows while they are merged. -/
def MgTo (r : List Nat) (a b i : Nat) (xs : List Nat) : Prop := xs.length = r.length ∧ ∀ j, j < r.length → xs.getD j 0 = if j < i ∨ j = a then (mergO r a b).getD j 0 else r.getD j 0
theorem getD_setN {xs : List Nat} {i j y : Nat} (hi : i < xs.length) : (xs.set i y).getD j 0 = if i = j then y else xs.getD j 0 := by
  rw [List.getD_eq_getElem?_getD, List.getD_eq_getElem?_getD]
  by_cases e : i = j
  · subst e; rw [if_pos rfl, List.getElem?_set_self hi]; rfl
  · rw [if_neg e, List.getElem?_set_ne e]
theorem MgTo.start {r : List Nat} {a b : Nat} (ha : a < r.length) : MgTo r a b 0 (r.set a (andN (r.getD a 0 ||| r.getD b 0) (2 ^ a ||| 2 ^ b))) := by
  refine ⟨by rw [List.length_set], fun j hj => ?_⟩
  rw [getD_setN ha]
  by_cases e : a = j
  · subst e
    rw [if_pos rfl, if_pos (Or.inr rfl), mergO_at hj, if_pos rfl]
  · rw [if_neg e, if_neg (by omega)]
theorem MgTo.same {r : List Nat} {a b i : Nat} {xs : List Nat} (h : MgTo r a b i xs) (hi : i < r.length) (hb : i = a ∨ (r.getD i 0).testBit b = false) : MgTo r a b (i + 1) xs := by
  refine ⟨h.1, fun j hj => ?_⟩
  rw [h.2 j hj]
  by_cases e : j < i ∨ j = a
  · rw [if_pos e, if_pos (by omega)]
  · rw [if_neg e]
    by_cases e2 : j = i
    · subst e2
      have hja : ¬ j = a := fun e3 => e (Or.inr e3)
      have hbt := hb.resolve_left hja
      rw [if_pos (by omega), mergO_at hj, if_neg hja, if_neg (by rw [hbt]; simp)]
    · rw [if_neg (by omega)]
theorem MgTo.put {r : List Nat} {a b i : Nat} {xs : List Nat} (h : MgTo r a b i xs) (hi : i < r.length) (hia : i ≠ a) (hb : (r.getD i 0).testBit b = true) : MgTo r a b (i + 1) (xs.set i (r.getD i 0 ||| 2 ^ a)) := by
  refine ⟨by rw [List.length_set]; exact h.1, fun j hj => ?_⟩
  rw [getD_setN (by rw [h.1]; exact hi)]
  by_cases e : i = j
  · subst e
    rw [if_pos rfl, if_pos (by omega), mergO_at hi, if_neg hia, if_pos hb]
  · rw [if_neg e, h.2 j hj]
    by_cases e2 : j < i ∨ j = a
    · rw [if_pos e2, if_pos (by omega)]
    · rw [if_neg e2, if_neg (by omega)]
theorem MgTo.end {r : List Nat} {a b : Nat} {xs : List Nat} (h : MgTo r a b r.length xs) : xs = mergO r a b := by
  apply List.ext_getElem (by rw [h.1, mergO_len])
  intro j h1 h2
  have := h.2 j (by rw [← h.1]; exact h1)
  rw [if_pos (Or.inl (by rw [← h.1]; exact h1)), List.getD_eq_getElem?_getD, List.getElem?_eq_getElem h1, List.getD_eq_getElem?_getD, List.getElem?_eq_getElem h2] at this
  exact this
theorem getD_at0 {r : List Nat} {i : Nat} (h : i < r.length) : r.getD i 0 = r[i] := by rw [List.getD_eq_getElem?_getD, List.getElem?_eq_getElem h]; rfl
theorem iat_bit {w : World} {g off : Nat} {r : List Nat} (hc : ∀ k (hk : k < (ints r).length), w.cell? ⟨g, off + k, none⟩ = some (.int .i64 (ints r)[k])) {i : Nat} (hi : i < r.length) : w.cell? ⟨g, off + i, none⟩ = some (.int .i64 ((r.getD i 0 : Nat) : Int)) := by
  rw [hc i (by rw [ints_len]; exact hi), ints_at hi, getD_at0 hi]
theorem ints_set (xs : List Nat) (i y : Nat) : ((ints xs).map (Value.int .i64)).set i (.int .i64 ((y : Nat) : Int)) = (ints (xs.set i y)).map (Value.int .i64) := by
  unfold ints; rw [List.map_set, List.map_set]
set_option maxHeartbeats 16000000 in
set_option maxRecDepth 100000 in
theorem mergB_any (pa : Option Addr) (cap : Nat) (r : List Nat) (a b : Nat) (w : World) (hr : r.length ≤ 8) (hab : a < b) (hb : b < r.length) (hs : Sm r) (hI : IAt w pa (ints r)) :
    Calls Try.prog 95 #[.slice pa r.length cap, .int .i64 a, .int .i64 b] w fun e w' => ∃ u, e = .returned u ∧ NewRow (ints (mergR r a b)) w w' u := by
  obtain ⟨i0, hi0, hz0, hz1, hz2⟩ := info_parts Try.info3
  obtain ⟨N, hNe⟩ := ex_eq r.length
  obtain ⟨D, hD⟩ := ex_eq w.heap.size
  obtain ⟨W1, hW1⟩ := ex_eq (w.alloc (.cells #[] 3))
  have hb1 : Below D w W1 := by rw [hW1, hD]; exact (Below.refl _ _).alloc (Nat.le_refl _) _
  have HOW : Hid (W1.ownsRow D 3 1 (.slice (some ⟨D, 0, none⟩) 0 0) 0 []) := by
    show World.ownsRow _ _ _ _ _ _ _
    rw [hW1, hD]; exact own_emptyI (w := w) _ rfl
  obtain ⟨g, off, rfl, hg, hcs⟩ := hI (by rw [ints_len]; omega)
  have HC : Hid (∀ X, Below D w X → ∀ i, i < N → X.cell? ⟨g, off + i, none⟩ = some (.int .i64 ((r.getD i 0 : Nat) : Int))) := fun X hX i hi => by
    rw [hD] at hX
    exact (hX.cell (p := ⟨g, off + i, none⟩) hg).trans (iat_bit hcs (by omega))
  have hgD : g < D := by rw [hD]; exact hg
  obtain ⟨nw, hnw⟩ := ex_eq ((ints r).map (Value.int .i64))
  have HNW : Hid (∀ p, some (⟨g, off, none⟩ : Addr) = some p → ∀ j u, nw[j]? = some u → W1.cell? (p.add j) = some u) := by
    rw [hnw]
    have : IAt W1 (some ⟨g, off, none⟩) (ints r) := hI.below (by rw [← hD]; exact hb1)
    intro p hp j u hj
    rw [List.getElem?_map] at hj
    by_cases hjl : j < (ints r).length
    · rw [List.getElem?_eq_getElem hjl] at hj
      simp only [Option.map_some, Option.some.injEq] at hj
      obtain ⟨g', off', ha', _, hc'⟩ := this (by omega)
      rw [hp] at ha'
      simp only [Option.some.injEq] at ha'
      subst ha'
      rw [← hj, add_at]
      exact hc' j hjl
    · rw [List.getElem?_eq_none (by omega)] at hj; cases hj
  have HLN : Hid (nw.length = N * 1) := by show _ = _; rw [hnw, List.length_map, ints_len, hNe, Nat.mul_one]
  have HON : Hid (∀ v ∈ nw, v.oneCell' = true) := fun v hv => by rw [hnw] at hv; obtain ⟨z, _, rfl⟩ := List.mem_map.1 hv; rfl
  have H63 : Hid (0 + N ≤ maxLen) := by show 0 + N ≤ maxLen; unfold maxLen; omega
  have HBY : Hid ((0 + N) * 8 ≤ 140737488355328) := by show _ ≤ _; omega
  have HBS : Hid (D ≤ W1.heap.size) := by have h1 := hb1.size; show D ≤ _; omega
  have HB1 := hid hb1
  have HNWE := hid hnw
  have HN := hid hNe
  have HS := hid hs
  have HW1 := hid hW1
  have HD := hid hD
  have CL : Hid (∀ X pa cap xs, xs.length ≤ 8 → Sm xs → IAt X pa (ints xs) → Calls Try.prog 96 #[.slice pa xs.length cap, .int .i64 b] X fun e w' => ∃ u, e = .returned u ∧ NewRow (ints (lessR xs b)) X w' u) := fun X pa cap xs h1 h2 h3 => lessB_any pa cap xs b X h1 (by omega) h2 h3
  have hbN : b < N := by omega
  have hN8 : N ≤ 8 := by omega
  obtain ⟨M0, hM0⟩ := ex_eq (mergR r a b)
  have HM0 := hid hM0
  rw [← hNe, ← hM0]
  clear hNe hI hs hW1 hD hM0 hcs hnw hb1 hr hb hg
  go_enter Try.func95, Try.ntmps95
  go_wp2_with (at_builtin; rw [← HW1.out, ← HD.out]; refine wpList_append_any _ rfl _ _ 25 rfl D 3 i0 _ 1 8 Try.underlying25 hi0 hz0 hz1 hz2 rfl (by decide) _ _ _ rfl HOW.out (some ⟨g, off, none⟩) N cap nw rfl (fun h => by cases h) HLN.out HNW.out HON.out H63.out HBY.out HBS.out ?_)
  intro v7 w2 hown7 hgrow7 hat7
  have hb2 : Below D w w2 := HB1.out.grown hgrow7 HBS.out (fun q hq => (HOW.out.lt q hq).1)
  have hown7' : w2.ownsRow D 3 1 v7 N ((ints r).map (Value.int .i64)) := by
    have h := hown7
    rw [HNWE.out] at h
    exact h
  obtain ⟨go, co, rfl, hgo, hgo2, _, hxs⟩ := own_row hown7' (by omega)
  have HB2 := hid hb2
  have HO7 := hid hown7'
  have HG := hid hgo
  clear hown7 hgrow7 hat7 hown7' hxs HOW HNW HLN HON H63 HBY HBS HW1
  have haN : a < N := by omega
  have d0 := HC.out w2 hb2 a haN
  have d1 := HC.out w2 hb2 b hbN
  have c0 : w2.cell? ⟨go, a, none⟩ = some (.int .i64 ((r.getD a 0 : Nat) : Int)) := by
    have := HO7.out.cellAt a (by omega)
    rw [this]
    unfold ints
    rw [List.map_map, List.getElem?_map, List.getElem?_eq_getElem (by rw [← HN.out]; exact haN), getD_at0 (by rw [← HN.out]; exact haN)]; rfl
  have f0 := HO7.out.frozenAt a
  obtain ⟨ra, hra⟩ := ex_eq (r.getD a 0)
  obtain ⟨rb, hrb⟩ := ex_eq (r.getD b 0)
  have ra8 : ra < 256 := by rw [hra]; exact getD_sm HS.out a
  have rb8 : rb < 256 := by rw [hrb]; exact getD_sm HS.out b
  rw [← hra] at d0 c0
  rw [← hrb] at d1
  obtain ⟨Pa, hPa⟩ := ex_eq (2 ^ a)
  obtain ⟨Pb, hPb⟩ := ex_eq (2 ^ b)
  have pa8 : Pa < 256 := by rw [hPa]; exact pow8' (by omega)
  have pb8 : Pb < 256 := by rw [hPb]; exact pow8' (by omega)
  obtain ⟨O1, hO1⟩ := ex_eq (ra ||| rb)
  obtain ⟨O2, hO2⟩ := ex_eq (Pa ||| Pb)
  have o18 : O1 < 256 := by rw [hO1]; exact or_lt8 ra8 rb8
  have o28 : O2 < 256 := by rw [hO2]; exact or_lt8 pa8 pb8
  obtain ⟨Y, hY⟩ := ex_eq (andN O1 O2)
  have s1 : IntKind.i64.wrap ((2 : Int) ^ a) = (Pa : Int) := by rw [hPa]; exact pow8i (by omega)
  have s2 : IntKind.i64.wrap ((2 : Int) ^ b) = (Pb : Int) := by rw [hPb]; exact pow8i (by omega)
  have s3 : bits .or .i64 (ra : Int) (rb : Int) = (O1 : Int) := by rw [bor (by omega) (by omega), hO1]
  have s4 : bits .or .i64 (Pa : Int) (Pb : Int) = (O2 : Int) := by rw [bor (by omega) (by omega), hO2]
  have s5 : bits .andNot .i64 (O1 : Int) (O2 : Int) = (Y : Int) := by rw [bandn (by omega) (by omega), hY]
  have HST : Hid (∃ xs, MgTo r a b 0 xs ∧ ((w2.drew).setCell ⟨go, a, none⟩ (.int .i64 ((Y : Nat) : Int))).ownsRow D 3 1 (.slice (some ⟨go, 0, none⟩) N co) N ((ints xs).map (Value.int .i64)) ∧ Below D w ((w2.drew).setCell ⟨go, a, none⟩ (.int .i64 ((Y : Nat) : Int)))) := by
    have hd : w2.drew.ownsRow D 3 1 (.slice (some ⟨go, 0, none⟩) N co) N ((ints r).map (Value.int .i64)) := own_below HO7.out (Below.refl _ _).drew
    have h := (hd.stored a (.int .i64 ((Y : Nat) : Int))).1
    rw [ints_set] at h
    refine ⟨_, MgTo.start (by rw [← HN.out]; exact haN), ?_, HB2.out.drew.setCell (p := ⟨go, a, none⟩) HG.out _⟩
    rw [hY, hO1, hO2, hra, hrb, hPa, hPb] at h ⊢
    exact h
  have hgne : g ≠ go := by omega
  have hS : (fun X : World => X.cell? ⟨g, off + a, none⟩ = some (.int .i64 (ra : Int)) ∧ X.cell? ⟨g, off + b, none⟩ = some (.int .i64 (rb : Int))) w2.drew := ⟨d0, d1⟩
  have hS2 : (fun X : World => X.cell? ⟨g, off + a, none⟩ = some (.int .i64 (ra : Int)) ∧ X.cell? ⟨g, off + b, none⟩ = some (.int .i64 (rb : Int))) (w2.drew.setCell ⟨go, a, none⟩ (.int .i64 ((Y : Nat) : Int))) := ⟨(World.cell?_setCell_other _ _ _ _ (fun e => hgne (by have := congrArg Addr.block e; simpa using this.symm))).trans d0, (World.cell?_setCell_other _ _ _ _ (fun e => hgne (by have := congrArg Addr.block e; simpa using this.symm))).trans d1⟩
  have q1 : (a : Int) < (N : Int) := by omega
  have q2 : (0 : Int) ≤ (a : Int) := by omega
  have q3 : (b : Int) < (N : Int) := by omega
  have q4 : (0 : Int) ≤ (b : Int) := by omega
  have u1 : IntKind.u64.wrap (a : Int) = (a : Int) := by rw [IntKind.wrap_u64]; omega
  have u2 : IntKind.u64.wrap (b : Int) = (b : Int) := by rw [IntKind.wrap_u64]; omega
  have m1 : min a 64 = a := by omega
  have m2 : min b 64 = b := by omega
  clear hra hrb hPa hPb hO1 hO2 hY hb2 hgo hgo2 HO7 HB2 HB1
  go_upto_region 2 with fail
  refine wp_region_held_drew (S := (fun X : World => X.cell? ⟨g, off + a, none⟩ = some (.int .i64 (ra : Int)) ∧ X.cell? ⟨g, off + b, none⟩ = some (.int .i64 (rb : Int)))) (by kernel_rfl) hS (fun hHeld => ?_)
  (refine takeW (i := 0) (dst := some 12) (v := ?_) rfl rfl (by kernel_rfl) (by kernel_rfl) (by kernel_rfl) (fun _ _ _ h => h) (Or.inl ⟨by rfl, ?_⟩) hHeld ?_; rotate_left; focus (intro w hSw; (try dsimp only at hSw); go_simp; (try with_reducible rfl); done))
  try simp only [Act.put, List.setIfInBounds_toArray, List.set_cons_zero, List.set_cons_succ]
  (refine takeW (i := 1) (dst := some 13) (v := ?_) rfl rfl (by kernel_rfl) (by kernel_rfl) (by kernel_rfl) (fun _ _ _ h => h) (Or.inl ⟨by rfl, ?_⟩) hHeld ?_; rotate_left; focus (intro w hSw; (try dsimp only at hSw); go_simp; (try with_reducible rfl); done))
  try simp only [Act.put, List.setIfInBounds_toArray, List.set_cons_zero, List.set_cons_succ]
  (refine takeW (i := 2) (dst := some 14) (v := ?_) rfl rfl (by kernel_rfl) (by kernel_rfl) (by kernel_rfl) (fun _ _ _ h => h) (Or.inl ⟨by rfl, ?_⟩) hHeld ?_; rotate_left; focus (intro w hSw; (try dsimp only at hSw); go_simp; (try with_reducible rfl); done))
  try simp only [Act.put, List.setIfInBounds_toArray, List.set_cons_zero, List.set_cons_succ]
  (refine takeW (i := 3) (dst := some 15) (v := ?_) rfl rfl (by kernel_rfl) (by kernel_rfl) (by kernel_rfl) (fun _ _ _ h => h) (Or.inl ⟨by rfl, ?_⟩) hHeld ?_; rotate_left; focus (intro w hSw; (try dsimp only at hSw); go_simp; (try with_reducible rfl); done))
  try simp only [Act.put, List.setIfInBounds_toArray, List.set_cons_zero, List.set_cons_succ]
  (refine takeW (i := 4) (dst := some 16) (v := ?_) rfl rfl (by kernel_rfl) (by kernel_rfl) (by kernel_rfl) (fun _ _ _ h => h) (Or.inl ⟨by rfl, ?_⟩) hHeld ?_; rotate_left; focus (intro w hSw; (try dsimp only at hSw); go_simp; (try with_reducible rfl); done))
  try simp only [Act.put, List.setIfInBounds_toArray, List.set_cons_zero, List.set_cons_succ]
  (refine takeW (i := 5) (dst := some 17) (v := ?_) rfl rfl (by kernel_rfl) (by kernel_rfl) (by kernel_rfl) (fun _ _ _ h => h) (Or.inl ⟨by rfl, ?_⟩) hHeld ?_; rotate_left; focus (intro w hSw; (try dsimp only at hSw); go_simp; (try with_reducible rfl); done))
  try simp only [Act.put, List.setIfInBounds_toArray, List.set_cons_zero, List.set_cons_succ]
  (refine takeW (i := 6) (dst := some 18) (v := ?_) rfl rfl (by kernel_rfl) (by kernel_rfl) (by kernel_rfl) (fun _ _ _ h => h) (Or.inl ⟨by rfl, ?_⟩) hHeld ?_; rotate_left; focus (intro w hSw; (try dsimp only at hSw); go_simp; (try with_reducible rfl); done))
  try simp only [Act.put, List.setIfInBounds_toArray, List.set_cons_zero, List.set_cons_succ]
  (refine takeW (i := 7) (dst := some 19) (v := ?_) rfl rfl (by kernel_rfl) (by kernel_rfl) (by kernel_rfl) (fun _ _ _ h => h) (Or.inl ⟨by rfl, ?_⟩) hHeld ?_; rotate_left; focus (intro w hSw; (try dsimp only at hSw); go_simp; (try with_reducible rfl); done))
  try simp only [Act.put, List.setIfInBounds_toArray, List.set_cons_zero, List.set_cons_succ]
  (refine takeW (i := 8) (dst := some 20) (v := ?_) rfl rfl (by kernel_rfl) (by kernel_rfl) (by kernel_rfl) (fun _ _ _ h => h) (Or.inl ⟨by rfl, ?_⟩) hHeld ?_; rotate_left; focus (intro w hSw; (try dsimp only at hSw); go_simp; (try with_reducible rfl); done))
  try simp only [Act.put, List.setIfInBounds_toArray, List.set_cons_zero, List.set_cons_succ]
  (refine takeW (i := 9) (dst := some 21) (v := ?_) rfl rfl (by kernel_rfl) (by kernel_rfl) (by kernel_rfl) (fun _ _ _ h => h) (Or.inl ⟨by rfl, ?_⟩) hHeld ?_; rotate_left; focus (intro w hSw; (try dsimp only at hSw); go_simp; (try with_reducible rfl); done))
  try simp only [Act.put, List.setIfInBounds_toArray, List.set_cons_zero, List.set_cons_succ]
  (refine takeW (i := 10) (dst := some 22) (v := ?_) rfl rfl (by kernel_rfl) (by kernel_rfl) (by kernel_rfl) (fun _ _ _ h => h) (Or.inl ⟨by rfl, ?_⟩) hHeld ?_; rotate_left; focus (intro w hSw; (try dsimp only at hSw); go_simp; (try with_reducible rfl); done))
  try simp only [Act.put, List.setIfInBounds_toArray, List.set_cons_zero, List.set_cons_succ]
  (refine takeW (i := 11) (dst := some 23) (v := ?_) rfl rfl (by kernel_rfl) (by kernel_rfl) (by kernel_rfl) (fun _ _ _ h => h) (Or.inl ⟨by rfl, ?_⟩) hHeld ?_; rotate_left; focus (intro w hSw; (try dsimp only at hSw); go_simp; (try with_reducible rfl); done))
  try simp only [Act.put, List.setIfInBounds_toArray, List.set_cons_zero, List.set_cons_succ]
  (refine takeW (i := 12) (dst := some 24) (v := ?_) rfl rfl (by kernel_rfl) (by kernel_rfl) (by kernel_rfl) (fun _ _ _ h => h) (Or.inl ⟨by rfl, ?_⟩) hHeld ?_; rotate_left; focus (intro w hSw; (try dsimp only at hSw); go_simp; (try with_reducible rfl); done))
  try simp only [Act.put, List.setIfInBounds_toArray, List.set_cons_zero, List.set_cons_succ]
  (refine takeW (i := 13) (dst := some 25) (v := ?_) rfl rfl (by kernel_rfl) (by kernel_rfl) (by kernel_rfl) (fun _ _ _ h => h) (Or.inl ⟨by rfl, ?_⟩) hHeld ?_; rotate_left; focus (intro w hSw; (try dsimp only at hSw); go_simp; (try with_reducible rfl); done))
  try simp only [Act.put, List.setIfInBounds_toArray, List.set_cons_zero, List.set_cons_succ]
  (refine takeW (i := 14) (dst := some 26) (v := ?_) rfl rfl (by kernel_rfl) (by kernel_rfl) (by kernel_rfl) (fun _ _ _ h => h) (Or.inl ⟨by rfl, ?_⟩) hHeld ?_; rotate_left; focus (intro w hSw; (try dsimp only at hSw); go_simp; (try with_reducible rfl); done))
  try simp only [Act.put, List.setIfInBounds_toArray, List.set_cons_zero, List.set_cons_succ]
  (refine takeW (i := 15) (dst := some 27) (v := ?_) rfl rfl (by kernel_rfl) (by kernel_rfl) (by kernel_rfl) (fun _ _ _ h => h) (Or.inl ⟨by rfl, ?_⟩) hHeld ?_; rotate_left; focus (intro w hSw; (try dsimp only at hSw); go_simp; (try with_reducible rfl); done))
  try simp only [Act.put, List.setIfInBounds_toArray, List.set_cons_zero, List.set_cons_succ]
  (refine takeW (i := 16) (dst := some 28) (v := ?_) rfl rfl (by kernel_rfl) (by kernel_rfl) (by kernel_rfl) (fun _ _ _ h => h) (Or.inl ⟨by rfl, ?_⟩) hHeld ?_; rotate_left; focus (intro w hSw; (try dsimp only at hSw); go_simp; (try with_reducible rfl); done))
  try simp only [Act.put, List.setIfInBounds_toArray, List.set_cons_zero, List.set_cons_succ]
  (refine takeW (i := 17) (dst := some 29) (v := ?_) rfl rfl (by kernel_rfl) (by kernel_rfl) (by kernel_rfl) (fun _ _ _ h => h) (Or.inl ⟨by rfl, ?_⟩) hHeld ?_; rotate_left; focus (intro w hSw; (try dsimp only at hSw); go_simp; (try with_reducible rfl); done))
  try simp only [Act.put, List.setIfInBounds_toArray, List.set_cons_zero, List.set_cons_succ]
  (refine takeW (i := 18) (dst := some 30) (v := ?_) rfl rfl (by kernel_rfl) (by kernel_rfl) (by kernel_rfl) (fun _ _ _ h => h) (Or.inl ⟨by rfl, ?_⟩) hHeld ?_; rotate_left; focus (intro w hSw; (try dsimp only at hSw); go_simp; (try with_reducible rfl); done))
  try simp only [Act.put, List.setIfInBounds_toArray, List.set_cons_zero, List.set_cons_succ]
  (refine takeW (i := 19) (dst := some 31) (v := ?_) rfl rfl (by kernel_rfl) (by kernel_rfl) (by kernel_rfl) (fun _ _ _ h => h) (Or.inl ⟨by rfl, ?_⟩) hHeld ?_; rotate_left; focus (intro w hSw; (try dsimp only at hSw); go_simp; (try with_reducible rfl); done))
  try simp only [Act.put, List.setIfInBounds_toArray, List.set_cons_zero, List.set_cons_succ]
  refine wpAnyH_ready (rs := [20]) (by kernel_rfl) (by simp) ?_
  refine AllReadyH.cons (o := _) rfl (fun KK hK => ?_) AllReadyH.nil
  go_simp
  refine hK.out _ _ hS2 (fun hHeld => ?_)
  clear hK KK
  try simp only [Act.put]
  try simp only [List.setIfInBounds_toArray]
  try simp only [List.set_cons_succ]
  try simp only [List.set_cons_zero]
  refine wpAnyH_done (by kernel_rfl) ?_ _
  clear hHeld hS hS2 d0 d1 c0 f0 s1 s2 s3 s4 s5 q3 q4 u1 u2 m1 m2
  go_wp2
  go_loopg [8] N (fun G i wz => ∃ t : Nat, t ≤ N ∧ N - t ≤ G ∧ i = .int .i64 t ∧ Hid (∃ xs, MgTo r a b t xs ∧ wz.ownsRow D 3 1 (.slice (some ⟨go, 0, none⟩) N co) N ((ints xs).map (Value.int .i64)) ∧ Below D w wz))
  case atStart => exact ⟨0, Nat.zero_le _, by omega, rfl, HST⟩
  case round =>
    clear HST
    obtain ⟨t, ht, hG, rfl, hst⟩ := hrel
    obtain ⟨xs, hmg, hown, hbel⟩ := hst.out
    by_cases hlt : t < N
    · have htr : t < r.length := by rw [← HN.out]; exact hlt
      have d0 := HC.out wr hbel t hlt
      have hx8 := getD_sm HS.out t
      have q5 : (t : Int) < (N : Int) := by omega
      have q6 : (0 : Int) ≤ (t : Int) := by omega
      by_cases e : t = a
      · have q7 : ((t : Int) != (a : Int)) = false := by simp [e]
        have HNX : Hid (∃ xs, MgTo r a b (t + 1) xs ∧ wr.ownsRow D 3 1 (.slice (some ⟨go, 0, none⟩) N co) N ((ints xs).map (Value.int .i64)) ∧ Below D w wr) := ⟨xs, hmg.same htr (Or.inl e), hown, hbel⟩
        clear hst hmg hown hbel d0 hx8
        go_wp2
        go_roundg (N - (t + 1))
        case measure => omega
        case rel => exact ⟨t + 1, by omega, Nat.le_refl _, by go_num, HNX⟩
      · have q7 : ((t : Int) != (a : Int)) = true := by simp [bne]; omega
        have z0 := hown.cellAt t (by omega)
        have zf := hown.frozenAt t
        have hxt : xs.getD t 0 = r.getD t 0 := by rw [hmg.2 t htr, if_neg (by omega)]
        have hxl : t < xs.length := by rw [hmg.1]; exact htr
        have z1 : wr.cell? ⟨go, t, none⟩ = some (.int .i64 ((r.getD t 0 : Nat) : Int)) := by
          rw [z0, ← hxt]
          unfold ints
          rw [List.map_map, List.getElem?_map, List.getElem?_eq_getElem hxl, getD_at0 hxl]; rfl
        obtain ⟨x, hx⟩ := ex_eq (r.getD t 0)
        rw [← hx] at d0 hx8 z1
        obtain ⟨S, hS⟩ := ex_eq (x >>> b)
        have hS8 : S < 256 := by have := shr_le x b; omega
        have s1 : (x : Int) / (2 : Int) ^ b = (S : Int) := by rw [hS]; exact shr8 x b
        by_cases hbt : x.testBit b = true
        · have s2 : bits .and .i64 (S : Int) 1 = 1 := by
            have := band (a := S) (b := 1) (by omega) (by omega)
            rw [hS, bit_and, hbt] at this
            rw [hS]; exact this
          obtain ⟨Y2, hY2⟩ := ex_eq (x ||| 2 ^ a)
          obtain ⟨P, hP⟩ := ex_eq (2 ^ a)
          have hP8 : P < 256 := by rw [hP]; exact pow8' (by omega)
          have s3 : IntKind.i64.wrap ((2 : Int) ^ a) = (P : Int) := by rw [hP]; exact pow8i (by omega)
          have s4 : bits .or .i64 (x : Int) (P : Int) = (Y2 : Int) := by rw [bor (by omega) (by omega), hY2, hP]
          have HNX : Hid (∃ xs, MgTo r a b (t + 1) xs ∧ (wr.setCell ⟨go, t, none⟩ (.int .i64 ((Y2 : Nat) : Int))).ownsRow D 3 1 (.slice (some ⟨go, 0, none⟩) N co) N ((ints xs).map (Value.int .i64)) ∧ Below D w (wr.setCell ⟨go, t, none⟩ (.int .i64 ((Y2 : Nat) : Int)))) := by
            have h := (hown.stored t (.int .i64 ((Y2 : Nat) : Int))).1
            rw [ints_set] at h
            refine ⟨_, hmg.put htr e (by rw [← hx]; exact hbt), ?_, hbel.setCell (p := ⟨go, t, none⟩) HG.out _⟩
            rw [← hx, ← hY2]; exact h
          clear hst hmg hown hbel z0 hxt hxl hx hS hY2 hP hbt
          go_wp2
          go_roundg (N - (t + 1))
          case measure => omega
          case rel => exact ⟨t + 1, by omega, Nat.le_refl _, by go_num, HNX⟩
        · have s2 : bits .and .i64 (S : Int) 1 = 0 := by
            have := band (a := S) (b := 1) (by omega) (by omega)
            rw [hS, bit_and, Bool.eq_false_iff.2 hbt] at this
            rw [hS]; exact this
          have HNX : Hid (∃ xs, MgTo r a b (t + 1) xs ∧ wr.ownsRow D 3 1 (.slice (some ⟨go, 0, none⟩) N co) N ((ints xs).map (Value.int .i64)) ∧ Below D w wr) := ⟨xs, hmg.same htr (Or.inr (by rw [← hx]; exact Bool.eq_false_iff.2 hbt)), hown, hbel⟩
          clear hst hmg hown hbel z0 z1 zf hxt hxl hx hS hbt
          go_wp2
          go_roundg (N - (t + 1))
          case measure => omega
          case rel => exact ⟨t + 1, by omega, Nat.le_refl _, by go_num, HNX⟩
    · obtain rfl : t = N := by omega
      have hxe : xs = mergO r a b := (by have := hmg; rw [HN.out] at this; exact this.end)
      subst hxe
      have hml : (mergO r a b).length = t := by rw [mergO_len]; exact HN.out.symm
      obtain ⟨a6, c6, hv6, hI6⟩ := iat_own (xs := ints (mergO r a b)) (by rw [ints_len, hml]; exact hown)
      rw [ints_len, hml] at hv6
      simp only [Value.slice.injEq, true_and] at hv6
      obtain ⟨rfl, rfl⟩ := hv6
      have C := CL.out wr _ co (mergO r a b) (by omega) (mergO_sm HS.out (by omega)) hI6
      rw [hml] at C
      have HC6 := hid C
      have HBL := hid hbel
      clear hst hmg hown hbel hml hI6 C
      go_wp2_with fail
      refine HC6.out.mono ?_
      rintro e w9 ⟨u, rfl, hn⟩
      have HF : Hid (NewRow (ints M0) w w9 u) := by
        rw [HM0.out]
        exact NewRow.lower (by rw [← HD.out]; exact HBL.out) hn
      clear hn HC6
      go_wp2
      go_ret
      exact ⟨_, rfl, HF.out⟩
end Go.Proofs.Ytckcbaegehfkoaa
