/-
  Rows of bits: what their operations reckon; the document's less (layer 8).
  The document's merged and is, over rows of bits (layer 8).
-/
import Derived.Test.YtlebimolgienkaaP15
import Derived.Test.YtlebimolgienkaaP09
import Derived.Test.YtlebimolgienkaaP11
namespace Go.Proofs.Ytlebimolgienkaa
open Go.RowKit Go.Lib

theorem ofInt_nat {a : Nat} (h : a < 4611686018427387904) : (BitVec.ofInt 64 (a : Int)).toNat = a := by
  rw [BitVec.ofInt_natCast, BitVec.toNat_ofNat]; exact Nat.mod_eq_of_lt (by omega)
theorem bor {a b : Nat} (ha : a < 4611686018427387904) (hb : b < 4611686018427387904) : bits .or .i64 (a : Int) (b : Int) = ((a ||| b : Nat) : Int) := by
  have hx : a ||| b < 2 ^ 62 := Nat.or_lt_two_pow (by omega) (by omega)
  show IntKind.i64.wrap ((BitVec.ofInt 64 (a : Int) ||| BitVec.ofInt 64 (b : Int)).toNat : Int) = _
  rw [BitVec.toNat_or, ofInt_nat ha, ofInt_nat hb, IntKind.wrap_i64]
  omega
theorem band {a b : Nat} (ha : a < 4611686018427387904) (hb : b < 4611686018427387904) : bits .and .i64 (a : Int) (b : Int) = ((a &&& b : Nat) : Int) := by
  have hx : a &&& b < 2 ^ 62 := Nat.and_lt_two_pow _ (by omega)
  show IntKind.i64.wrap ((BitVec.ofInt 64 (a : Int) &&& BitVec.ofInt 64 (b : Int)).toNat : Int) = _
  rw [BitVec.toNat_and, ofInt_nat ha, ofInt_nat hb, IntKind.wrap_i64]
  omega
theorem bandn {a b : Nat} (ha : a < 4611686018427387904) (hb : b < 4611686018427387904) : bits .andNot .i64 (a : Int) (b : Int) = ((andN a b : Nat) : Int) := by
  have e : a &&& (2 ^ 64 - 1 - b) = andN a b := by
    apply Nat.eq_of_testBit_eq
    intro i
    rw [show 2 ^ 64 - 1 - b = 2 ^ 64 - (b + 1) by omega, Nat.testBit_and, Nat.testBit_two_pow_sub_succ (by omega), andN_bit]
    by_cases h : i < 64
    · simp [h]
    · have : a.testBit i = false := Nat.testBit_lt_two_pow (Nat.lt_of_lt_of_le (show a < 2 ^ 62 by omega) (Nat.pow_le_pow_right (by omega) (by omega)))
      simp [this]
  have hx : andN a b < 2 ^ 62 := by rw [← e]; exact Nat.lt_of_le_of_lt Nat.and_le_left (by omega)
  show IntKind.i64.wrap ((BitVec.ofInt 64 (a : Int) &&& ~~~ BitVec.ofInt 64 (b : Int)).toNat : Int) = _
  rw [BitVec.toNat_and, BitVec.toNat_not, ofInt_nat ha, ofInt_nat hb, e, IntKind.wrap_i64]
  omega
theorem pow8 {v : Nat} (h : v ≤ 8) : 1 ≤ 2 ^ v ∧ 2 ^ v ≤ 256 := ⟨Nat.one_le_two_pow, Nat.pow_le_pow_right (by omega) h⟩
theorem pow8i {v : Nat} (h : v ≤ 8) : IntKind.i64.wrap ((2 : Int) ^ v) = ((2 ^ v : Nat) : Int) := by
  have h1 := pow8 h
  have e : ((2 : Int) ^ v) = ((2 ^ v : Nat) : Int) := by simp
  rw [e, IntKind.wrap_i64]
  generalize 2 ^ v = P at h1 ⊢
  omega
theorem shr8 (x v : Nat) : (x : Int) / (2 : Int) ^ v = ((x >>> v : Nat) : Int) := by
  rw [Nat.shiftRight_eq_div_pow]; simp
theorem shl8 {s v : Nat} (hs : s < 256) (hv : v ≤ 8) : IntKind.i64.wrap ((s : Int) * (2 : Int) ^ v) = ((s <<< v : Nat) : Int) := by
  have h1 := pow8 hv
  have h2 : s * 2 ^ v ≤ 256 * 256 := Nat.mul_le_mul (by omega) h1.2
  have e : (s : Int) * ((2 : Int) ^ v) = ((s * 2 ^ v : Nat) : Int) := by simp
  rw [Nat.shiftLeft_eq, e, IntKind.wrap_i64]
  generalize s * 2 ^ v = P at h2 ⊢
  omega
theorem shr_le (x v : Nat) : x >>> v ≤ x := by rw [Nat.shiftRight_eq_div_pow]; exact Nat.div_le_self _ _
theorem lessX_lt {v x : Nat} (hx : x < 256) (_hv : v < 8) : lessX v x < 256 := by
  have : ∀ b, 8 ≤ b → (lessX v x).testBit b = false := fun b hb => by
    rw [lessX_bit]
    exact Nat.testBit_lt_two_pow (Nat.lt_of_lt_of_le (show x < 2 ^ 8 by omega) (Nat.pow_le_pow_right (by omega) (by unfold upN; split <;> omega)))
  exact Nat.lt_pow_two_of_testBit (n := 8) _ this
/-- Rows of bits as numbers. -/
def ints (r : List Nat) : List Int := r.map (fun x : Nat => (x : Int))
theorem ints_len (r : List Nat) : (ints r).length = r.length := by unfold ints; simp
theorem ints_at {r : List Nat} {j : Nat} (h : j < r.length) (h' : j < (ints r).length) : (ints r)[j] = ((r[j] : Nat) : Int) := List.getElem_map _
/-- Eight bits at most. -/
def Sm (r : List Nat) : Prop := ∀ x ∈ r, x < 256
theorem less_sm {r : List Nat} {v : Nat} (h : Sm r) (hv : v < 8) : Sm (lessR r v) := fun x hx => by
  unfold lessR at hx
  obtain ⟨y, hy, rfl⟩ := List.mem_map.1 hx
  exact lessX_lt (h y (List.mem_of_mem_eraseIdx hy)) hv
theorem lessR_next {r : List Nat} {v i : Nat} (hi : i < r.length) : lessR (r.take (i + 1)) v = lessR (r.take i) v ++ (if i = v then [] else [lessX v r[i]]) := by
  have hl : (r.take i).length = i := by rw [List.length_take]; omega
  unfold lessR
  rw [← List.take_append_getElem hi]
  by_cases e : i = v
  · subst e
    rw [if_pos rfl, List.append_nil, List.eraseIdx_append_of_length_le (by omega), hl, Nat.sub_self, List.eraseIdx_of_length_le (by omega : (r.take i).length ≤ i)]
    simp
  · rw [if_neg e]
    by_cases h : v < i
    · rw [List.eraseIdx_append_of_lt_length (by omega), List.map_append]; rfl
    · rw [List.eraseIdx_append_of_length_le (by omega), hl, List.eraseIdx_of_length_le (by omega : (r.take i).length ≤ v), List.eraseIdx_of_length_le (by simp; omega), List.map_append]; rfl
set_option maxHeartbeats 8000000 in
set_option maxRecDepth 100000 in
theorem lessB_any (a : Option Addr) (cap : Nat) (r : List Nat) (v : Nat) (w : World) (hr : r.length ≤ 8) (hv : v < 8) (hs : Sm r) (hI : IAt w a (ints r)) :
    Calls Try.prog 98 #[.slice a r.length cap, .int .i64 v] w fun e w' => ∃ u, e = .returned u ∧ NewRow (ints (lessR r v)) w w' u := by
  obtain ⟨i0, hi0, hz0, hz1, hz2⟩ := info_parts Try.info3
  obtain ⟨N, hNe⟩ := ex_eq r.length
  obtain ⟨D, hD⟩ := ex_eq w.heap.size
  obtain ⟨W1, hW1⟩ := ex_eq (w.alloc (.cells #[] 3))
  have HST : Hid (W1.ownsRow D 3 1 (.slice (some ⟨D, 0, none⟩) 0 0) (lessR (r.take 0) v).length ((ints (lessR (r.take 0) v)).map (Value.int .i64)) ∧ Below D w W1) := by
    show _ ∧ _
    have e : lessR (r.take 0) v = [] := by unfold lessR; simp
    rw [e, hW1, hD]
    exact ⟨own_emptyI (w := w) _ rfl, (Below.refl _ _).alloc (Nat.le_refl _) _⟩
  have HN := hid hNe
  have HI := hid hI
  have HS := hid hs
  have HW1 := hid hW1
  have HD := hid hD
  obtain ⟨L0, hL0⟩ := ex_eq (lessR r v)
  have HL0 := hid hL0
  rw [← hNe] at hr ⊢
  rw [← hL0]
  clear hNe hI hs hW1 hD hL0
  go_enter Try.func98, Try.ntmps98
  go_wp2
  rw [← HW1.out, ← HD.out]
  clear HW1
  obtain ⟨K0, hK0⟩ := ex_eq (lessR (r.take 0) v).length
  have hK00 : K0 = 0 := by rw [hK0]; unfold lessR; simp
  go_loopg [5, 6] N (fun G v5 i wz => ∃ t K : Nat, t ≤ N ∧ N - t ≤ G ∧ i = .int .i64 t ∧ K ≤ t ∧ Hid (K = (lessR (r.take t) v).length ∧ wz.ownsRow D 3 1 v5 K ((ints (lessR (r.take t) v)).map (Value.int .i64)) ∧ Below D w wz))
  case atStart => exact ⟨0, 0, Nat.zero_le _, by omega, rfl, Nat.le_refl _, by show _ ∧ _ ∧ _; have h := HST.out; rw [← hK0, hK00] at h; exact ⟨by omega, h⟩⟩
  case round =>
    clear HST
    obtain ⟨t, K, ht, hG, rfl, hKt, hst⟩ := hrel
    obtain ⟨hK, hown, hbel⟩ := hst.out
    obtain ⟨va, vc, rfl, _⟩ := sl_own hown
    by_cases hlt : t < N
    · have htr : t < r.length := by rw [← HN.out]; exact hlt
      have hti : t < (ints r).length := by rw [ints_len]; exact htr
      obtain ⟨g, off, rfl, hg, hcs⟩ := HI.out (by omega)
      have d0 := hcs t hti
      rw [ints_at htr hti] at d0
      obtain ⟨x, hx⟩ := ex_eq r[t]
      rw [← hx] at d0
      have hx8 : x < 256 := by rw [hx]; exact HS.out _ (List.getElem_mem htr)
      have d1 := (hbel.cell (p := ⟨g, off + t, none⟩) (by simp only; rw [HD.out]; exact hg)).trans d0
      have hnx := lessR_next (v := v) htr
      rw [← hx] at hnx
      have q1 : (t : Int) < (N : Int) := by omega
      have q2 : (0 : Int) ≤ (t : Int) := by omega
      by_cases e : t = v
      · have q3 : ((t : Int) != (v : Int)) = false := by simp [e]
        rw [if_pos e, List.append_nil] at hnx
        have HNX : Hid (K = (lessR (r.take (t + 1)) v).length ∧ wr.ownsRow D 3 1 (.slice va K vc) K ((ints (lessR (r.take (t + 1)) v)).map (Value.int .i64)) ∧ Below D w wr) := by rw [hnx]; exact hst.out
        clear hst hK hown hbel hcs hx hnx d0 d1
        go_wp2
        go_roundg (N - (t + 1))
        case measure => omega
        case rel => exact ⟨t + 1, K, by omega, Nat.le_refl _, by go_num, by omega, HNX⟩
      · have q3 : ((t : Int) != (v : Int)) = true := by simp [bne]; omega
        rw [if_neg e] at hnx
        obtain ⟨Y, hY⟩ := ex_eq (lessX v x)
        rw [← hY] at hnx
        obtain ⟨P, hP⟩ := ex_eq (2 ^ v)
        obtain ⟨S, hS⟩ := ex_eq (x >>> (v + 1))
        obtain ⟨T, hT⟩ := ex_eq (S <<< v)
        obtain ⟨L, hL⟩ := ex_eq (x &&& (2 ^ v - 1))
        have hP8 := pow8 (show v ≤ 8 by omega)
        rw [← hP] at hP8
        have hS8 : S < 256 := by have := shr_le x (v + 1); omega
        have hL8 : L < 256 := by rw [hL]; exact Nat.lt_of_le_of_lt Nat.and_le_left hx8
        have hT8 : T ≤ 65536 := by
          rw [hT, Nat.shiftLeft_eq, ← hP]
          exact Nat.mul_le_mul (show S ≤ 256 by omega) hP8.2
        have s1 : IntKind.i64.wrap ((2 : Int) ^ v) = (P : Int) := by rw [hP]; exact pow8i (by omega)
        have s2 : bits .and .i64 (x : Int) ((P : Int) - 1) = (L : Int) := by
          rw [show (P : Int) - 1 = ((P - 1 : Nat) : Int) by omega, band (by omega) (by omega), hL, hP]
        have s3 : (x : Int) / (2 : Int) ^ (v + 1) = (S : Int) := by rw [hS]; exact shr8 x (v + 1)
        have s4 : IntKind.i64.wrap ((S : Int) * (2 : Int) ^ v) = (T : Int) := by rw [hT]; exact shl8 hS8 (by omega)
        have s5 : bits .or .i64 (L : Int) (T : Int) = (Y : Int) := by rw [bor (by omega) (by omega), hY, hL, hT, hS]; rfl
        obtain ⟨xs0, hxs0⟩ := ex_eq ((ints (lessR (r.take t) v)).map (Value.int .i64))
        rw [← hxs0] at hown
        have HNX : Hid (K + 1 = (lessR (r.take (t + 1)) v).length ∧ (ints (lessR (r.take (t + 1)) v)).map (Value.int .i64) = xs0 ++ [.int .i64 (Y : Nat)]) := by
          show _ ∧ _
          rw [hnx, List.length_append, ← hK]
          refine ⟨rfl, ?_⟩
          unfold ints at hxs0 ⊢
          rw [List.map_append, List.map_append, ← hxs0]; rfl
        have HOW : Hid ((wr.alloc (.cells #[.int .i64 (Y : Nat)] 3)).ownsRow D 3 1 (.slice va K vc) K xs0) := hown.alloc _
        have HNW : Hid (∀ p', some (⟨wr.heap.size, 0, none⟩ : Addr) = some p' → ∀ q u, [Value.int .i64 (Y : Nat)][q]? = some u → (wr.alloc (.cells #[.int .i64 (Y : Nat)] 3)).cell? (p'.add q) = some u) := news_one _
        have HON : Hid (∀ v' ∈ [Value.int .i64 (Y : Nat)], v'.oneCell' = true) := fun v' hv => by simp at hv; rw [hv]; rfl
        have H63 : Hid (K + 1 ≤ maxLen) := by show _ ≤ _; unfold maxLen; omega
        have HBY : Hid ((K + 1) * 8 ≤ 140737488355328) := by show _ ≤ _; omega
        have hDw : D ≤ wr.heap.size := by have h1 := hbel.size; have h2 := HD.out; omega
        have HBS : Hid (D ≤ (wr.alloc (.cells #[.int .i64 (Y : Nat)] 3)).heap.size) := by show D ≤ _; simp; omega
        have HBR := hid hbel
        clear hst hK hown hbel hcs hx hnx d0 hP hS hT hL hY hxs0 hg
        go_wp2_with (at_builtin; refine wpList_append_any _ rfl _ _ 28 rfl D 3 i0 _ 1 8 Try.underlying28 hi0 hz0 hz1 hz2 rfl (by decide) _ _ _ rfl HOW.out (some ⟨wr.heap.size, 0, none⟩) 1 1 [.int .i64 (Y : Nat)] rfl (fun h => by cases h) rfl HNW.out HON.out H63.out HBY.out HBS.out ?_)
        intro v4 w4 hown4 hgrow4 hat4
        have HO4 : Hid (K + 1 = (lessR (r.take (t + 1)) v).length ∧ w4.ownsRow D 3 1 v4 (K + 1) ((ints (lessR (r.take (t + 1)) v)).map (Value.int .i64)) ∧ Below D w w4) :=
          ⟨HNX.out.1, by rw [HNX.out.2]; exact hown4, (HBR.out.alloc hDw _).grown hgrow4 HBS.out (fun q hq => (HOW.out.lt q hq).1)⟩
        clear hown4 hgrow4 hat4 HNX HOW HNW HON H63 HBY HBS HBR d1
        go_wp2
        go_roundg (N - (t + 1))
        case measure => omega
        case rel => exact ⟨t + 1, K + 1, by omega, Nat.le_refl _, by go_num, by omega, HO4⟩
    · obtain rfl : t = N := by omega
      have htk : r.take t = r := by rw [HN.out, List.take_length]
      rw [htk, ← HL0.out] at hK hown
      have HF : Hid (NewRow (ints L0) w wr (.slice va K vc)) := by
        refine ⟨?_, by rw [← HD.out]; exact hbel⟩
        rw [ints_len, ← hK, ← HD.out]; exact hown
      clear hst hK hown hbel htk
      go_wp2
      go_ret
      exact ⟨_, rfl, HF.out⟩
end Go.Proofs.Ytlebimolgienkaa
namespace Go.Proofs.Ytlebimolgienkaa
open Go.RowKit Go.Lib

theorem NewRow.lower {L : List Int} {w W w' : World} {u : Value} (hb : Below w.heap.size w W) (h : NewRow L W w' u) : NewRow L w w' u := ⟨own_lowerS h.1 hb.size, hb.trans (h.2.mono hb.size)⟩
theorem bit_and (x b : Nat) : (x >>> b) &&& 1 = (x.testBit b).toNat := by
  rw [Nat.and_one_is_mod, Nat.shiftRight_eq_div_pow, Nat.toNat_testBit]
theorem or_lt8 {x y : Nat} (hx : x < 256) (hy : y < 256) : x ||| y < 256 := Nat.or_lt_two_pow (n := 8) hx hy
theorem andN_le (a b : Nat) : andN a b ≤ a := by
  have e : andN a b = a &&& andN a b := by
    apply Nat.eq_of_testBit_eq
    intro i
    rw [Nat.testBit_and, andN_bit]
    cases a.testBit i <;> simp
  rw [e]; exact Nat.and_le_left
theorem pow8' {v : Nat} (h : v < 8) : 2 ^ v < 256 := Nat.pow_lt_pow_right (by omega) h
theorem getD_sm {r : List Nat} (h : Sm r) (i : Nat) : r.getD i 0 < 256 := by
  rw [List.getD_eq_getElem?_getD]
  cases e : r[i]? with
  | none => simp
  | some x => exact h x (List.mem_of_getElem? e)
theorem mergO_sm {r : List Nat} {a b : Nat} (h : Sm r) (ha : a < 8) : Sm (mergO r a b) := fun x hx => by
  unfold mergO at hx
  obtain ⟨i, _, rfl⟩ := List.mem_map.1 hx
  have hp := pow8' ha
  split
  · exact Nat.lt_of_le_of_lt (andN_le _ _) (or_lt8 (getD_sm h _) (getD_sm h _))
  · split
    · exact or_lt8 (getD_sm h _) hp
    · exact getD_sm h _
theorem merg_sm {r : List Nat} {a b : Nat} (h : Sm r) (ha : a < 8) (hb : b < 8) : Sm (mergR r a b) := less_sm (mergO_sm h ha) hb
/-- The rows while they are merged. -/
def MgTo (r : List Nat) (a b i : Nat) (xs : List Nat) : Prop := xs.length = r.length ∧ ∀ j, j < r.length → xs.getD j 0 = if j < i ∨ j = a then (mergO r a b).getD j 0 else r.getD j 0
theorem getD_setN {xs : List Nat} {i j y : Nat} (hi : i < xs.length) : (xs.set i y).getD j 0 = if i = j then y else xs.getD j 0 := by
  rw [List.getD_eq_getElem?_getD, List.getD_eq_getElem?_getD]
  by_cases e : i = j
  · subst e; rw [if_pos rfl, List.getElem?_set_self hi]; rfl
  · rw [if_neg e, List.getElem?_set_ne e]
theorem MgTo.start {r : List Nat} {a b : Nat} (ha : a < r.length) : MgTo r a b 0 (r.set a (andN (r.getD a 0 ||| r.getD b 0) (2 ^ a ||| 2 ^ b))) := by
  refine ⟨by rw [List.length_set], fun j hj => ?_⟩
  rw [getD_setN ha]
  by_cases e : a = j
  · subst e
    rw [if_pos rfl, if_pos (Or.inr rfl), mergO_at hj, if_pos rfl]
  · rw [if_neg e, if_neg (by omega)]
theorem MgTo.same {r : List Nat} {a b i : Nat} {xs : List Nat} (h : MgTo r a b i xs) (hi : i < r.length) (hb : i = a ∨ (r.getD i 0).testBit b = false) : MgTo r a b (i + 1) xs := by
  refine ⟨h.1, fun j hj => ?_⟩
  rw [h.2 j hj]
  by_cases e : j < i ∨ j = a
  · rw [if_pos e, if_pos (by omega)]
  · rw [if_neg e]
    by_cases e2 : j = i
    · subst e2
      have hja : ¬ j = a := fun e3 => e (Or.inr e3)
      have hbt := hb.resolve_left hja
      rw [if_pos (by omega), mergO_at hj, if_neg hja, if_neg (by rw [hbt]; simp)]
    · rw [if_neg (by omega)]
theorem MgTo.put {r : List Nat} {a b i : Nat} {xs : List Nat} (h : MgTo r a b i xs) (hi : i < r.length) (hia : i ≠ a) (hb : (r.getD i 0).testBit b = true) : MgTo r a b (i + 1) (xs.set i (r.getD i 0 ||| 2 ^ a)) := by
  refine ⟨by rw [List.length_set]; exact h.1, fun j hj => ?_⟩
  rw [getD_setN (by rw [h.1]; exact hi)]
  by_cases e : i = j
  · subst e
    rw [if_pos rfl, if_pos (by omega), mergO_at hi, if_neg hia, if_pos hb]
  · rw [if_neg e, h.2 j hj]
    by_cases e2 : j < i ∨ j = a
    · rw [if_pos e2, if_pos (by omega)]
    · rw [if_neg e2, if_neg (by omega)]
theorem MgTo.end {r : List Nat} {a b : Nat} {xs : List Nat} (h : MgTo r a b r.length xs) : xs = mergO r a b := by
  apply List.ext_getElem (by rw [h.1, mergO_len])
  intro j h1 h2
  have := h.2 j (by rw [← h.1]; exact h1)
  rw [if_pos (Or.inl (by rw [← h.1]; exact h1)), List.getD_eq_getElem?_getD, List.getElem?_eq_getElem h1, List.getD_eq_getElem?_getD, List.getElem?_eq_getElem h2] at this
  exact this
theorem getD_at0 {r : List Nat} {i : Nat} (h : i < r.length) : r.getD i 0 = r[i] := by rw [List.getD_eq_getElem?_getD, List.getElem?_eq_getElem h]; rfl
theorem iat_bit {w : World} {g off : Nat} {r : List Nat} (hc : ∀ k (hk : k < (ints r).length), w.cell? ⟨g, off + k, none⟩ = some (.int .i64 (ints r)[k])) {i : Nat} (hi : i < r.length) : w.cell? ⟨g, off + i, none⟩ = some (.int .i64 ((r.getD i 0 : Nat) : Int)) := by
  rw [hc i (by rw [ints_len]; exact hi), ints_at hi, getD_at0 hi]
theorem ints_set (xs : List Nat) (i y : Nat) : ((ints xs).map (Value.int .i64)).set i (.int .i64 ((y : Nat) : Int)) = (ints (xs.set i y)).map (Value.int .i64) := by
  unfold ints; rw [List.map_set, List.map_set]
set_option maxHeartbeats 16000000 in
set_option maxRecDepth 100000 in
theorem mergB_any (pa : Option Addr) (cap : Nat) (r : List Nat) (a b : Nat) (w : World) (hr : r.length ≤ 8) (hab : a < b) (hb : b < r.length) (hs : Sm r) (hI : IAt w pa (ints r)) :
    Calls Try.prog 97 #[.slice pa r.length cap, .int .i64 a, .int .i64 b] w fun e w' => ∃ u, e = .returned u ∧ NewRow (ints (mergR r a b)) w w' u := by
  obtain ⟨i0, hi0, hz0, hz1, hz2⟩ := info_parts Try.info3
  obtain ⟨N, hNe⟩ := ex_eq r.length
  obtain ⟨D, hD⟩ := ex_eq w.heap.size
  obtain ⟨W1, hW1⟩ := ex_eq (w.alloc (.cells #[] 3))
  have hb1 : Below D w W1 := by rw [hW1, hD]; exact (Below.refl _ _).alloc (Nat.le_refl _) _
  have HOW : Hid (W1.ownsRow D 3 1 (.slice (some ⟨D, 0, none⟩) 0 0) 0 []) := by
    show World.ownsRow _ _ _ _ _ _ _
    rw [hW1, hD]; exact own_emptyI (w := w) _ rfl
  obtain ⟨g, off, rfl, hg, hcs⟩ := hI (by rw [ints_len]; omega)
  have HC : Hid (∀ X, Below D w X → ∀ i, i < N → X.cell? ⟨g, off + i, none⟩ = some (.int .i64 ((r.getD i 0 : Nat) : Int))) := fun X hX i hi => by
    rw [hD] at hX
    exact (hX.cell (p := ⟨g, off + i, none⟩) hg).trans (iat_bit hcs (by omega))
  have hgD : g < D := by rw [hD]; exact hg
  obtain ⟨nw, hnw⟩ := ex_eq ((ints r).map (Value.int .i64))
  have HNW : Hid (∀ p, some (⟨g, off, none⟩ : Addr) = some p → ∀ j u, nw[j]? = some u → W1.cell? (p.add j) = some u) := by
    rw [hnw]
    have : IAt W1 (some ⟨g, off, none⟩) (ints r) := hI.below (by rw [← hD]; exact hb1)
    intro p hp j u hj
    rw [List.getElem?_map] at hj
    by_cases hjl : j < (ints r).length
    · rw [List.getElem?_eq_getElem hjl] at hj
      simp only [Option.map_some, Option.some.injEq] at hj
      obtain ⟨g', off', ha', _, hc'⟩ := this (by omega)
      rw [hp] at ha'
      simp only [Option.some.injEq] at ha'
      subst ha'
      rw [← hj, add_at]
      exact hc' j hjl
    · rw [List.getElem?_eq_none (by omega)] at hj; cases hj
  have HLN : Hid (nw.length = N * 1) := by show _ = _; rw [hnw, List.length_map, ints_len, hNe, Nat.mul_one]
  have HON : Hid (∀ v ∈ nw, v.oneCell' = true) := fun v hv => by rw [hnw] at hv; obtain ⟨z, _, rfl⟩ := List.mem_map.1 hv; rfl
  have H63 : Hid (0 + N ≤ maxLen) := by show 0 + N ≤ maxLen; unfold maxLen; omega
  have HBY : Hid ((0 + N) * 8 ≤ 140737488355328) := by show _ ≤ _; omega
  have HBS : Hid (D ≤ W1.heap.size) := by have h1 := hb1.size; show D ≤ _; omega
  have HB1 := hid hb1
  have HNWE := hid hnw
  have HN := hid hNe
  have HS := hid hs
  have HW1 := hid hW1
  have HD := hid hD
  have CL : Hid (∀ X pa cap xs, xs.length ≤ 8 → Sm xs → IAt X pa (ints xs) → Calls Try.prog 98 #[.slice pa xs.length cap, .int .i64 b] X fun e w' => ∃ u, e = .returned u ∧ NewRow (ints (lessR xs b)) X w' u) := fun X pa cap xs h1 h2 h3 => lessB_any pa cap xs b X h1 (by omega) h2 h3
  have hbN : b < N := by omega
  have hN8 : N ≤ 8 := by omega
  obtain ⟨M0, hM0⟩ := ex_eq (mergR r a b)
  have HM0 := hid hM0
  rw [← hNe, ← hM0]
  clear hNe hI hs hW1 hD hM0 hcs hnw hb1 hr hb hg
  go_enter Try.func97, Try.ntmps97
  go_wp2_with (at_builtin; rw [← HW1.out, ← HD.out]; refine wpList_append_any _ rfl _ _ 28 rfl D 3 i0 _ 1 8 Try.underlying28 hi0 hz0 hz1 hz2 rfl (by decide) _ _ _ rfl HOW.out (some ⟨g, off, none⟩) N cap nw rfl (fun h => by cases h) HLN.out HNW.out HON.out H63.out HBY.out HBS.out ?_)
  intro v7 w2 hown7 hgrow7 hat7
  have hb2 : Below D w w2 := HB1.out.grown hgrow7 HBS.out (fun q hq => (HOW.out.lt q hq).1)
  have hown7' : w2.ownsRow D 3 1 v7 N ((ints r).map (Value.int .i64)) := by
    have h := hown7
    rw [HNWE.out] at h
    exact h
  obtain ⟨go, co, rfl, hgo, hgo2, _, hxs⟩ := own_row hown7' (by omega)
  have HB2 := hid hb2
  have HO7 := hid hown7'
  have HG := hid hgo
  clear hown7 hgrow7 hat7 hown7' hxs HOW HNW HLN HON H63 HBY HBS HW1
  have haN : a < N := by omega
  have d0 := HC.out w2 hb2 a haN
  have d1 := HC.out w2 hb2 b hbN
  have c0 : w2.cell? ⟨go, a, none⟩ = some (.int .i64 ((r.getD a 0 : Nat) : Int)) := by
    have := HO7.out.cellAt a (by omega)
    rw [this]
    unfold ints
    rw [List.map_map, List.getElem?_map, List.getElem?_eq_getElem (by rw [← HN.out]; exact haN), getD_at0 (by rw [← HN.out]; exact haN)]; rfl
  have f0 := HO7.out.frozenAt a
  obtain ⟨ra, hra⟩ := ex_eq (r.getD a 0)
  obtain ⟨rb, hrb⟩ := ex_eq (r.getD b 0)
  have ra8 : ra < 256 := by rw [hra]; exact getD_sm HS.out a
  have rb8 : rb < 256 := by rw [hrb]; exact getD_sm HS.out b
  rw [← hra] at d0 c0
  rw [← hrb] at d1
  obtain ⟨Pa, hPa⟩ := ex_eq (2 ^ a)
  obtain ⟨Pb, hPb⟩ := ex_eq (2 ^ b)
  have pa8 : Pa < 256 := by rw [hPa]; exact pow8' (by omega)
  have pb8 : Pb < 256 := by rw [hPb]; exact pow8' (by omega)
  obtain ⟨O1, hO1⟩ := ex_eq (ra ||| rb)
  obtain ⟨O2, hO2⟩ := ex_eq (Pa ||| Pb)
  have o18 : O1 < 256 := by rw [hO1]; exact or_lt8 ra8 rb8
  have o28 : O2 < 256 := by rw [hO2]; exact or_lt8 pa8 pb8
  obtain ⟨Y, hY⟩ := ex_eq (andN O1 O2)
  have s1 : IntKind.i64.wrap ((2 : Int) ^ a) = (Pa : Int) := by rw [hPa]; exact pow8i (by omega)
  have s2 : IntKind.i64.wrap ((2 : Int) ^ b) = (Pb : Int) := by rw [hPb]; exact pow8i (by omega)
  have s3 : bits .or .i64 (ra : Int) (rb : Int) = (O1 : Int) := by rw [bor (by omega) (by omega), hO1]
  have s4 : bits .or .i64 (Pa : Int) (Pb : Int) = (O2 : Int) := by rw [bor (by omega) (by omega), hO2]
  have s5 : bits .andNot .i64 (O1 : Int) (O2 : Int) = (Y : Int) := by rw [bandn (by omega) (by omega), hY]
  have HST : Hid (∃ xs, MgTo r a b 0 xs ∧ ((w2.drew).setCell ⟨go, a, none⟩ (.int .i64 ((Y : Nat) : Int))).ownsRow D 3 1 (.slice (some ⟨go, 0, none⟩) N co) N ((ints xs).map (Value.int .i64)) ∧ Below D w ((w2.drew).setCell ⟨go, a, none⟩ (.int .i64 ((Y : Nat) : Int)))) := by
    have hd : w2.drew.ownsRow D 3 1 (.slice (some ⟨go, 0, none⟩) N co) N ((ints r).map (Value.int .i64)) := own_below HO7.out (Below.refl _ _).drew
    have h := (hd.stored a (.int .i64 ((Y : Nat) : Int))).1
    rw [ints_set] at h
    refine ⟨_, MgTo.start (by rw [← HN.out]; exact haN), ?_, HB2.out.drew.setCell (p := ⟨go, a, none⟩) HG.out _⟩
    rw [hY, hO1, hO2, hra, hrb, hPa, hPb] at h ⊢
    exact h
  have hgne : g ≠ go := by omega
  have hS : (fun X : World => X.cell? ⟨g, off + a, none⟩ = some (.int .i64 (ra : Int)) ∧ X.cell? ⟨g, off + b, none⟩ = some (.int .i64 (rb : Int))) w2.drew := ⟨d0, d1⟩
  have hS2 : (fun X : World => X.cell? ⟨g, off + a, none⟩ = some (.int .i64 (ra : Int)) ∧ X.cell? ⟨g, off + b, none⟩ = some (.int .i64 (rb : Int))) (w2.drew.setCell ⟨go, a, none⟩ (.int .i64 ((Y : Nat) : Int))) := ⟨(World.cell?_setCell_other _ _ _ _ (fun e => hgne (by have := congrArg Addr.block e; simpa using this.symm))).trans d0, (World.cell?_setCell_other _ _ _ _ (fun e => hgne (by have := congrArg Addr.block e; simpa using this.symm))).trans d1⟩
  have q1 : (a : Int) < (N : Int) := by omega
  have q2 : (0 : Int) ≤ (a : Int) := by omega
  have q3 : (b : Int) < (N : Int) := by omega
  have q4 : (0 : Int) ≤ (b : Int) := by omega
  have u1 : IntKind.u64.wrap (a : Int) = (a : Int) := by rw [IntKind.wrap_u64]; omega
  have u2 : IntKind.u64.wrap (b : Int) = (b : Int) := by rw [IntKind.wrap_u64]; omega
  have m1 : min a 64 = a := by omega
  have m2 : min b 64 = b := by omega
  clear hra hrb hPa hPb hO1 hO2 hY hb2 hgo hgo2 HO7 HB2 HB1
  go_upto_region 2 with fail
  refine wp_region_held_drew (S := (fun X : World => X.cell? ⟨g, off + a, none⟩ = some (.int .i64 (ra : Int)) ∧ X.cell? ⟨g, off + b, none⟩ = some (.int .i64 (rb : Int)))) (by kernel_rfl) hS (fun hHeld => ?_)
  (refine takeW (i := 0) (dst := some 12) (v := ?_) rfl rfl (by kernel_rfl) (by kernel_rfl) (by kernel_rfl) (fun _ _ _ h => h) (Or.inl ⟨by rfl, ?_⟩) hHeld ?_; rotate_left; focus (intro w hSw; (try dsimp only at hSw); go_simp; (try with_reducible rfl); done))
  try simp only [Act.put, List.setIfInBounds_toArray, List.set_cons_zero, List.set_cons_succ]
  (refine takeW (i := 1) (dst := some 13) (v := ?_) rfl rfl (by kernel_rfl) (by kernel_rfl) (by kernel_rfl) (fun _ _ _ h => h) (Or.inl ⟨by rfl, ?_⟩) hHeld ?_; rotate_left; focus (intro w hSw; (try dsimp only at hSw); go_simp; (try with_reducible rfl); done))
  try simp only [Act.put, List.setIfInBounds_toArray, List.set_cons_zero, List.set_cons_succ]
  (refine takeW (i := 2) (dst := some 14) (v := ?_) rfl rfl (by kernel_rfl) (by kernel_rfl) (by kernel_rfl) (fun _ _ _ h => h) (Or.inl ⟨by rfl, ?_⟩) hHeld ?_; rotate_left; focus (intro w hSw; (try dsimp only at hSw); go_simp; (try with_reducible rfl); done))
  try simp only [Act.put, List.setIfInBounds_toArray, List.set_cons_zero, List.set_cons_succ]
  (refine takeW (i := 3) (dst := some 15) (v := ?_) rfl rfl (by kernel_rfl) (by kernel_rfl) (by kernel_rfl) (fun _ _ _ h => h) (Or.inl ⟨by rfl, ?_⟩) hHeld ?_; rotate_left; focus (intro w hSw; (try dsimp only at hSw); go_simp; (try with_reducible rfl); done))
  try simp only [Act.put, List.setIfInBounds_toArray, List.set_cons_zero, List.set_cons_succ]
  (refine takeW (i := 4) (dst := some 16) (v := ?_) rfl rfl (by kernel_rfl) (by kernel_rfl) (by kernel_rfl) (fun _ _ _ h => h) (Or.inl ⟨by rfl, ?_⟩) hHeld ?_; rotate_left; focus (intro w hSw; (try dsimp only at hSw); go_simp; (try with_reducible rfl); done))
  try simp only [Act.put, List.setIfInBounds_toArray, List.set_cons_zero, List.set_cons_succ]
  (refine takeW (i := 5) (dst := some 17) (v := ?_) rfl rfl (by kernel_rfl) (by kernel_rfl) (by kernel_rfl) (fun _ _ _ h => h) (Or.inl ⟨by rfl, ?_⟩) hHeld ?_; rotate_left; focus (intro w hSw; (try dsimp only at hSw); go_simp; (try with_reducible rfl); done))
  try simp only [Act.put, List.setIfInBounds_toArray, List.set_cons_zero, List.set_cons_succ]
  (refine takeW (i := 6) (dst := some 18) (v := ?_) rfl rfl (by kernel_rfl) (by kernel_rfl) (by kernel_rfl) (fun _ _ _ h => h) (Or.inl ⟨by rfl, ?_⟩) hHeld ?_; rotate_left; focus (intro w hSw; (try dsimp only at hSw); go_simp; (try with_reducible rfl); done))
  try simp only [Act.put, List.setIfInBounds_toArray, List.set_cons_zero, List.set_cons_succ]
  (refine takeW (i := 7) (dst := some 19) (v := ?_) rfl rfl (by kernel_rfl) (by kernel_rfl) (by kernel_rfl) (fun _ _ _ h => h) (Or.inl ⟨by rfl, ?_⟩) hHeld ?_; rotate_left; focus (intro w hSw; (try dsimp only at hSw); go_simp; (try with_reducible rfl); done))
  try simp only [Act.put, List.setIfInBounds_toArray, List.set_cons_zero, List.set_cons_succ]
  (refine takeW (i := 8) (dst := some 20) (v := ?_) rfl rfl (by kernel_rfl) (by kernel_rfl) (by kernel_rfl) (fun _ _ _ h => h) (Or.inl ⟨by rfl, ?_⟩) hHeld ?_; rotate_left; focus (intro w hSw; (try dsimp only at hSw); go_simp; (try with_reducible rfl); done))
  try simp only [Act.put, List.setIfInBounds_toArray, List.set_cons_zero, List.set_cons_succ]
  (refine takeW (i := 9) (dst := some 21) (v := ?_) rfl rfl (by kernel_rfl) (by kernel_rfl) (by kernel_rfl) (fun _ _ _ h => h) (Or.inl ⟨by rfl, ?_⟩) hHeld ?_; rotate_left; focus (intro w hSw; (try dsimp only at hSw); go_simp; (try with_reducible rfl); done))
  try simp only [Act.put, List.setIfInBounds_toArray, List.set_cons_zero, List.set_cons_succ]
  (refine takeW (i := 10) (dst := some 22) (v := ?_) rfl rfl (by kernel_rfl) (by kernel_rfl) (by kernel_rfl) (fun _ _ _ h => h) (Or.inl ⟨by rfl, ?_⟩) hHeld ?_; rotate_left; focus (intro w hSw; (try dsimp only at hSw); go_simp; (try with_reducible rfl); done))
  try simp only [Act.put, List.setIfInBounds_toArray, List.set_cons_zero, List.set_cons_succ]
  (refine takeW (i := 11) (dst := some 23) (v := ?_) rfl rfl (by kernel_rfl) (by kernel_rfl) (by kernel_rfl) (fun _ _ _ h => h) (Or.inl ⟨by rfl, ?_⟩) hHeld ?_; rotate_left; focus (intro w hSw; (try dsimp only at hSw); go_simp; (try with_reducible rfl); done))
  try simp only [Act.put, List.setIfInBounds_toArray, List.set_cons_zero, List.set_cons_succ]
  (refine takeW (i := 12) (dst := some 24) (v := ?_) rfl rfl (by kernel_rfl) (by kernel_rfl) (by kernel_rfl) (fun _ _ _ h => h) (Or.inl ⟨by rfl, ?_⟩) hHeld ?_; rotate_left; focus (intro w hSw; (try dsimp only at hSw); go_simp; (try with_reducible rfl); done))
  try simp only [Act.put, List.setIfInBounds_toArray, List.set_cons_zero, List.set_cons_succ]
  (refine takeW (i := 13) (dst := some 25) (v := ?_) rfl rfl (by kernel_rfl) (by kernel_rfl) (by kernel_rfl) (fun _ _ _ h => h) (Or.inl ⟨by rfl, ?_⟩) hHeld ?_; rotate_left; focus (intro w hSw; (try dsimp only at hSw); go_simp; (try with_reducible rfl); done))
  try simp only [Act.put, List.setIfInBounds_toArray, List.set_cons_zero, List.set_cons_succ]
  (refine takeW (i := 14) (dst := some 26) (v := ?_) rfl rfl (by kernel_rfl) (by kernel_rfl) (by kernel_rfl) (fun _ _ _ h => h) (Or.inl ⟨by rfl, ?_⟩) hHeld ?_; rotate_left; focus (intro w hSw; (try dsimp only at hSw); go_simp; (try with_reducible rfl); done))
  try simp only [Act.put, List.setIfInBounds_toArray, List.set_cons_zero, List.set_cons_succ]
  (refine takeW (i := 15) (dst := some 27) (v := ?_) rfl rfl (by kernel_rfl) (by kernel_rfl) (by kernel_rfl) (fun _ _ _ h => h) (Or.inl ⟨by rfl, ?_⟩) hHeld ?_; rotate_left; focus (intro w hSw; (try dsimp only at hSw); go_simp; (try with_reducible rfl); done))
  try simp only [Act.put, List.setIfInBounds_toArray, List.set_cons_zero, List.set_cons_succ]
  (refine takeW (i := 16) (dst := some 28) (v := ?_) rfl rfl (by kernel_rfl) (by kernel_rfl) (by kernel_rfl) (fun _ _ _ h => h) (Or.inl ⟨by rfl, ?_⟩) hHeld ?_; rotate_left; focus (intro w hSw; (try dsimp only at hSw); go_simp; (try with_reducible rfl); done))
  try simp only [Act.put, List.setIfInBounds_toArray, List.set_cons_zero, List.set_cons_succ]
  (refine takeW (i := 17) (dst := some 29) (v := ?_) rfl rfl (by kernel_rfl) (by kernel_rfl) (by kernel_rfl) (fun _ _ _ h => h) (Or.inl ⟨by rfl, ?_⟩) hHeld ?_; rotate_left; focus (intro w hSw; (try dsimp only at hSw); go_simp; (try with_reducible rfl); done))
  try simp only [Act.put, List.setIfInBounds_toArray, List.set_cons_zero, List.set_cons_succ]
  (refine takeW (i := 18) (dst := some 30) (v := ?_) rfl rfl (by kernel_rfl) (by kernel_rfl) (by kernel_rfl) (fun _ _ _ h => h) (Or.inl ⟨by rfl, ?_⟩) hHeld ?_; rotate_left; focus (intro w hSw; (try dsimp only at hSw); go_simp; (try with_reducible rfl); done))
  try simp only [Act.put, List.setIfInBounds_toArray, List.set_cons_zero, List.set_cons_succ]
  (refine takeW (i := 19) (dst := some 31) (v := ?_) rfl rfl (by kernel_rfl) (by kernel_rfl) (by kernel_rfl) (fun _ _ _ h => h) (Or.inl ⟨by rfl, ?_⟩) hHeld ?_; rotate_left; focus (intro w hSw; (try dsimp only at hSw); go_simp; (try with_reducible rfl); done))
  try simp only [Act.put, List.setIfInBounds_toArray, List.set_cons_zero, List.set_cons_succ]
  refine wpAnyH_ready (rs := [20]) (by kernel_rfl) (by simp) ?_
  refine AllReadyH.cons (o := _) rfl (fun KK hK => ?_) AllReadyH.nil
  go_simp
  refine hK.out _ _ hS2 (fun hHeld => ?_)
  clear hK KK
  try simp only [Act.put]
  try simp only [List.setIfInBounds_toArray]
  try simp only [List.set_cons_succ]
  try simp only [List.set_cons_zero]
  refine wpAnyH_done (by kernel_rfl) ?_ _
  clear hHeld hS hS2 d0 d1 c0 f0 s1 s2 s3 s4 s5 q3 q4 u1 u2 m1 m2
  go_wp2
  go_loopg [8] N (fun G i wz => ∃ t : Nat, t ≤ N ∧ N - t ≤ G ∧ i = .int .i64 t ∧ Hid (∃ xs, MgTo r a b t xs ∧ wz.ownsRow D 3 1 (.slice (some ⟨go, 0, none⟩) N co) N ((ints xs).map (Value.int .i64)) ∧ Below D w wz))
  case atStart => exact ⟨0, Nat.zero_le _, by omega, rfl, HST⟩
  case round =>
    clear HST
    obtain ⟨t, ht, hG, rfl, hst⟩ := hrel
    obtain ⟨xs, hmg, hown, hbel⟩ := hst.out
    by_cases hlt : t < N
    · have htr : t < r.length := by rw [← HN.out]; exact hlt
      have d0 := HC.out wr hbel t hlt
      have hx8 := getD_sm HS.out t
      have q5 : (t : Int) < (N : Int) := by omega
      have q6 : (0 : Int) ≤ (t : Int) := by omega
      by_cases e : t = a
      · have q7 : ((t : Int) != (a : Int)) = false := by simp [e]
        have HNX : Hid (∃ xs, MgTo r a b (t + 1) xs ∧ wr.ownsRow D 3 1 (.slice (some ⟨go, 0, none⟩) N co) N ((ints xs).map (Value.int .i64)) ∧ Below D w wr) := ⟨xs, hmg.same htr (Or.inl e), hown, hbel⟩
        clear hst hmg hown hbel d0 hx8
        go_wp2
        go_roundg (N - (t + 1))
        case measure => omega
        case rel => exact ⟨t + 1, by omega, Nat.le_refl _, by go_num, HNX⟩
      · have q7 : ((t : Int) != (a : Int)) = true := by simp [bne]; omega
        have z0 := hown.cellAt t (by omega)
        have zf := hown.frozenAt t
        have hxt : xs.getD t 0 = r.getD t 0 := by rw [hmg.2 t htr, if_neg (by omega)]
        have hxl : t < xs.length := by rw [hmg.1]; exact htr
        have z1 : wr.cell? ⟨go, t, none⟩ = some (.int .i64 ((r.getD t 0 : Nat) : Int)) := by
          rw [z0, ← hxt]
          unfold ints
          rw [List.map_map, List.getElem?_map, List.getElem?_eq_getElem hxl, getD_at0 hxl]; rfl
        obtain ⟨x, hx⟩ := ex_eq (r.getD t 0)
        rw [← hx] at d0 hx8 z1
        obtain ⟨S, hS⟩ := ex_eq (x >>> b)
        have hS8 : S < 256 := by have := shr_le x b; omega
        have s1 : (x : Int) / (2 : Int) ^ b = (S : Int) := by rw [hS]; exact shr8 x b
        by_cases hbt : x.testBit b = true
        · have s2 : bits .and .i64 (S : Int) 1 = 1 := by
            have := band (a := S) (b := 1) (by omega) (by omega)
            rw [hS, bit_and, hbt] at this
            rw [hS]; exact this
          obtain ⟨Y2, hY2⟩ := ex_eq (x ||| 2 ^ a)
          obtain ⟨P, hP⟩ := ex_eq (2 ^ a)
          have hP8 : P < 256 := by rw [hP]; exact pow8' (by omega)
          have s3 : IntKind.i64.wrap ((2 : Int) ^ a) = (P : Int) := by rw [hP]; exact pow8i (by omega)
          have s4 : bits .or .i64 (x : Int) (P : Int) = (Y2 : Int) := by rw [bor (by omega) (by omega), hY2, hP]
          have HNX : Hid (∃ xs, MgTo r a b (t + 1) xs ∧ (wr.setCell ⟨go, t, none⟩ (.int .i64 ((Y2 : Nat) : Int))).ownsRow D 3 1 (.slice (some ⟨go, 0, none⟩) N co) N ((ints xs).map (Value.int .i64)) ∧ Below D w (wr.setCell ⟨go, t, none⟩ (.int .i64 ((Y2 : Nat) : Int)))) := by
            have h := (hown.stored t (.int .i64 ((Y2 : Nat) : Int))).1
            rw [ints_set] at h
            refine ⟨_, hmg.put htr e (by rw [← hx]; exact hbt), ?_, hbel.setCell (p := ⟨go, t, none⟩) HG.out _⟩
            rw [← hx, ← hY2]; exact h
          clear hst hmg hown hbel z0 hxt hxl hx hS hY2 hP hbt
          go_wp2
          go_roundg (N - (t + 1))
          case measure => omega
          case rel => exact ⟨t + 1, by omega, Nat.le_refl _, by go_num, HNX⟩
        · have s2 : bits .and .i64 (S : Int) 1 = 0 := by
            have := band (a := S) (b := 1) (by omega) (by omega)
            rw [hS, bit_and, Bool.eq_false_iff.2 hbt] at this
            rw [hS]; exact this
          have HNX : Hid (∃ xs, MgTo r a b (t + 1) xs ∧ wr.ownsRow D 3 1 (.slice (some ⟨go, 0, none⟩) N co) N ((ints xs).map (Value.int .i64)) ∧ Below D w wr) := ⟨xs, hmg.same htr (Or.inr (by rw [← hx]; exact Bool.eq_false_iff.2 hbt)), hown, hbel⟩
          clear hst hmg hown hbel z0 z1 zf hxt hxl hx hS hbt
          go_wp2
          go_roundg (N - (t + 1))
          case measure => omega
          case rel => exact ⟨t + 1, by omega, Nat.le_refl _, by go_num, HNX⟩
    · obtain rfl : t = N := by omega
      have hxe : xs = mergO r a b := (by have := hmg; rw [HN.out] at this; exact this.end)
      subst hxe
      have hml : (mergO r a b).length = t := by rw [mergO_len]; exact HN.out.symm
      obtain ⟨a6, c6, hv6, hI6⟩ := iat_own (xs := ints (mergO r a b)) (by rw [ints_len, hml]; exact hown)
      rw [ints_len, hml] at hv6
      simp only [Value.slice.injEq, true_and] at hv6
      obtain ⟨rfl, rfl⟩ := hv6
      have C := CL.out wr _ co (mergO r a b) (by omega) (mergO_sm HS.out (by omega)) hI6
      rw [hml] at C
      have HC6 := hid C
      have HBL := hid hbel
      clear hst hmg hown hbel hml hI6 C
      go_wp2_with fail
      refine HC6.out.mono ?_
      rintro e w9 ⟨u, rfl, hn⟩
      have HF : Hid (NewRow (ints M0) w w9 u) := by
        rw [HM0.out]
        exact NewRow.lower (by rw [← HD.out]; exact HBL.out) hn
      clear hn HC6
      go_wp2
      go_ret
      exact ⟨_, rfl, HF.out⟩
end Go.Proofs.Ytlebimolgienkaa
