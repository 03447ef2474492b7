/-
  The document's is and comes, over rows of bits (layer 8).
-/
import Derived.Test.YtckcbaegehfkoaaB34
namespace Go.Proofs.Ytckcbaegehfkoaa
open Go.RowKit Go.Lib

/-- Two stand apart in the pattern of five: all others are neighbours of both. -/
def cN (r : List Nat) (p q : Nat) : Bool := (r.getD p 0 &&& bothN p q == bothN p q) && (r.getD q 0 &&& bothN p q == bothN p q)
def IsTo (r : List Nat) (p q : Nat) : Prop := ∀ p' q', q' < p' → p' < 5 → (p' < p ∨ (p' = p ∧ q' < q)) → cN r p' q' = false
theorem is_two (r : List Nat) : isN r 2 = true ↔ ∃ p q, q < p ∧ p < 5 ∧ cN r p q = true := by
  unfold isN
  rw [if_neg (by decide), List.any_eq_true]
  constructor
  · rintro ⟨p, hp, h⟩
    rw [List.any_eq_true] at h
    obtain ⟨q, hq, h⟩ := h
    exact ⟨p, q, List.mem_range.1 hq, List.mem_range.1 hp, h⟩
  · rintro ⟨p, q, hq, hp, h⟩
    exact ⟨p, List.mem_range.2 hp, List.any_eq_true.2 ⟨q, List.mem_range.2 hq, h⟩⟩
theorem is_one (r : List Nat) : isN r 1 = ((r.getD 0 0 ||| 1 == 15) && (r.getD 1 0 ||| 2 == 15) && (r.getD 2 0 ||| 4 == 15) && (r.getD 3 0 ||| 8 == 15)) := by
  unfold isN; rw [if_pos rfl]
set_option maxHeartbeats 8000000 in
set_option maxRecDepth 100000 in
theorem isB1_any (pa : Option Addr) (cap : Nat) (r : List Nat) (w : World) (hr : r.length = 4) (hs : Sm r) (hI : IAt w pa (ints r)) :
    Calls Try.prog 94 #[.slice pa 4 cap, .int .i64 1] w fun e w' => e = .returned (.bool (isN r 1)) ∧ w' = w := by
  obtain ⟨g, off, rfl, hg, hcs⟩ := hI (by rw [ints_len]; omega)
  have d0 : w.cell? ⟨g, off, none⟩ = some (.int .i64 ((r.getD 0 0 : Nat) : Int)) := iat_bit hcs (i := 0) (by omega)
  have d1 := iat_bit hcs (i := 1) (by omega)
  have d2 := iat_bit hcs (i := 2) (by omega)
  have d3 := iat_bit hcs (i := 3) (by omega)
  obtain ⟨R, hR⟩ := ex_eq (isN r 1)
  rw [← hR]
  rw [is_one] at hR
  obtain ⟨x0, hx0⟩ := ex_eq (r.getD 0 0)
  have b0 : x0 < 256 := by rw [hx0]; exact getD_sm hs 0
  rw [← hx0] at d0 hR
  obtain ⟨O0, hO0⟩ := ex_eq (x0 ||| 1)
  rw [← hO0] at hR
  have s0 : bits .or .i64 (x0 : Int) 1 = (O0 : Int) := by
    have := bor (a := x0) (b := 1) (by omega) (by omega)
    rw [hO0]; exact this
  clear hx0 hO0
  obtain ⟨x1, hx1⟩ := ex_eq (r.getD 1 0)
  have b1 : x1 < 256 := by rw [hx1]; exact getD_sm hs 1
  rw [← hx1] at d1 hR
  obtain ⟨O1, hO1⟩ := ex_eq (x1 ||| 2)
  rw [← hO1] at hR
  have s1 : bits .or .i64 (x1 : Int) 2 = (O1 : Int) := by
    have := bor (a := x1) (b := 2) (by omega) (by omega)
    rw [hO1]; exact this
  clear hx1 hO1
  obtain ⟨x2, hx2⟩ := ex_eq (r.getD 2 0)
  have b2 : x2 < 256 := by rw [hx2]; exact getD_sm hs 2
  rw [← hx2] at d2 hR
  obtain ⟨O2, hO2⟩ := ex_eq (x2 ||| 4)
  rw [← hO2] at hR
  have s2 : bits .or .i64 (x2 : Int) 4 = (O2 : Int) := by
    have := bor (a := x2) (b := 4) (by omega) (by omega)
    rw [hO2]; exact this
  clear hx2 hO2
  obtain ⟨x3, hx3⟩ := ex_eq (r.getD 3 0)
  have b3 : x3 < 256 := by rw [hx3]; exact getD_sm hs 3
  rw [← hx3] at d3 hR
  obtain ⟨O3, hO3⟩ := ex_eq (x3 ||| 8)
  rw [← hO3] at hR
  have s3 : bits .or .i64 (x3 : Int) 8 = (O3 : Int) := by
    have := bor (a := x3) (b := 8) (by omega) (by omega)
    rw [hO3]; exact this
  clear hx3 hO3
  clear hs hI hcs hg hr
  by_cases e0 : O0 = 15
  · subst e0
    by_cases e1 : O1 = 15
    · subst e1
      by_cases e2 : O2 = 15
      · subst e2
        by_cases e3 : O3 = 15
        · subst e3
          obtain rfl : R = true := by rw [hR]; rfl
          clear hR
          go_enter Try.func94, Try.ntmps94
          go_wp2
          go_ret
          exact ⟨rfl, rfl⟩
        · have t3 : ((O3 : Int) == 15) = false := beq_eq_false_iff_ne.2 (by omega)
          obtain rfl : R = false := by
            have hf : (O3 == 15) = false := beq_eq_false_iff_ne.2 e3
            rw [hR, hf]
            simp
          clear hR
          go_enter Try.func94, Try.ntmps94
          go_wp2
          go_ret
          exact ⟨rfl, rfl⟩
      · have t2 : ((O2 : Int) == 15) = false := beq_eq_false_iff_ne.2 (by omega)
        obtain rfl : R = false := by
          have hf : (O2 == 15) = false := beq_eq_false_iff_ne.2 e2
          rw [hR, hf]
          simp
        clear hR
        go_enter Try.func94, Try.ntmps94
        go_wp2
        go_ret
        exact ⟨rfl, rfl⟩
    · have t1 : ((O1 : Int) == 15) = false := beq_eq_false_iff_ne.2 (by omega)
      obtain rfl : R = false := by
        have hf : (O1 == 15) = false := beq_eq_false_iff_ne.2 e1
        rw [hR, hf]
        simp
      clear hR
      go_enter Try.func94, Try.ntmps94
      go_wp2
      go_ret
      exact ⟨rfl, rfl⟩
  · have t0 : ((O0 : Int) == 15) = false := beq_eq_false_iff_ne.2 (by omega)
    obtain rfl : R = false := by
      have hf : (O0 == 15) = false := beq_eq_false_iff_ne.2 e0
      rw [hR, hf]
      simp
    clear hR
    go_enter Try.func94, Try.ntmps94
    go_wp2
    go_ret
    exact ⟨rfl, rfl⟩
set_option maxHeartbeats 8000000 in
set_option maxRecDepth 100000 in
theorem isB2_any (pa : Option Addr) (cap : Nat) (r : List Nat) (w : World) (hr : r.length = 5) (hs : Sm r) (hI : IAt w pa (ints r)) :
    Calls Try.prog 94 #[.slice pa 5 cap, .int .i64 2] w fun e w' => e = .returned (.bool (isN r 2)) ∧ w' = w := by
  obtain ⟨g, off, rfl, hg, hcs⟩ := hI (by rw [ints_len]; omega)
  have HC : Hid (∀ i, i < 5 → w.cell? ⟨g, off + i, none⟩ = some (.int .i64 ((r.getD i 0 : Nat) : Int))) := fun i hi => iat_bit hcs (by omega)
  have HS : Hid (∀ i, r.getD i 0 < 256) := fun i => getD_sm hs i
  obtain ⟨R, hR⟩ := ex_eq (isN r 2)
  rw [← hR]
  have HR : Hid (R = true ↔ ∃ p q, q < p ∧ p < 5 ∧ cN r p q = true) := by show _ ↔ _; rw [hR]; exact is_two r
  clear hs hI hcs hg hr hR
  go_enter Try.func94, Try.ntmps94
  go_wp2
  go_loopg [5] 5 (fun G i wz => ∃ p : Nat, p ≤ 5 ∧ 5 - p ≤ G ∧ i = .int .i64 p ∧ Hid (IsTo r p 0) ∧ wz = w)
  case atStart => exact ⟨0, Nat.zero_le _, by omega, rfl, (fun p' q' h1 h2 h3 => by omega), rfl⟩
  case round =>
    obtain ⟨p, hp, hG, rfl, hto, hwr⟩ := hrel
    subst hwr
    by_cases hlt : p < 5
    · have q1 : (p : Int) < 5 := by omega
      go_wp2
      go_loopg [6] p (fun G i wz => ∃ q : Nat, q ≤ p ∧ p - q ≤ G ∧ i = .int .i64 q ∧ Hid (IsTo r p q) ∧ wz = wr)
      case atStart => exact ⟨0, Nat.zero_le _, by omega, rfl, hto, rfl⟩
      case round =>
        clear hto
        obtain ⟨q, hq, hG2, rfl, hto, hwr2⟩ := hrel
        subst hwr2
        by_cases hlt2 : q < p
        · have d0 := HC.out p hlt
          have d1 := HC.out q (by omega)
          obtain ⟨P, hP⟩ := ex_eq (2 ^ p)
          obtain ⟨Q, hQ⟩ := ex_eq (2 ^ q)
          have p8 : P < 256 := by rw [hP]; exact pow8' (by omega)
          have q8 : Q < 256 := by rw [hQ]; exact pow8' (by omega)
          obtain ⟨O, hO⟩ := ex_eq (P ||| Q)
          have o8 : O < 256 := by rw [hO]; exact or_lt8 p8 q8
          obtain ⟨B, hB⟩ := ex_eq (andN 31 O)
          have hBB : B = bothN p q := by rw [hB, hO, hP, hQ]; rfl
          have b8 : B ≤ 31 := by rw [hB]; exact andN_le _ _
          obtain ⟨x, hx⟩ := ex_eq (r.getD p 0)
          obtain ⟨y, hy⟩ := ex_eq (r.getD q 0)
          have x8 : x < 256 := by rw [hx]; exact HS.out p
          have y8 : y < 256 := by rw [hy]; exact HS.out q
          rw [← hx] at d0
          rw [← hy] at d1
          obtain ⟨A1, hA1⟩ := ex_eq (x &&& B)
          obtain ⟨A2, hA2⟩ := ex_eq (y &&& B)
          have s1 : IntKind.i64.wrap ((2 : Int) ^ p) = (P : Int) := by rw [hP]; exact pow8i (by omega)
          have s2 : IntKind.i64.wrap ((2 : Int) ^ q) = (Q : Int) := by rw [hQ]; exact pow8i (by omega)
          have s3 : bits .or .i64 (P : Int) (Q : Int) = (O : Int) := by rw [bor (by omega) (by omega), hO]
          have s4 : bits .andNot .i64 31 (O : Int) = (B : Int) := by
            have := bandn (a := 31) (b := O) (by omega) (by omega)
            rw [hB]; exact this
          have s5 : bits .and .i64 (x : Int) (B : Int) = (A1 : Int) := by rw [band (by omega) (by omega), hA1]
          have s6 : bits .and .i64 (y : Int) (B : Int) = (A2 : Int) := by rw [band (by omega) (by omega), hA2]
          have HCN : Hid (cN r p q = ((A1 == B) && (A2 == B))) := by
            show _ = _
            unfold cN
            rw [← hBB, ← hx, ← hy, ← hA1, ← hA2]
          have q2 : (q : Int) < (p : Int) := by omega
          have q3 : (0 : Int) ≤ (p : Int) := by omega
          have q4 : (0 : Int) ≤ (q : Int) := by omega
          have q5 : (q : Int) < 5 := by omega
          have HNN : Hid (cN r p q = false → IsTo r p (q + 1)) := fun h p' q' h1 h2 h3 => by
            by_cases e : p' = p ∧ q' = q
            · obtain ⟨rfl, rfl⟩ := e; exact h
            · exact hto.out p' q' h1 h2 (by omega)
          clear hto hP hQ hO hB hBB hx hy hA1 hA2
          by_cases e1 : A1 = B
          · have t1 : ((A1 : Int) == (B : Int)) = true := beq_iff_eq.2 (by omega)
            by_cases e2 : A2 = B
            · have t2 : ((A2 : Int) == (B : Int)) = true := beq_iff_eq.2 (by omega)
              obtain rfl : R = true := HR.out.2 ⟨p, q, hlt2, hlt, by rw [HCN.out, e1, e2]; simp⟩
              clear HR HCN HNN e1 e2
              go_wp2
              go_ret
              exact ⟨rfl, rfl⟩
            · have t2 : ((A2 : Int) == (B : Int)) = false := beq_eq_false_iff_ne.2 (by omega)
              have HNX : Hid (IsTo r p (q + 1)) := HNN.out (by rw [HCN.out, beq_eq_false_iff_ne.2 e2, Bool.and_false])
              clear HCN HNN e1 e2
              go_wp2
              go_roundg (p - (q + 1))
              case measure => omega
              case rel => exact ⟨q + 1, by omega, Nat.le_refl _, by go_num, HNX, rfl⟩
          · have t1 : ((A1 : Int) == (B : Int)) = false := beq_eq_false_iff_ne.2 (by omega)
            have HNX : Hid (IsTo r p (q + 1)) := HNN.out (by rw [HCN.out, beq_eq_false_iff_ne.2 e1, Bool.false_and])
            clear HCN HNN e1
            go_wp2
            go_roundg (p - (q + 1))
            case measure => omega
            case rel => exact ⟨q + 1, by omega, Nat.le_refl _, by go_num, HNX, rfl⟩
        · obtain rfl : q = p := by omega
          have HNX : Hid (IsTo r (q + 1) 0) := fun p' q' h1 h2 h3 => hto.out p' q' h1 h2 (by omega)
          clear hto
          go_wp2
          go_roundg (5 - (q + 1))
          case measure => omega
          case rel => exact ⟨q + 1, by omega, Nat.le_refl _, by go_num, HNX, rfl⟩
    · obtain rfl : p = 5 := by omega
      obtain rfl : R = false := b_false HR.out (fun ⟨p, q, h1, h2, h3⟩ => by
        rw [hto.out p q h1 h2 (by omega)] at h3; cases h3)
      clear hto HR
      go_wp2
      go_ret
      exact ⟨rfl, rfl⟩
theorem isB_any (pa : Option Addr) (cap : Nat) (r : List Nat) (k : Int) (w : World) (hk : k = 1 ∨ k = 2) (hr : r.length = patN k) (hs : Sm r) (hI : IAt w pa (ints r)) :
    Calls Try.prog 94 #[.slice pa r.length cap, .int .i64 k] w fun e w' => e = .returned (.bool (isN r k)) ∧ w' = w := by
  rcases hk with rfl | rfl
  · have h4 : r.length = 4 := hr
    rw [h4]; exact isB1_any pa cap r w h4 hs hI
  · have h5 : r.length = 5 := hr
    rw [h5]; exact isB2_any pa cap r w h5 hs hI
/-- With no vertex to spare, or too few. -/
def smallC (r : List Nat) (k : Int) : Bool := r.length == patN k && isN r k
theorem comes_small {f : Nat} {r : List Nat} {k : Int} (h : r.length ≤ patN k) : comesN f r k = smallC r k := by
  cases f with
  | zero => rfl
  | succ f => unfold comesN; rw [if_pos h]; rfl
theorem comes_more {f : Nat} {r : List Nat} {k : Int} (h : ¬ r.length ≤ patN k) : comesN (f + 1) r k = true ↔ (∃ a b, a < b ∧ b < r.length ∧ (r.getD a 0).testBit b = true ∧ comesN f (mergR r a b) k = true) ∨ ∃ v, v < r.length ∧ comesN f (lessR r v) k = true := by
  rw [comesN, if_neg h, Bool.or_eq_true, List.any_eq_true, List.any_eq_true]
  constructor
  · rintro (⟨a, ha, h1⟩ | ⟨v, hv, h1⟩)
    · rw [List.any_eq_true] at h1
      obtain ⟨b, hb, h2⟩ := h1
      simp only [Bool.and_eq_true, decide_eq_true_eq] at h2
      exact Or.inl ⟨a, b, h2.1.1, List.mem_range.1 hb, h2.1.2, h2.2⟩
    · exact Or.inr ⟨v, List.mem_range.1 hv, h1⟩
  · rintro (⟨a, b, h1, h2, h3, h4⟩ | ⟨v, hv, h1⟩)
    · refine Or.inl ⟨a, List.mem_range.2 (by omega), List.any_eq_true.2 ⟨b, List.mem_range.2 h2, ?_⟩⟩
      simp only [Bool.and_eq_true, decide_eq_true_eq]
      exact ⟨⟨h1, h3⟩, h4⟩
    · exact Or.inr ⟨v, List.mem_range.2 hv, h1⟩
set_option maxHeartbeats 4000000 in
set_option maxRecDepth 100000 in
theorem comesS_any (pa : Option Addr) (cap : Nat) (r : List Nat) (k : Int) (w : World) (hk : k = 1 ∨ k = 2) (hr : r.length ≤ patN k) (hs : Sm r) (hI : IAt w pa (ints r)) :
    Calls Try.prog 68 #[.slice pa r.length cap, .int .i64 k] w fun e w' => e = .returned (.bool (smallC r k)) ∧ Below w.heap.size w w' := by
  obtain ⟨R, hR⟩ := ex_eq (smallC r k)
  rw [← hR]
  have CI : Hid (r.length = patN k → Calls Try.prog 94 #[.slice pa r.length cap, .int .i64 k] w fun e w' => e = .returned (.bool (isN r k)) ∧ w' = w) := fun h => isB_any pa cap r k w hk h hs hI
  have CS := hid (size_any k w)
  obtain ⟨N, hN⟩ := ex_eq r.length
  obtain ⟨K, hK⟩ := ex_eq (patN k)
  rw [← hN, ← hK] at hr
  rw [← hN, ← hK] at CI
  rw [← hK] at CS
  rw [← hN]
  have q1 : decide ((N : Int) ≤ (K : Int)) = true := decide_eq_true (by omega)
  have q1' : (N : Int) ≤ (K : Int) := by omega
  have HR : Hid (R = ((N == K) && isN r k)) := by show _ = _; rw [hR, hN, hK]; rfl
  clear hR hs hI hN hK
  by_cases e : N = K
  · have q2 : ((N : Int) == (K : Int)) = true := beq_iff_eq.2 (by omega)
    obtain rfl : R = isN r k := by rw [HR.out, e]; simp
    obtain ⟨I0, hI0⟩ := ex_eq (isN r k)
    have CJ := CI.out e
    rw [← hI0] at CJ ⊢
    have HCJ := hid CJ
    clear HR CI CJ hI0 e
    go_enter Try.func68, Try.ntmps68
    go_wp2_with fail
    refine CS.out.mono ?_
    rintro e w2 ⟨rfl, hw2⟩
    rw [hw2]
    clear hw2
    go_wp2_with fail
    refine CS.out.mono ?_
    rintro e w3 ⟨rfl, hw3⟩
    rw [hw3]
    clear hw3
    go_wp2_with fail
    refine HCJ.out.mono ?_
    rintro e w4 ⟨rfl, hw4⟩
    rw [hw4]
    clear hw4
    go_wp2
    go_ret
    exact ⟨rfl, Below.refl _ _⟩
  · have q2 : ((N : Int) == (K : Int)) = false := beq_eq_false_iff_ne.2 (by omega)
    obtain rfl : R = false := by
      have hf : (N == K) = false := beq_eq_false_iff_ne.2 e
      rw [HR.out, hf]; rfl
    clear HR CI e
    go_enter Try.func68, Try.ntmps68
    go_wp2_with fail
    refine CS.out.mono ?_
    rintro e w2 ⟨rfl, hw2⟩
    rw [hw2]
    clear hw2
    go_wp2_with fail
    refine CS.out.mono ?_
    rintro e w3 ⟨rfl, hw3⟩
    rw [hw3]
    clear hw3
    go_wp2
    go_ret
    exact ⟨rfl, Below.refl _ _⟩
/-- No pair so far, and no vertex so far. -/
def CoTo (f : Nat) (r : List Nat) (k : Int) (x y : Nat) : Prop := ∀ a b, a < b → b < r.length → (a < x ∨ (a = x ∧ b < y)) → (r.getD a 0).testBit b = true → comesN f (mergR r a b) k = false
set_option maxHeartbeats 16000000 in
set_option maxRecDepth 100000 in
theorem comesB_any (k : Int) (hk : k = 1 ∨ k = 2) (f : Nat) : ∀ (pa : Option Addr) (cap : Nat) (r : List Nat) (w : World), r.length ≤ 8 → r.length ≤ patN k + f → Sm r → IAt w pa (ints r) →
    Calls Try.prog 68 #[.slice pa r.length cap, .int .i64 k] w fun e w' => e = .returned (.bool (comesN f r k)) ∧ Below w.heap.size w w' := by
  induction f with
  | zero => intro pa cap r w _ h2 h3 h4; exact comesS_any pa cap r k w hk h2 h3 h4
  | succ f ih =>
    intro pa cap r w hr8 hrf hs hI
    by_cases hle : r.length ≤ patN k
    · rw [comes_small hle]; exact comesS_any pa cap r k w hk hle hs hI
    · obtain ⟨R, hR⟩ := ex_eq (comesN (f + 1) r k)
      rw [← hR]
      have HR : Hid (R = true ↔ (∃ a b, a < b ∧ b < r.length ∧ (r.getD a 0).testBit b = true ∧ comesN f (mergR r a b) k = true) ∨ ∃ v, v < r.length ∧ comesN f (lessR r v) k = true) := by
        show _ ↔ _
        rw [hR]; exact comes_more hle
      have CS := hid (size_any k w)
      have IH : Hid (∀ (X : World) (u : Value) (xs : List Nat) (W : World), NewRow (ints xs) W X u → xs.length + 1 = r.length → Sm xs → ∃ a' c', u = .slice a' xs.length c' ∧ Calls Try.prog 68 #[.slice a' xs.length c', .int .i64 k] X fun e w' => e = .returned (.bool (comesN f xs k)) ∧ Below X.heap.size X w') := fun X u xs W hn hl hs' => by
        obtain ⟨a', c', hu, hI'⟩ := iat_own hn.1
        rw [ints_len] at hu
        exact ⟨a', c', hu, ih a' c' xs X (by omega) (by omega) hs' hI'⟩
      have CM : Hid (∀ X a b, Below w.heap.size w X → a < b → b < r.length → Calls Try.prog 95 #[.slice pa r.length cap, .int .i64 a, .int .i64 b] X fun e w' => ∃ u, e = .returned u ∧ NewRow (ints (mergR r a b)) X w' u) := fun X a b hX h1 h2 => mergB_any pa cap r a b X hr8 h1 h2 hs (hI.below hX)
      have CL : Hid (∀ X v, Below w.heap.size w X → v < r.length → Calls Try.prog 96 #[.slice pa r.length cap, .int .i64 v] X fun e w' => ∃ u, e = .returned u ∧ NewRow (ints (lessR r v)) X w' u) := fun X v hX h2 => lessB_any pa cap r v X hr8 (by omega) hs (hI.below hX)
      obtain ⟨N, hN⟩ := ex_eq r.length
      obtain ⟨K, hK⟩ := ex_eq (patN k)
      have hK4 : 4 ≤ K := by rw [hK]; unfold patN; rcases hk with rfl | rfl <;> decide
      obtain ⟨g, off, rfl, hg, hcs⟩ := hI (by rw [ints_len]; omega)
      have HC : Hid (∀ X, Below w.heap.size w X → ∀ i, i < N → X.cell? ⟨g, off + i, none⟩ = some (.int .i64 ((r.getD i 0 : Nat) : Int))) := fun X hX i hi => (hX.cell (p := ⟨g, off + i, none⟩) hg).trans (iat_bit hcs (by omega))
      have HS := hid hs
      have HML : Hid (∀ a b, b < N → (mergR r a b).length + 1 = N ∧ ∀ v, v < N → (lessR r v).length + 1 = N) := fun a b hb => by
        refine ⟨?_, fun v hv => ?_⟩
        · unfold mergR; rw [lessR_len (by rw [mergO_len]; omega), mergO_len]; omega
        · rw [lessR_len (by omega)]; omega
      rw [← hN] at hr8 hrf hle HR IH CM CL
      rw [← hN]
      rw [← hK] at CS hrf hle
      have HN := hid hN
      have q1 : decide ((N : Int) ≤ (K : Int)) = false := decide_eq_false (by omega)
      have q1' : ¬ (N : Int) ≤ (K : Int) := by omega
      clear hs hI hcs hg hR ih hN hK
      go_enter Try.func68, Try.ntmps68
      go_wp2_with fail
      refine CS.out.mono ?_
      rintro e w2 ⟨rfl, hw2⟩
      rw [hw2]
      clear hw2 CS
      go_wp2
      clear q1 q1'
      go_loopg [6] N (fun G i wz => ∃ x : Nat, x ≤ N ∧ N - x ≤ G ∧ i = .int .i64 x ∧ Hid (CoTo f r k x 0) ∧ Hid (Below w.heap.size w wz))
      case atStart => exact ⟨0, Nat.zero_le _, by omega, rfl, (fun a b h1 h2 h3 => by omega), Below.refl _ _⟩
      case round =>
        obtain ⟨x, hx, hG, rfl, hto, hbz⟩ := hrel
        by_cases hlt : x < N
        · have q1 : (x : Int) < (N : Int) := by omega
          have q2 : (0 : Int) ≤ (x : Int) := by omega
          have HST : Hid (CoTo f r k x (x + 1)) := fun a b h1 h2 h3 h4 => hto.out a b h1 h2 (by omega) h4
          clear hto
          go_wp2
          go_loopg [7] N (fun G i wz => ∃ y : Nat, x + 1 ≤ y ∧ y ≤ N ∧ N - y ≤ G ∧ i = .int .i64 y ∧ Hid (CoTo f r k x y) ∧ Hid (Below w.heap.size w wz))
          case atStart => exact ⟨x + 1, Nat.le_refl _, by omega, by omega, by go_num, HST, hbz⟩
          case round =>
            clear HST hbz
            obtain ⟨y, hxy, hy, hG2, rfl, hto, hbz⟩ := hrel
            by_cases hlt2 : y < N
            · have d0 := HC.out wr hbz.out x hlt
              obtain ⟨z, hz⟩ := ex_eq (r.getD x 0)
              rw [← hz] at d0
              have z8 : z < 256 := by rw [hz]; exact getD_sm HS.out x
              obtain ⟨S, hS⟩ := ex_eq (z >>> y)
              have hS8 : S < 256 := by have := shr_le z y; omega
              have s1 : (z : Int) / (2 : Int) ^ y = (S : Int) := by rw [hS]; exact shr8 z y
              have q3 : (y : Int) < (N : Int) := by omega
              have q4 : (0 : Int) ≤ (y : Int) := by omega
              have HNN : Hid (((r.getD x 0).testBit y = true → comesN f (mergR r x y) k = false) → CoTo f r k x (y + 1)) := fun h a b h1 h2 h3 h4 => by
                by_cases e : a = x ∧ b = y
                · obtain ⟨rfl, rfl⟩ := e; exact h h4
                · exact hto.out a b h1 h2 (by omega) h4
              have HZ := hid hz
              clear hto hz
              by_cases hbt : z.testBit y = true
              · have s2 : bits .and .i64 (S : Int) 1 = 1 := by
                  have := band (a := S) (b := 1) (by omega) (by omega)
                  rw [hS, bit_and, hbt] at this
                  rw [hS]; exact this
                have C := CM.out wr x y hbz.out (by omega) (by omega)
                have HCM := hid C
                have HBT : Hid ((r.getD x 0).testBit y = true) := by rw [← HZ.out]; exact hbt
                clear hS hbt C
                go_wp2_with fail
                refine HCM.out.mono ?_
                rintro e w3 ⟨u, rfl, hn⟩
                obtain ⟨a', c', rfl, hc⟩ := IH.out w3 u (mergR r x y) wr hn (HML.out x y hlt2).1 (merg_sm HS.out (by omega) (by omega))
                obtain ⟨M1, hM1⟩ := ex_eq (mergR r x y).length
                obtain ⟨c1, hc1⟩ := ex_eq (comesN f (mergR r x y) k)
                rw [← hM1, ← hc1] at hc
                rw [← hM1]
                have HCC := hid hc
                have HC1 := hid hc1
                have HB3 : Hid (Below w.heap.size w w3) := hbz.out.trans (hn.2.mono hbz.out.size)
                clear hn hc hM1 hc1 HCM d0
                go_wp2_with fail
                refine HCC.out.mono ?_
                rintro e w4 ⟨rfl, hb4⟩
                have HB4 : Hid (Below w.heap.size w w4) := HB3.out.trans (hb4.mono HB3.out.size)
                clear hb4 HCC
                cases c1 with
                | true =>
                  obtain rfl : R = true := HR.out.2 (Or.inl ⟨x, y, by omega, hlt2, HBT.out, HC1.out.symm⟩)
                  clear HR HC1 HBT HNN
                  go_wp2
                  go_ret
                  exact ⟨rfl, HB4.out⟩
                | false =>
                  have HNX := hid (HNN.out (fun _ => HC1.out.symm))
                  clear HNN HC1 HBT
                  go_wp2
                  go_roundg (N - (y + 1))
                  case measure => omega
                  case rel => exact ⟨y + 1, by omega, by omega, Nat.le_refl _, by go_num, HNX, HB4⟩
              · have s2 : bits .and .i64 (S : Int) 1 = 0 := by
                  have := band (a := S) (b := 1) (by omega) (by omega)
                  rw [hS, bit_and, Bool.eq_false_iff.2 hbt] at this
                  rw [hS]; exact this
                have HNX := hid (HNN.out (fun h => absurd (by rw [HZ.out]; exact h) hbt))
                clear HNN hS hbt
                go_wp2
                go_roundg (N - (y + 1))
                case measure => omega
                case rel => exact ⟨y + 1, by omega, by omega, Nat.le_refl _, by go_num, HNX, hbz⟩
            · obtain rfl : y = N := by omega
              have HNX : Hid (CoTo f r k (x + 1) 0) := fun a b h1 h2 h3 h4 => hto.out a b h1 h2 (by have := HN.out; omega) h4
              clear hto
              go_wp2
              go_roundg (y - (x + 1))
              case measure => omega
              case rel => exact ⟨x + 1, by omega, Nat.le_refl _, by go_num, HNX, hbz⟩
        · obtain rfl : x = N := by omega
          have HNO : Hid (¬ ∃ a b, a < b ∧ b < x ∧ (r.getD a 0).testBit b = true ∧ comesN f (mergR r a b) k = true) := fun ⟨a, b, h1, h2, h3, h4⟩ => by
            rw [hto.out a b h1 (by rw [← HN.out]; exact h2) (by omega) h3] at h4; cases h4
          have HST2 : Hid (∀ v, v < 0 → comesN f (lessR r v) k = false) := fun v h => absurd h (by omega)
          clear hto
          go_wp2
          go_loopg [8] x (fun G i wz => ∃ v : Nat, v ≤ x ∧ x - v ≤ G ∧ i = .int .i64 v ∧ Hid (∀ v', v' < v → comesN f (lessR r v') k = false) ∧ Hid (Below w.heap.size w wz))
          case atStart => exact ⟨0, Nat.zero_le _, by omega, rfl, HST2, hbz⟩
          case round =>
            clear HST2 hbz
            obtain ⟨v, hv, hG3, rfl, hto, hbz⟩ := hrel
            by_cases hlt3 : v < x
            · have C := CL.out wr v hbz.out hlt3
              have HCM := hid C
              have q3 : (v : Int) < (x : Int) := by omega
              clear C
              go_wp2_with fail
              refine HCM.out.mono ?_
              rintro e w3 ⟨u, rfl, hn⟩
              obtain ⟨a', c', rfl, hc⟩ := IH.out w3 u (lessR r v) wr hn ((HML.out 0 v hlt3).2 v hlt3) (less_sm HS.out (by omega))
              obtain ⟨M1, hM1⟩ := ex_eq (lessR r v).length
              obtain ⟨c1, hc1⟩ := ex_eq (comesN f (lessR r v) k)
              rw [← hM1, ← hc1] at hc
              rw [← hM1]
              have HCC := hid hc
              have HC1 := hid hc1
              have HB3 : Hid (Below w.heap.size w w3) := hbz.out.trans (hn.2.mono hbz.out.size)
              clear hn hc hM1 hc1 HCM
              go_wp2_with fail
              refine HCC.out.mono ?_
              rintro e w4 ⟨rfl, hb4⟩
              have HB4 : Hid (Below w.heap.size w w4) := HB3.out.trans (hb4.mono HB3.out.size)
              clear hb4 HCC
              cases c1 with
              | true =>
                obtain rfl : R = true := HR.out.2 (Or.inr ⟨v, hlt3, HC1.out.symm⟩)
                clear HR HC1 hto
                go_wp2
                go_ret
                exact ⟨rfl, HB4.out⟩
              | false =>
                have HNX : Hid (∀ v', v' < v + 1 → comesN f (lessR r v') k = false) := fun v' h => by
                  by_cases e : v' = v
                  · subst e; exact HC1.out.symm
                  · exact hto.out v' (by omega)
                clear HC1 hto
                go_wp2
                go_roundg (x - (v + 1))
                case measure => omega
                case rel => exact ⟨v + 1, by omega, Nat.le_refl _, by go_num, HNX, HB4⟩
            · obtain rfl : v = x := by omega
              obtain rfl : R = false := b_false HR.out (fun h => h.elim HNO.out (fun ⟨v', h1, h2⟩ => by rw [hto.out v' h1] at h2; cases h2))
              clear hto HR HNO
              go_wp2
              go_ret
              exact ⟨rfl, hbz.out⟩
end Go.Proofs.Ytckcbaegehfkoaa
