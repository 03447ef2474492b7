/-
  The document's patterns and what touches (layer 8).
  The document's components (Of of layer 4).
  The document's Whole (layer 5): what is reached, one behind the other.
  The document's Check (H2, layer 8).
  What a small graph comes to by deletions and contractions, as rows of bits (layer 8): where there is a model, it comes to the pattern. Pure.
-/
import Derived.Test.YtlebimolgienkaaP02
import Derived.Test.YtlebimolgienkaaP03
import Derived.Test.YtlebimolgienkaaP11
import Derived.Test.YtlebimolgienkaaP07
import Derived.Test.YtlebimolgienkaaP04
import Derived.Deep.LoopGhost
import Derived.Test.YtlebimolgienkaaP06
import Derived.Test.YtlebimolgienkaaP14
namespace Go.Proofs.Ytlebimolgienkaa
open Go.RowKit Go.Lib

set_option maxHeartbeats 1000000 in
theorem size_any (k : Int) (w : World) : Calls Try.prog 50 #[.int .i64 k] w fun e w' => e = .returned (.int .i64 (patN k : Nat)) ∧ w' = w := by
  by_cases h1 : k = 1
  · subst h1
    go_enter Try.func50, Try.ntmps50
    go_wp2
    go_ret
    exact ⟨rfl, rfl⟩
  · have b1 : (k == 1) = false := by simp [h1]
    by_cases h2 : k = 2
    · subst h2
      go_enter Try.func50, Try.ntmps50
      go_wp2
      go_ret
      exact ⟨rfl, rfl⟩
    · have b2 : (k == 2) = false := by simp [h2]
      have e : patN k = 0 := patN_none (fun h => h.elim h1 h2)
      rw [e]
      clear e
      go_enter Try.func50, Try.ntmps50
      go_wp2
      go_ret
      exact ⟨rfl, rfl⟩
/-- Are two vertices of a pattern neighbours, as the document reckons it? -/
def joinedB (k a b : Int) : Bool := if k = 1 then decide (a ≠ b) else (decide (a < 2) && decide (2 ≤ b)) || (decide (b < 2) && decide (2 ≤ a))
set_option maxHeartbeats 2000000 in
theorem joined_any (k a b : Int) (w : World) : Calls Try.prog 53 #[.int .i64 k, .int .i64 a, .int .i64 b] w fun e w' => e = .returned (.bool (joinedB k a b)) ∧ w' = w := by
  obtain ⟨r, hr⟩ := ex_eq (joinedB k a b)
  rw [← hr]
  by_cases h1 : k = 1
  · subst h1
    unfold joinedB at hr
    rw [if_pos rfl] at hr
    by_cases hab : a = b
    · obtain rfl : r = false := by rw [hr]; simp [hab]
      have q1 : (a != b) = false := by simp [hab]
      clear hr
      go_enter Try.func53, Try.ntmps53
      go_wp2
      go_ret
      exact ⟨rfl, rfl⟩
    · obtain rfl : r = true := by rw [hr]; simp [hab]
      have q1 : (a != b) = true := by simp [bne, hab]
      clear hr
      go_enter Try.func53, Try.ntmps53
      go_wp2
      go_ret
      exact ⟨rfl, rfl⟩
  · have b1 : (k == 1) = false := by simp [h1]
    unfold joinedB at hr
    rw [if_neg h1] at hr
    by_cases ha : a < 2 <;> by_cases hb : b < 2
    · have e1 : decide (a < 2) = true := decide_eq_true ha
      have e2 : decide (b < 2) = true := decide_eq_true hb
      have e3 : decide (2 ≤ a) = false := decide_eq_false (by omega)
      have e4 : decide (2 ≤ b) = false := decide_eq_false (by omega)
      obtain rfl : r = false := by rw [hr, e1, e2, e3, e4]; rfl
      have e5 : decide (b ≥ 2) = false := e4
      have e6 : decide (a ≥ 2) = false := e3
      clear hr
      go_enter Try.func53, Try.ntmps53
      go_wp2
      go_ret
      exact ⟨rfl, rfl⟩
    · have e1 : decide (a < 2) = true := decide_eq_true ha
      have e2 : decide (b < 2) = false := decide_eq_false hb
      have e3 : decide (2 ≤ a) = false := decide_eq_false (by omega)
      have e4 : decide (2 ≤ b) = true := decide_eq_true (by omega)
      obtain rfl : r = true := by rw [hr, e1, e2, e3, e4]; rfl
      have e5 : decide (b ≥ 2) = true := e4
      have e6 : decide (a ≥ 2) = false := e3
      clear hr
      go_enter Try.func53, Try.ntmps53
      go_wp2
      go_ret
      exact ⟨rfl, rfl⟩
    · have e1 : decide (a < 2) = false := decide_eq_false ha
      have e2 : decide (b < 2) = true := decide_eq_true hb
      have e3 : decide (2 ≤ a) = true := decide_eq_true (by omega)
      have e4 : decide (2 ≤ b) = false := decide_eq_false (by omega)
      obtain rfl : r = true := by rw [hr, e1, e2, e3, e4]; rfl
      have e5 : decide (b ≥ 2) = false := e4
      have e6 : decide (a ≥ 2) = true := e3
      clear hr
      go_enter Try.func53, Try.ntmps53
      go_wp2
      go_ret
      exact ⟨rfl, rfl⟩
    · have e1 : decide (a < 2) = false := decide_eq_false ha
      have e2 : decide (b < 2) = false := decide_eq_false hb
      have e3 : decide (2 ≤ a) = true := decide_eq_true (by omega)
      have e4 : decide (2 ≤ b) = true := decide_eq_true (by omega)
      obtain rfl : r = false := by rw [hr, e1, e2, e3, e4]; rfl
      have e5 : decide (b ≥ 2) = true := e4
      have e6 : decide (a ≥ 2) = true := e3
      clear hr
      go_enter Try.func53, Try.ntmps53
      go_wp2
      go_ret
      exact ⟨rfl, rfl⟩
end Go.Proofs.Ytlebimolgienkaa
namespace Go.Proofs.Ytlebimolgienkaa
open Go.RowKit Go.Lib

theorem RowB.kept {S : Nat → Prop} {w w' : World} {g n : Nat} {c : Nat → Bool} (h : RowB w g n c) (hk : KeptBut S w w') (hs : ¬ S g) : RowB w' g n c :=
  ⟨Nat.lt_of_lt_of_le h.1 hk.size, fun j hj => ⟨(hk.cell (p := ⟨g, j, none⟩) h.1 hs).trans (h.2 j hj).1, (hk.frozen (p := ⟨g, j, none⟩) h.1 hs).trans (h.2 j hj).2⟩⟩
end Go.Proofs.Ytlebimolgienkaa
namespace Go.Proofs.Ytlebimolgienkaa
open Go.RowKit Go.Lib

/-- Of the first i that are reached, all neighbours in l are reached. -/
def ClosedG (es : List (Int × Int)) (l got : List Int) (i : Nat) : Prop := ∀ j (h : j < got.length), j < i → ∀ v, Adj es got[j] v → v ∈ l → v ∈ got
theorem ClosedG.put {es : List (Int × Int)} {l got : List Int} {i : Nat} (h : ClosedG es l got i) (hi : i ≤ got.length) (y : Int) : ClosedG es l (got ++ [y]) i := fun j hj hji v ha hv => by
  have hj' : j < got.length := by omega
  rw [List.getElem_append_left hj'] at ha
  exact List.mem_append_left _ (h j hj' hji v ha hv)
theorem ClosedG.next {es : List (Int × Int)} {l got : List Int} {i : Nat} {x : Int} (h : ClosedG es l got i) (hx : got[i]? = some x) (hn : ∀ v, Adj es x v → v ∈ l → v ∈ got) : ClosedG es l got (i + 1) := fun j hj hji v ha hv => by
  by_cases e : j < i
  · exact h j hj e v ha hv
  · obtain rfl : j = i := by omega
    rw [List.getElem?_eq_getElem hj] at hx
    cases hx
    exact hn v ha hv
/-- What is reached, in memory. -/
structure GotSt (D : Nat) (w2 wz : World) (es : List (Int × Int)) (l : List Int) (x0 : Int) (i : Nat) (v : Value) (got : List Int) : Prop where
  own : wz.ownsRow D 3 1 v got.length (got.map (Value.int .i64))
  gt : Got es l x0 got
  cls : ClosedG es l got i
  bel : Below D w2 wz
/-- While the neighbours of the next one are looked at. -/
structure NearSt (D : Nat) (w2 wz : World) (es : List (Int × Int)) (l : List Int) (x0 : Int) (i : Nat) (x : Int) (a : Option Addr) (L : List Int) (j : Nat) (v : Value) (got : List Int) : Prop where
  st : GotSt D w2 wz es l x0 i v got
  lt : i < got.length
  at_ : got[i]? = some x
  row : IAt wz a L
  off : ∀ g o, a = some ⟨g, o, none⟩ → 0 < L.length → v.ownBlock ≠ some g
  all : ∀ r (h : r < L.length), r < j → L[r] ∈ l → L[r] ∈ got
theorem NearSt.put {D : Nat} {w2 wz w4 : World} {es : List (Int × Int)} {l : List Int} {x0 : Int} {i : Nat} {x : Int} {a : Option Addr} {L : List Int} {j : Nat} {v v4 : Value} {got : List Int} {X : Obj} (h : NearSt D w2 wz es l x0 i x a L j v got) (hj : j < L.length) (hD : D ≤ w2.heap.size)
    (ha : Adj es x L[j]) (hl : L[j] ∈ l) (hn : L[j] ∉ got) (ho : w4.ownsRow D 3 1 v4 (got.length + 1) (got.map (Value.int .i64) ++ [.int .i64 L[j]])) (hg : (wz.alloc X).grownBy w4 v.ownBlock) (hat : v4.ownBlock = v.ownBlock ∨ v4.ownBlock = some (wz.alloc X).heap.size) :
    NearSt D w2 w4 es l x0 i x a L (j + 1) v4 (got ++ [L[j]]) := by
  have hxg : x ∈ got := List.mem_of_getElem? h.at_
  have hk : KeptBut (fun k => some k = v.ownBlock) wz w4 := (kept_alloc wz X _).trans (KeptBut.of_grown hg)
  have hDz := Nat.le_trans hD h.st.bel.size
  refine ⟨⟨by rw [List.length_append, List.map_append]; exact ho, h.st.gt.put hxg ha hl hn, h.st.cls.put (Nat.le_of_lt h.lt) _, ?_⟩, by rw [List.length_append]; exact Nat.lt_of_lt_of_le h.lt (Nat.le_add_right _ _), by rw [List.getElem?_append_left h.lt]; exact h.at_, h.row.kept hk (fun g o e h0 e2 => h.off g o e h0 e2.symm), fun g o e h0 e2 => ?_, fun r hr hrj hrl => ?_⟩
  · exact h.st.bel.trans (hk.below hDz (fun k _ e => (h.st.own.lt k e.symm).1))
  · rcases hat with h1 | h1
    · exact h.off g o e h0 (h1.symm.trans e2)
    · obtain ⟨g', o', e', hg', _⟩ := h.row h0
      rw [e] at e'
      cases e'
      rw [h1] at e2
      simp at e2
      omega
  · by_cases e : r < j
    · exact List.mem_append_left _ (h.all r hr e hrl)
    · obtain rfl : r = j := by omega
      simp
theorem NearSt.end {n : Int} {D : Nat} {w2 wz : World} {es : List (Int × Int)} {l : List Int} {x0 : Int} {i : Nat} {x : Int} {a : Option Addr} {L : List Int} {v : Value} {got : List Int} (h : NearSt D w2 wz es l x0 i x a L L.length v got) (hR : RightG n es) (hL : L = nbL x es) : GotSt D w2 wz es l x0 (i + 1) v got :=
  ⟨h.st.own, h.st.gt, h.st.cls.next h.at_ (fun y hy hyl => by
    have : y ∈ L := by rw [hL]; exact (nbL_right hR).2 hy
    obtain ⟨r, hr, rfl⟩ := List.getElem_of_mem this
    exact h.all r hr hr hyl), h.st.bel⟩

end Go.Proofs.Ytlebimolgienkaa
namespace Go.Proofs.Ytlebimolgienkaa
open Go.RowKit Go.Lib

/-- The sets meet as they must, as far as it is looked. -/
def MeetTo (k : Int) (es : List (Int × Int)) (Ss : List (List Int)) (x y : Nat) : Prop := ∀ a b : Nat, b < a → (a < x ∨ (a = x ∧ b < y)) → ((b : Int), (a : Int)) ∈ patE k → Touch es (Ss.getD a []) (Ss.getD b [])
theorem MeetTo.end {k : Int} {es : List (Int × Int)} {Ss : List (List Int)} (h : MeetTo k es Ss (patN k) 0) : ∀ e ∈ patE k, Touch es (setAt Ss e.1) (setAt Ss e.2) := fun e he => by
  obtain ⟨h1, h2, h3⟩ := patE_in he
  have := h e.2.toNat e.1.toNat (by omega) (Or.inl (by omega)) (by
    rw [show ((e.1.toNat : Nat) : Int) = e.1 by omega, show ((e.2.toNat : Nat) : Int) = e.2 by omega]; exact he)
  exact this.symm
end Go.Proofs.Ytlebimolgienkaa
namespace Go.Proofs.Ytlebimolgienkaa

/-- a without the bits of b. -/
def andN (a b : Nat) : Nat := a ^^^ (a &&& b)
theorem andN_bit (a b i : Nat) : (andN a b).testBit i = (a.testBit i && !b.testBit i) := by
  unfold andN
  rw [Nat.testBit_xor, Nat.testBit_and]
  cases a.testBit i <;> cases b.testBit i <;> rfl
/-- A row without a vertex's bit. -/
def lessX (v x : Nat) : Nat := (x &&& (2 ^ v - 1)) ||| ((x >>> (v + 1)) <<< v)
theorem lessX_bit (v x b : Nat) : (lessX v x).testBit b = x.testBit (upN v b) := by
  unfold lessX upN
  rw [Nat.testBit_or, Nat.testBit_and, Nat.testBit_two_pow_sub_one, Nat.testBit_shiftLeft, Nat.testBit_shiftRight]
  by_cases h : b < v
  · rw [if_pos h]; simp [h, Nat.not_le.2 h]
  · rw [if_neg h]
    have : v ≤ b := by omega
    simp [h, this]
    rw [show v + 1 + (b - v) = b + 1 by omega]
/-- The rows without a vertex. -/
def lessR (r : List Nat) (v : Nat) : List Nat := (r.eraseIdx v).map (lessX v)
/-- The rows when b has become a, b itself being there still. -/
def mergO (r : List Nat) (a b : Nat) : List Nat := (List.range r.length).map (fun i => if i = a then andN (r.getD a 0 ||| r.getD b 0) (2 ^ a ||| 2 ^ b) else if (r.getD i 0).testBit b = true then r.getD i 0 ||| 2 ^ a else r.getD i 0)
def mergR (r : List Nat) (a b : Nat) : List Nat := lessR (mergO r a b) b
/-- All but two of five bits. -/
def bothN (p q : Nat) : Nat := andN 31 (2 ^ p ||| 2 ^ q)
/-- Is the pattern there, with no vertex to spare? -/
def isN (r : List Nat) (k : Int) : Bool :=
  if k = 1 then (r.getD 0 0 ||| 1 == 15) && (r.getD 1 0 ||| 2 == 15) && (r.getD 2 0 ||| 4 == 15) && (r.getD 3 0 ||| 8 == 15)
  else (List.range 5).any (fun p => (List.range p).any (fun q => (r.getD p 0 &&& bothN p q == bothN p q) && (r.getD q 0 &&& bothN p q == bothN p q)))
/-- Does one come from these rows to the pattern? -/
def comesN : Nat → List Nat → Int → Bool
  | 0, r, k => r.length == patN k && isN r k
  | f + 1, r, k => if r.length ≤ patN k then (r.length == patN k && isN r k) else
      ((List.range r.length).any (fun a => (List.range r.length).any (fun b => decide (a < b) && (r.getD a 0).testBit b && comesN f (mergR r a b) k)) || (List.range r.length).any (fun v => comesN f (lessR r v) k))
/-- The rows are those of a graph. -/
structure RowsOf (r : List Nat) (n : Nat) (A : Nat → Nat → Prop) : Prop where
  len : r.length = n
  bit : ∀ a b, a < n → ((r.getD a 0).testBit b = true ↔ b < n ∧ A a b)
  symm : ∀ a b, A a b → A b a
  irr : ∀ a, ¬ A a a
theorem getD_map0 (l : List Nat) (g : Nat → Nat) {i : Nat} (h : i < l.length) : (l.map g).getD i 0 = g (l.getD i 0) := by
  rw [List.getD_eq_getElem?_getD, List.getD_eq_getElem?_getD, List.getElem?_map, List.getElem?_eq_getElem h]; rfl
theorem erase_at {l : List Nat} {v i : Nat} : (l.eraseIdx v).getD i 0 = l.getD (upN v i) 0 := by
  rw [List.getD_eq_getElem?_getD, List.getD_eq_getElem?_getD, List.getElem?_eraseIdx]
  unfold upN
  split <;> rfl
theorem lessR_at {r : List Nat} {v i : Nat} (hv : v < r.length) (hi : i + 1 < r.length) : (lessR r v).getD i 0 = lessX v (r.getD (upN v i) 0) := by
  unfold lessR
  rw [getD_map0 _ _ (by rw [List.length_eraseIdx_of_lt hv]; omega), erase_at]
theorem lessR_len {r : List Nat} {v : Nat} (hv : v < r.length) : (lessR r v).length = r.length - 1 := by
  unfold lessR; rw [List.length_map, List.length_eraseIdx_of_lt hv]
theorem upN_lt {n v i : Nat} (hi : i + 1 < n) : upN v i < n := by unfold upN; split <;> omega
theorem upN_ne (v i : Nat) : upN v i ≠ v := by unfold upN; split <;> omega
theorem upN_inj {v i j : Nat} (h : upN v i = upN v j) : i = j := by unfold upN at h; split at h <;> split at h <;> omega
theorem upN_iff {n v b : Nat} (hv : v < n) : upN v b < n ↔ b < n - 1 := by unfold upN; split <;> omega
/-- Of one vertex fewer. -/
theorem RowsOf.less {r : List Nat} {n v : Nat} {A : Nat → Nat → Prop} (h : RowsOf r n A) (hv : v < n) : RowsOf (lessR r v) (n - 1) (fun a b => A (upN v a) (upN v b)) := by
  have hl := h.len
  refine ⟨by rw [lessR_len (by omega)]; omega, fun a b ha => ?_, fun a b => h.symm _ _, fun a => h.irr _⟩
  rw [lessR_at (by omega) (by omega), lessX_bit, h.bit _ _ (upN_lt (by omega)), upN_iff hv]
theorem mergO_len (r : List Nat) (a b : Nat) : (mergO r a b).length = r.length := by unfold mergO; simp
theorem mergO_at {r : List Nat} {a b i : Nat} (h : i < r.length) : (mergO r a b).getD i 0 = if i = a then andN (r.getD a 0 ||| r.getD b 0) (2 ^ a ||| 2 ^ b) else if (r.getD i 0).testBit b = true then r.getD i 0 ||| 2 ^ a else r.getD i 0 := by
  unfold mergO
  rw [getD_map0 _ _ (by simpa using h), List.getD_eq_getElem?_getD, List.getElem?_range h]; rfl
/-- Neighbours, when b has become a. -/
def MA (A : Nat → Nat → Prop) (a b x y : Nat) : Prop := (x = a ∧ y ≠ a ∧ (A a y ∨ A b y)) ∨ (y = a ∧ x ≠ a ∧ (A a x ∨ A b x)) ∨ (x ≠ a ∧ y ≠ a ∧ A x y)
theorem MA.symm {A : Nat → Nat → Prop} (hs : ∀ a b, A a b → A b a) {a b x y : Nat} (h : MA A a b x y) : MA A a b y x := by
  rcases h with ⟨h1, h2, h3⟩ | ⟨h1, h2, h3⟩ | ⟨h1, h2, h3⟩
  · exact Or.inr (Or.inl ⟨h1, h2, h3⟩)
  · exact Or.inl ⟨h1, h2, h3⟩
  · exact Or.inr (Or.inr ⟨h2, h1, hs _ _ h3⟩)
/-- Of two that have become one. -/
theorem RowsOf.merge {r : List Nat} {n a b : Nat} {A : Nat → Nat → Prop} (h : RowsOf r n A) (hab : a < b) (hb : b < n) : RowsOf (mergR r a b) (n - 1) (fun x y => MA A a b (upN b x) (upN b y)) := by
  have hl := h.len
  refine ⟨by unfold mergR; rw [lessR_len (by rw [mergO_len]; omega), mergO_len]; omega, fun x y hx => ?_, fun x y => MA.symm h.symm, fun x hm => ?_⟩
  · unfold mergR
    rw [lessR_at (by rw [mergO_len]; omega) (by rw [mergO_len]; omega), lessX_bit]
    have hux : upN b x < n := upN_lt (by omega)
    have hxb := upN_ne b x
    have hyb := upN_ne b y
    rw [← upN_iff (n := n) (b := y) hb]
    generalize upN b x = X at hux hxb ⊢
    generalize upN b y = Y at hyb ⊢
    rw [mergO_at (by omega)]
    by_cases e : X = a
    · subst e
      rw [if_pos rfl, andN_bit, Nat.testBit_or, Nat.testBit_or, Nat.testBit_two_pow, Nat.testBit_two_pow]
      rw [Bool.and_eq_true, Bool.or_eq_true, h.bit _ _ hux, h.bit _ _ hb]
      unfold MA
      by_cases e2 : Y = X
      · subst e2; simp
      · simp [e2, Ne.symm e2, Ne.symm hyb]
        constructor
        · rintro (⟨h1, h2⟩ | ⟨h1, h2⟩)
          · exact ⟨h1, Or.inl h2⟩
          · exact ⟨h1, Or.inr h2⟩
        · rintro ⟨h1, h2 | h2⟩
          · exact Or.inl ⟨h1, h2⟩
          · exact Or.inr ⟨h1, h2⟩
    · rw [if_neg e]
      have hB := h.bit X b hux
      have hY := h.bit X Y hux
      unfold MA
      by_cases e2 : (r.getD X 0).testBit b = true
      · rw [if_pos e2, Nat.testBit_or, Nat.testBit_two_pow, Bool.or_eq_true, hY]
        have hXb := (hB.1 e2).2
        by_cases e3 : Y = a
        · subst e3
          simp [e]
          exact ⟨by omega, Or.inr (h.symm _ _ hXb)⟩
        · simp [e, e3, Ne.symm e3]
      · rw [if_neg e2, hY]
        have hXb : ¬ A X b := fun k => e2 (hB.2 ⟨hb, k⟩)
        by_cases e3 : Y = a
        · subst e3
          simp [e]
          intro _
          constructor
          · intro h2; exact Or.inl (h.symm _ _ h2)
          · rintro (h2 | h2)
            · exact h.symm _ _ h2
            · exact absurd (h.symm _ _ h2) hXb
        · simp [e, e3]
  · rcases hm with ⟨h1, h2, _⟩ | ⟨h1, h2, _⟩ | ⟨_, _, h3⟩
    · exact h2 h1
    · exact h2 h1
    · exact h.irr _ h3
/-- A model, told by each vertex's place. -/
structure ModA (n : Nat) (A : Nat → Nat → Prop) (k : Int) (f : Nat → Nat) : Prop where
  full : ∀ i, i < patN k → ∃ v, v < n ∧ f v = i
  one : ∀ u v, u < n → v < n → f u = f v → f u < patN k → ∀ S : Nat → Prop, S u → (∀ x y, S x → x < n → y < n → f x = f u → f y = f u → A x y → S y) → S v
  meet : ∀ e ∈ patE k, ∃ u v, u < n ∧ v < n ∧ (f u : Int) = e.1 ∧ (f v : Int) = e.2 ∧ A u v
theorem ModA.less {n v : Nat} {A : Nat → Nat → Prop} {k : Int} {f : Nat → Nat} (h : ModA n A k f) (hv : v < n) (hf : patN k ≤ f v) : ModA (n - 1) (fun a b => A (upN v a) (upN v b)) k (fun i => f (upN v i)) := by
  have hdn : ∀ x, x < n → x ≠ v → ∃ i, i < n - 1 ∧ upN v i = x := fun x hx hne => by
    by_cases e : x < v
    · exact ⟨x, by omega, by unfold upN; rw [if_pos e]⟩
    · exact ⟨x - 1, by omega, by unfold upN; rw [if_neg (by omega)]; omega⟩
  refine ⟨fun i hi => ?_, fun u w hu hw he hp S h0 hs => ?_, fun e he => ?_⟩
  · obtain ⟨x, hx, e⟩ := h.full i hi
    obtain ⟨j, hj, e2⟩ := hdn x hx (fun e' => by subst e'; omega)
    exact ⟨j, hj, by simp only [e2, e]⟩
  · have := h.one (upN v u) (upN v w) (upN_lt (by omega)) (upN_lt (by omega)) he hp (fun z => ∃ i, upN v i = z ∧ S i) ⟨u, rfl, h0⟩ (fun x y hx hxn hyn hfx hfy ha => by
      obtain ⟨i, rfl, hi⟩ := hx
      obtain ⟨j, hj, rfl⟩ := hdn y hyn (fun e' => by have hp' : f (upN v u) < patN k := hp; rw [e'] at hfy; omega)
      exact ⟨j, rfl, hs i j hi ((upN_iff hv).1 hxn) hj hfx hfy ha⟩)
    obtain ⟨i, e, hi⟩ := this
    rw [← upN_inj e]; exact hi
  · obtain ⟨u, w, hu, hw, e1, e2, ha⟩ := h.meet e he
    have hpi := patE_in he
    obtain ⟨i, hi, rfl⟩ := hdn u hu (fun e' => by subst e'; omega)
    obtain ⟨j, hj, rfl⟩ := hdn w hw (fun e' => by subst e'; omega)
    exact ⟨i, j, hi, hj, e1, e2, ha⟩
theorem ModA.merge {n a b : Nat} {A : Nat → Nat → Prop} {k : Int} {f : Nat → Nat} (h : ModA n A k f) (hs : ∀ x y, A x y → A y x) (hirr : ∀ x, ¬ A x x) (hab : a < b) (hb : b < n) (hf : f a = f b) : ModA (n - 1) (fun x y => MA A a b (upN b x) (upN b y)) k (fun i => f (upN b i)) := by
  have hdn : ∀ x, x < n → ∃ i, i < n - 1 ∧ upN b i = (if x = b then a else x) := fun x hx => by
    by_cases e : x = b
    · rw [if_pos e]; exact ⟨a, by omega, by unfold upN; rw [if_pos hab]⟩
    · rw [if_neg e]
      by_cases e2 : x < b
      · exact ⟨x, by omega, by unfold upN; rw [if_pos e2]⟩
      · exact ⟨x - 1, by omega, by unfold upN; rw [if_neg (by omega)]; omega⟩
  have hfr : ∀ x, f (if x = b then a else x) = f x := fun x => by by_cases e : x = b; (· rw [if_pos e, hf, e]); (· rw [if_neg e])
  have hma : ∀ x y, A x y → (if x = b then a else x) = (if y = b then a else y) ∨ MA A a b (if x = b then a else x) (if y = b then a else y) := fun x y hxy => by
    by_cases ex : x = b
    · subst ex
      rw [if_pos rfl]
      by_cases ey : y = x
      · rw [ey] at hxy; exact absurd hxy (hirr _)
      · rw [if_neg ey]
        by_cases ea : y = a
        · exact Or.inl ea.symm
        · exact Or.inr (Or.inl ⟨rfl, ea, Or.inr hxy⟩)
    · rw [if_neg ex]
      by_cases ey : y = b
      · subst ey
        rw [if_pos rfl]
        by_cases ea : x = a
        · exact Or.inl ea
        · exact Or.inr (Or.inr (Or.inl ⟨rfl, ea, Or.inr (hs _ _ hxy)⟩))
      · rw [if_neg ey]
        by_cases ea : x = a
        · subst ea
          exact Or.inr (Or.inl ⟨rfl, fun e => hirr x (e ▸ hxy), Or.inl hxy⟩)
        · by_cases eb : y = a
          · subst eb
            exact Or.inr (Or.inr (Or.inl ⟨rfl, ea, Or.inl (hs _ _ hxy)⟩))
          · exact Or.inr (Or.inr (Or.inr ⟨ea, eb, hxy⟩))
  refine ⟨fun i hi => ?_, fun u w hu hw he hp S h0 hst => ?_, fun e he => ?_⟩
  · obtain ⟨x, hx, e⟩ := h.full i hi
    obtain ⟨j, hj, e2⟩ := hdn x hx
    exact ⟨j, hj, by simp only [e2, hfr, e]⟩
  · have := h.one (upN b u) (upN b w) (upN_lt (by omega)) (upN_lt (by omega)) he hp (fun z => ∃ i, i < n - 1 ∧ upN b i = (if z = b then a else z) ∧ S i) ⟨u, hu, by rw [if_neg (upN_ne b u)], h0⟩ (fun x y hx hxn hyn hfx hfy ha => by
      obtain ⟨i, hin, ei, hi⟩ := hx
      obtain ⟨j, hj, ej⟩ := hdn y hyn
      rcases hma x y ha with h1 | h1
      · refine ⟨i, hin, by rw [ei, h1], hi⟩
      · refine ⟨j, hj, ej, hst i j hi hin hj (by simp only [ei, hfr, hfx]) (by simp only [ej, hfr, hfy]) ?_⟩
        rw [ei, ej]; exact h1)
    obtain ⟨i, _, e, hi⟩ := this
    rw [if_neg (upN_ne b w)] at e
    rw [← upN_inj e]; exact hi
  · obtain ⟨u, w, hu, hw, e1, e2, ha⟩ := h.meet e he
    have hpi := patE_in he
    obtain ⟨i, hi, ei⟩ := hdn u hu
    obtain ⟨j, hj, ej⟩ := hdn w hw
    refine ⟨i, j, hi, hj, by simp only [ei, hfr, e1], by simp only [ej, hfr, e2], ?_⟩
    rcases hma u w ha with h1 | h1
    · exfalso
      have := congrArg f h1
      rw [hfr, hfr] at this
      omega
    · rw [ei, ej]; exact h1
/-- Two of one set that are neighbours, or one that is in none: where there are more vertices than the pattern has. -/
theorem ModA.step {n : Nat} {A : Nat → Nat → Prop} {k : Int} {f : Nat → Nat} (h : ModA n A k f) (hs : ∀ x y, A x y → A y x) (hirr : ∀ x, ¬ A x x) (hn : patN k < n) : (∃ v, v < n ∧ patN k ≤ f v) ∨ ∃ a b, a < b ∧ b < n ∧ A a b ∧ f a = f b := by
  by_cases hall : ∃ v, v < n ∧ patN k ≤ f v
  · exact Or.inl hall
  · refine Or.inr ?_
    have hlt : ∀ v, v < n → f v < patN k := fun v hv => Nat.lt_of_not_le (fun e => hall ⟨v, hv, e⟩)
    have hex : ∃ u v, u < n ∧ v < n ∧ u ≠ v ∧ f u = f v := by
      by_cases hinj : ∃ u v, u < n ∧ v < n ∧ u ≠ v ∧ f u = f v
      · exact hinj
      · exfalso
        have hnd : ((List.range n).map (fun i => (f i : Int))).Nodup := by
          rw [List.Nodup, List.pairwise_map, List.pairwise_iff_getElem]
          intro i j hi hj hij e
          simp at hi hj
          rw [List.getElem_range, List.getElem_range] at e
          exact hinj ⟨i, j, hi, hj, by omega, by omega⟩
        have := len_le_subI hnd (b := (List.range (patN k)).map (fun i : Nat => (i : Int))) (fun x hx => by
          obtain ⟨i, hi, rfl⟩ := List.mem_map.1 hx
          exact List.mem_map.2 ⟨f i, by rw [List.mem_range] at hi ⊢; exact hlt i hi, rfl⟩)
        simp at this
        omega
    obtain ⟨u, v, hu, hv, hne, hf⟩ := hex
    have : ∃ x, x < n ∧ A u x ∧ f x = f u := by
      by_cases hx : ∃ x, x < n ∧ A u x ∧ f x = f u
      · exact hx
      · exfalso
        have := h.one u v hu hv hf (hlt u hu) (fun z => z = u) rfl (fun x y hx' _ hyn _ hfy ha => by
          subst hx'; exact absurd ⟨y, hyn, ha, hfy⟩ hx)
        exact hne this.symm
    obtain ⟨x, hx, ha, hfx⟩ := this
    rcases Nat.lt_or_gt_of_ne (fun e : u = x => hirr u (by rw [← e] at ha; exact ha)) with h1 | h1
    · exact ⟨u, x, h1, hx, ha, hfx.symm⟩
    · exact ⟨x, u, h1, hu, hs _ _ ha, hfx⟩
theorem ModA.ge {n : Nat} {A : Nat → Nat → Prop} {k : Int} {f : Nat → Nat} (h : ModA n A k f) : patN k ≤ n := by
  have hnd0 : ((List.range (patN k)).map (fun i : Nat => (i : Int))).Nodup := by
    rw [List.Nodup, List.pairwise_map]
    exact List.nodup_range.imp (fun hne e => hne (by omega))
  have := len_le_subI hnd0 (b := (List.range n).map (fun i => (f i : Int))) (fun x hx => by
    obtain ⟨i, hi, rfl⟩ := List.mem_map.1 hx
    obtain ⟨v, hv, e⟩ := h.full i (by rw [List.mem_range] at hi; exact hi)
    exact List.mem_map.2 ⟨v, List.mem_range.2 hv, by rw [e]⟩)
  simpa using this
/-- No vertex to spare: each set is one vertex. -/
theorem ModA.single {n : Nat} {A : Nat → Nat → Prop} {k : Int} {f : Nat → Nat} (h : ModA n A k f) (hn : n = patN k) : (∀ v, v < n → f v < n) ∧ ∀ u v, u < n → v < n → f u = f v → u = v := by
  have hnd0 : ((List.range n).map (fun i : Nat => (i : Int))).Nodup := by
    rw [List.Nodup, List.pairwise_map]
    exact List.nodup_range.imp (fun hne e => hne (by omega))
  have key : ∀ u, u < n → ∀ i, i < n → (∃ v, v < n ∧ v ≠ u ∧ f v = i) ∨ f u = i := fun u hu i hi => by
    obtain ⟨v, hv, e⟩ := h.full i (by omega)
    by_cases e2 : v = u
    · exact Or.inr (e2 ▸ e)
    · exact Or.inl ⟨v, hv, e2, e⟩
  have hno : ∀ u, u < n → ¬ ∀ i, i < n → ∃ v, v < n ∧ v ≠ u ∧ f v = i := fun u hu hall => by
    have := len_le_subI hnd0 (b := ((List.range n).erase u).map (fun i => (f i : Int))) (fun x hx => by
      obtain ⟨i, hi, rfl⟩ := List.mem_map.1 hx
      obtain ⟨v, hv, hne, e⟩ := hall i (by rw [List.mem_range] at hi; exact hi)
      exact List.mem_map.2 ⟨v, (List.mem_erase_of_ne hne).2 (List.mem_range.2 hv), by rw [e]⟩)
    rw [List.length_map, List.length_map, List.length_range, List.length_erase_of_mem (List.mem_range.2 hu), List.length_range] at this
    omega
  constructor
  · intro v hv
    apply Classical.byContradiction
    intro hlt
    exact hno v hv (fun i hi => (key v hv i hi).resolve_right (fun e => hlt (by omega)))
  · intro u v hu hv e
    apply Classical.byContradiction
    intro hne
    refine hno u hu (fun i hi => ?_)
    rcases key u hu i hi with h1 | h1
    · exact h1
    · exact ⟨v, hv, fun e' => hne e'.symm, by omega⟩
theorem bit_lt {x n : Nat} (h : ∀ b, x.testBit b = true → b < n) (b : Nat) (hb : n ≤ b) : x.testBit b = false := by
  cases e : x.testBit b with
  | false => rfl
  | true => have := h b e; omega
theorem isN_of {r : List Nat} {n : Nat} {A : Nat → Nat → Prop} {k : Int} {f : Nat → Nat} (hr : RowsOf r n A) (hk : k = 1 ∨ k = 2) (h : ModA n A k f) (hn : n = patN k) : isN r k = true := by
  obtain ⟨hlt, hinj⟩ := h.single hn
  rcases hk with rfl | rfl
  · have hn4 : n = 4 := hn
    subst hn4
    have hall : ∀ u v, u < 4 → v < 4 → u ≠ v → A u v := fun u v hu hv hne => by
      have h1 := hlt u hu
      have h2 := hlt v hv
      have h3 : f u ≠ f v := fun e => hne (hinj u v hu hv e)
      have hp : ∀ x y : Nat, x < y → y < 4 → ((x : Int), (y : Int)) ∈ patE 1 := by
        intro x y hxy hy
        have : (x = 0 ∧ y = 1) ∨ (x = 0 ∧ y = 2) ∨ (x = 0 ∧ y = 3) ∨ (x = 1 ∧ y = 2) ∨ (x = 1 ∧ y = 3) ∨ (x = 2 ∧ y = 3) := by omega
        rcases this with ⟨rfl, rfl⟩ | ⟨rfl, rfl⟩ | ⟨rfl, rfl⟩ | ⟨rfl, rfl⟩ | ⟨rfl, rfl⟩ | ⟨rfl, rfl⟩ <;> decide
      rcases Nat.lt_or_gt_of_ne h3 with h4 | h4
      · obtain ⟨x, y, hx, hy, e1, e2, ha⟩ := h.meet _ (hp _ _ h4 h2)
        rw [hinj x u hx hu (by simp only at e1; omega), hinj y v hy hv (by simp only at e2; omega)] at ha
        exact ha
      · obtain ⟨x, y, hx, hy, e1, e2, ha⟩ := h.meet _ (hp _ _ h4 h1)
        rw [hinj x v hx hv (by simp only at e1; omega), hinj y u hy hu (by simp only at e2; omega)] at ha
        exact hr.symm _ _ ha
    have hrow : ∀ a, a < 4 → r.getD a 0 ||| 2 ^ a = 15 := fun a ha => by
      apply Nat.eq_of_testBit_eq
      intro i
      rw [Nat.testBit_or, Nat.testBit_two_pow]
      rw [show (15 : Nat) = 2 ^ 4 - 1 by rfl, Nat.testBit_two_pow_sub_one]
      by_cases hi : i < 4
      · rw [decide_eq_true hi]
        by_cases e : a = i
        · rw [decide_eq_true e]; simp
        · rw [(hr.bit a i ha).2 ⟨hi, hall a i ha hi e⟩]; rfl
      · rw [decide_eq_false hi, decide_eq_false (by omega), bit_lt (fun b hb => ((hr.bit a b ha).1 hb).1) i (by omega)]; rfl
    unfold isN
    rw [if_pos rfl]
    have h0 := hrow 0 (by omega)
    have h1 := hrow 1 (by omega)
    have h2 := hrow 2 (by omega)
    have h3 := hrow 3 (by omega)
    simp only [Nat.pow_zero, Nat.pow_one, show 2 ^ 2 = 4 by rfl, show 2 ^ 3 = 8 by rfl] at h0 h1 h2 h3
    rw [h0, h1, h2, h3]; rfl
  · have hn5 : n = 5 := hn
    subst hn5
    obtain ⟨p, hp, fp⟩ := h.full 0 (by decide)
    obtain ⟨q, hq, fq⟩ := h.full 1 (by decide)
    have hpq : p ≠ q := fun e => by subst e; omega
    have hadj : ∀ i, i < 5 → i ≠ p → i ≠ q → A p i ∧ A q i := fun i hi h1 h2 => by
      have g0 := hlt i hi
      have g1 : f i ≠ 0 := fun e => h1 (hinj i p hi hp (by omega))
      have g2 : f i ≠ 1 := fun e => h2 (hinj i q hi hq (by omega))
      have hm : ∀ x : Nat, x < 2 → ((x : Int), (f i : Int)) ∈ patE 2 := fun x hx => by
        have : (x = 0 ∨ x = 1) ∧ (f i = 2 ∨ f i = 3 ∨ f i = 4) := by omega
        obtain ⟨rfl | rfl, e | e | e⟩ := this <;> rw [e] <;> decide
      obtain ⟨x, y, hx, hy, e1, e2, ha⟩ := h.meet _ (hm 0 (by omega))
      obtain ⟨x', y', hx', hy', e1', e2', ha'⟩ := h.meet _ (hm 1 (by omega))
      rw [hinj x p hx hp (by simp only at e1; omega), hinj y i hy hi (by simp only at e2; omega)] at ha
      rw [hinj x' q hx' hq (by simp only at e1'; omega), hinj y' i hy' hi (by simp only at e2'; omega)] at ha'
      exact ⟨ha, ha'⟩
    have hb : ∀ p q, bothN p q = bothN q p := fun p q => by unfold bothN; rw [Nat.or_comm]
    have hrow : ∀ c, c < 5 → (∀ i, i < 5 → i ≠ p → i ≠ q → A c i) → (r.getD c 0 &&& bothN p q) = bothN p q := fun c hc hA => by
      apply Nat.eq_of_testBit_eq
      intro i
      rw [Nat.testBit_and]
      cases e : (bothN p q).testBit i with
      | false => simp
      | true =>
        unfold bothN at e
        rw [andN_bit, show (31 : Nat) = 2 ^ 5 - 1 by rfl, Nat.testBit_two_pow_sub_one, Nat.testBit_or, Nat.testBit_two_pow, Nat.testBit_two_pow] at e
        simp at e
        rw [(hr.bit c i hc).2 ⟨e.1, hA i e.1 (fun e' => e.2.1 e'.symm) (fun e' => e.2.2 e'.symm)⟩]; rfl
    have r1 := hrow p hp (fun i hi h1 h2 => (hadj i hi h1 h2).1)
    have r2 := hrow q hq (fun i hi h1 h2 => (hadj i hi h1 h2).2)
    unfold isN
    rw [if_neg (by decide)]
    rw [List.any_eq_true]
    rcases Nat.lt_or_gt_of_ne hpq with h1 | h1
    · refine ⟨q, List.mem_range.2 hq, ?_⟩
      rw [List.any_eq_true]
      refine ⟨p, List.mem_range.2 h1, ?_⟩
      rw [hb q p, r1, r2]; simp
    · refine ⟨p, List.mem_range.2 hp, ?_⟩
      rw [List.any_eq_true]
      refine ⟨q, List.mem_range.2 h1, ?_⟩
      rw [r1, r2]; simp
/-- Where there is a model, one comes to the pattern. -/
theorem comes_of {k : Int} (hk : k = 1 ∨ k = 2) : ∀ (fu : Nat) (r : List Nat) (n : Nat) (A : Nat → Nat → Prop) (f : Nat → Nat), RowsOf r n A → ModA n A k f → n ≤ fu + patN k → comesN fu r k = true := by
  intro fu
  induction fu with
  | zero =>
    intro r n A f hr h hn
    have hge : patN k ≤ n := ModA.ge h
    have e : n = patN k := by omega
    show (r.length == patN k && isN r k) = true
    rw [isN_of hr hk h e, hr.len, e]; simp
  | succ fu ih =>
    intro r n A f hr h hn
    have hge : patN k ≤ n := ModA.ge h
    have hl := hr.len
    show (if r.length ≤ patN k then (r.length == patN k && isN r k) else _) = true
    by_cases e : n = patN k
    · rw [if_pos (by omega), isN_of hr hk h e, hl, e]; simp
    · rw [if_neg (by omega), Bool.or_eq_true]
      rcases h.step hr.symm hr.irr (by omega) with ⟨v, hv, hf⟩ | ⟨a, b, hab, hb, ha, hf⟩
      · refine Or.inr (List.any_eq_true.2 ⟨v, List.mem_range.2 (by omega), ?_⟩)
        exact ih _ (n - 1) _ _ (hr.less hv) (h.less hv hf) (by omega)
      · refine Or.inl (List.any_eq_true.2 ⟨a, List.mem_range.2 (by omega), List.any_eq_true.2 ⟨b, List.mem_range.2 (by omega), ?_⟩⟩)
        rw [decide_eq_true hab, (hr.bit a b (by omega)).2 ⟨hb, ha⟩, ih _ (n - 1) _ _ (hr.merge hab hb) (h.merge hr.symm hr.irr hab hb hf) (by omega)]
        rfl
end Go.Proofs.Ytlebimolgienkaa
