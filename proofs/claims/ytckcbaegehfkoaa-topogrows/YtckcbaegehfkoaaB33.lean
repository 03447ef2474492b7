/-
  What a small graph comes to by deletions and contractions, as rows of bits (layer 8): where there is a model, it comes to the pattern. Pure.
  The document's patterns and what touches (layer 8).
  Rows of bits: what their operations reckon; the document's less (layer 8).
-/
import Derived.Test.YtckcbaegehfkoaaB05
import Derived.Test.YtckcbaegehfkoaaB06
import Derived.Test.YtckcbaegehfkoaaB13
import Derived.Test.YtckcbaegehfkoaaB24
namespace Go.Proofs.Ytckcbaegehfkoaa

/-- a without the bits of b. -/
def andN (a b : Nat) : Nat := a ^^^ (a &&& b)
theorem andN_bit (a b i : Nat) : (andN a b).testBit i = (a.testBit i && !b.testBit i) := by
  unfold andN
  rw [Nat.testBit_xor, Nat.testBit_and]
  cases a.testBit i <;> cases b.testBit i <;> rfl
/-- A row without a vertex's bit. -/
def lessX (v x : Nat) : Nat := (x &&& (2 ^ v - 1)) ||| ((x >>> (v + 1)) <<< v)
theorem lessX_bit (v x b : Nat) : (lessX v x).testBit b = x.testBit (upN v b) := by
  unfold lessX upN
  rw [Nat.testBit_or, Nat.testBit_and, Nat.testBit_two_pow_sub_one, Nat.testBit_shiftLeft, Nat.testBit_shiftRight]
  by_cases h : b < v
  · rw [if_pos h]; simp [h, Nat.not_le.2 h]
  · rw [if_neg h]
    have : v ≤ b := by omega
    simp [h, this]
    rw [show v + 1 + (b - v) = b + 1 by omega]
/-- The rows without a vertex. -/
def lessR (r : List Nat) (v : Nat) : List Nat := (r.eraseIdx v).map (lessX v)
/-- The rows when b has become a, b itself being there still. -/
def mergO (r : List Nat) (a b : Nat) : List Nat := (List.range r.length).map (fun i => if i = a then andN (r.getD a 0 ||| r.getD b 0) (2 ^ a ||| 2 ^ b) else if (r.getD i 0).testBit b = true then r.getD i 0 ||| 2 ^ a else r.getD i 0)
def mergR (r : List Nat) (a b : Nat) : List Nat := lessR (mergO r a b) b
/-- All but two of five bits. -/
def bothN (p q : Nat) : Nat := andN 31 (2 ^ p ||| 2 ^ q)
/-- Is the pattern there, with no vertex to spare? -/
def isN (r : List Nat) (k : Int) : Bool :=
  if k = 1 then (r.getD 0 0 ||| 1 == 15) && (r.getD 1 0 ||| 2 == 15) && (r.getD 2 0 ||| 4 == 15) && (r.getD 3 0 ||| 8 == 15)
  else (List.range 5).any (fun p => (List.range p).any (fun q => (r.getD p 0 &&& bothN p q == bothN p q) && (r.getD q 0 &&& bothN p q == bothN p q)))
/-- Does one come from these rows to the pattern? -/
def comesN : Nat → List Nat → Int → Bool
  | 0, r, k => r.length == patN k && isN r k
  | f + 1, r, k => if r.length ≤ patN k then (r.length == patN k && isN r k) else
      ((List.range r.length).any (fun a => (List.range r.length).any (fun b => decide (a < b) && (r.getD a 0).testBit b && comesN f (mergR r a b) k)) || (List.range r.length).any (fun v => comesN f (lessR r v) k))
/-- The rows are those of a graph. -/
structure RowsOf (r : List Nat) (n : Nat) (A : Nat → Nat → Prop) : Prop where
  len : r.length = n
  bit : ∀ a b, a < n → ((r.getD a 0).testBit b = true ↔ b < n ∧ A a b)
  symm : ∀ a b, A a b → A b a
  irr : ∀ a, ¬ A a a
theorem getD_map0 (l : List Nat) (g : Nat → Nat) {i : Nat} (h : i < l.length) : (l.map g).getD i 0 = g (l.getD i 0) := by
  rw [List.getD_eq_getElem?_getD, List.getD_eq_getElem?_getD, List.getElem?_map, List.getElem?_eq_getElem h]; rfl
theorem erase_at {l : List Nat} {v i : Nat} : (l.eraseIdx v).getD i 0 = l.getD (upN v i) 0 := by
  rw [List.getD_eq_getElem?_getD, List.getD_eq_getElem?_getD, List.getElem?_eraseIdx]
  unfold upN
  split <;> rfl
theorem lessR_at {r : List Nat} {v i : Nat} (hv : v < r.length) (hi : i + 1 < r.length) : (lessR r v).getD i 0 = lessX v (r.getD (upN v i) 0) := by
  unfold lessR
  rw [getD_map0 _ _ (by rw [List.length_eraseIdx_of_lt hv]; omega), erase_at]
theorem lessR_len {r : List Nat} {v : Nat} (hv : v < r.length) : (lessR r v).length = r.length - 1 := by
  unfold lessR; rw [List.length_map, List.length_eraseIdx_of_lt hv]
theorem upN_lt {n v i : Nat} (hi : i + 1 < n) : upN v i < n := by unfold upN; split <;> omega
theorem upN_ne (v i : Nat) : upN v i ≠ v := by unfold upN; split <;> omega
theorem upN_inj {v i j : Nat} (h : upN v i = upN v j) : i = j := by unfold upN at h; split at h <;> split at h <;> omega
theorem upN_iff {n v b : Nat} (hv : v < n) : upN v b < n ↔ b < n - 1 := by unfold upN; split <;> omega
/-- Of one vertex fewer. -/
theorem RowsOf.less {r : List Nat} {n v : Nat} {A : Nat → Nat → Prop} (h : RowsOf r n A) (hv : v < n) : RowsOf (lessR r v) (n - 1) (fun a b => A (upN v a) (upN v b)) := by
  have hl := h.len
  refine ⟨by rw [lessR_len (by omega)]; omega, fun a b ha => ?_, fun a b => h.symm _ _, fun a => h.irr _⟩
  rw [lessR_at (by omega) (by omega), lessX_bit, h.bit _ _ (upN_lt (by omega)), upN_iff hv]
theorem mergO_len (r : List Nat) (a b : Nat) : (mergO r a b).length = r.length := by unfold mergO; simp
theorem mergO_at {r : List Nat} {a b i : Nat} (h : i < r.length) : (mergO r a b).getD i 0 = if i = a then andN (r.getD a 0 ||| r.getD b 0) (2 ^ a ||| 2 ^ b) else if (r.getD i 0).testBit b = true then r.getD i 0 ||| 2 ^ a else r.getD i 0 := by
  unfold mergO
  rw [getD_map0 _ _ (by simpa using h), List.getD_eq_getElem?_getD, List.getElem?_range h]; rfl
/-- Neighbours, when b has become a. -/
def MA (A : Nat → Nat → Prop) (a b x y : Nat) : Prop := (x = a ∧ y ≠ a ∧ (A a y ∨ A b y)) ∨ (y = a ∧ x ≠ a ∧ (A a x ∨ A b x)) ∨ (x ≠ a ∧ y ≠ a ∧ A x y)
theorem MA.symm {A : Nat → Nat → Prop} (hs : ∀ a b, A a b → A b a) {a b x y : Nat} (h : MA A a b x y) : MA A a b y x := by
  rcases h with ⟨h1, h2, h3⟩ | ⟨h1, h2, h3⟩ | ⟨h1, h2, h3⟩
  · exact Or.inr (Or.inl ⟨h1, h2, h3⟩)
  · exact Or.inl ⟨h1, h2, h3⟩
  · exact Or.inr (Or.inr ⟨h2, h1, hs _ _ h3⟩)
/-- Of two that have become one. -/
theorem RowsOf.merge {r : List Nat} {n a b : Nat} {A : Nat → Nat → Prop} (h : RowsOf r n A) (hab : a < b) (hb : b < n) : RowsOf (mergR r a b) (n - 1) (fun x y => MA A a b (upN b x) (upN b y)) := by
  have hl := h.len
  refine ⟨by unfold mergR; rw [lessR_len (by rw [mergO_len]; omega), mergO_len]; omega, fun x y hx => ?_, fun x y => MA.symm h.symm, fun x hm => ?_⟩
  · unfold mergR
    rw [lessR_at (by rw [mergO_len]; omega) (by rw [mergO_len]; omega), lessX_bit]
    have hux : upN b x < n := upN_lt (by omega)
    have hxb := upN_ne b x
    have hyb := upN_ne b y
    rw [← upN_iff (n := n) (b := y) hb]
    generalize upN b x = X at hux hxb ⊢
    generalize upN b y = Y at hyb ⊢
    rw [mergO_at (by omega)]
    by_cases e : X = a
    · subst e
      rw [if_pos rfl, andN_bit, Nat.testBit_or, Nat.testBit_or, Nat.testBit_two_pow, Nat.testBit_two_pow]
      rw [Bool.and_eq_true, Bool.or_eq_true, h.bit _ _ hux, h.bit _ _ hb]
      unfold MA
      by_cases e2 : Y = X
      · subst e2; simp
      · simp [e2, Ne.symm e2, Ne.symm hyb]
        constructor
        · rintro (⟨h1, h2⟩ | ⟨h1, h2⟩)
          · exact ⟨h1, Or.inl h2⟩
          · exact ⟨h1, Or.inr h2⟩
        · rintro ⟨h1, h2 | h2⟩
          · exact Or.inl ⟨h1, h2⟩
          · exact Or.inr ⟨h1, h2⟩
    · rw [if_neg e]
      have hB := h.bit X b hux
      have hY := h.bit X Y hux
      unfold MA
      by_cases e2 : (r.getD X 0).testBit b = true
      · rw [if_pos e2, Nat.testBit_or, Nat.testBit_two_pow, Bool.or_eq_true, hY]
        have hXb := (hB.1 e2).2
        by_cases e3 : Y = a
        · subst e3
          simp [e]
          exact ⟨by omega, Or.inr (h.symm _ _ hXb)⟩
        · simp [e, e3, Ne.symm e3]
      · rw [if_neg e2, hY]
        have hXb : ¬ A X b := fun k => e2 (hB.2 ⟨hb, k⟩)
        by_cases e3 : Y = a
        · subst e3
          simp [e]
          intro _
          constructor
          · intro h2; exact Or.inl (h.symm _ _ h2)
          · rintro (h2 | h2)
            · exact h.symm _ _ h2
            · exact absurd (h.symm _ _ h2) hXb
        · simp [e, e3]
  · rcases hm with ⟨h1, h2, _⟩ | ⟨h1, h2, _⟩ | ⟨_, _, h3⟩
    · exact h2 h1
    · exact h2 h1
    · exact h.irr _ h3
/-- A model, told by each vertex's place. -/
structure ModA (n : Nat) (A : Nat → Nat → Prop) (k : Int) (f : Nat → Nat) : Prop where
  full : ∀ i, i < patN k → ∃ v, v < n ∧ f v = i
  one : ∀ u v, u < n → v < n → f u = f v → f u < patN k → ∀ S : Nat → Prop, S u → (∀ x y, S x → x < n → y < n → f x = f u → f y = f u → A x y → S y) → S v
  meet : ∀ e ∈ patE k, ∃ u v, u < n ∧ v < n ∧ (f u : Int) = e.1 ∧ (f v : Int) = e.2 ∧ A u v
theorem ModA.less {n v : Nat} {A : Nat → Nat → Prop} {k : Int} {f : Nat → Nat} (h : ModA n A k f) (hv : v < n) (hf : patN k ≤ f v) : ModA (n - 1) (fun a b => A (upN v a) (upN v b)) k (fun i => f (upN v i)) := by
  have hdn : ∀ x, x < n → x ≠ v → ∃ i, i < n - 1 ∧ upN v i = x := fun x hx hne => by
    by_cases e : x < v
    · exact ⟨x, by omega, by unfold upN; rw [if_pos e]⟩
    · exact ⟨x - 1, by omega, by unfold upN; rw [if_neg (by omega)]; omega⟩
  refine ⟨fun i hi => ?_, fun u w hu hw he hp S h0 hs => ?_, fun e he => ?_⟩
  · obtain ⟨x, hx, e⟩ := h.full i hi
    obtain ⟨j, hj, e2⟩ := hdn x hx (fun e' => by subst e'; omega)
    exact ⟨j, hj, by simp only [e2, e]⟩
  · have := h.one (upN v u) (upN v w) (upN_lt (by omega)) (upN_lt (by omega)) he hp (fun z => ∃ i, upN v i = z ∧ S i) ⟨u, rfl, h0⟩ (fun x y hx hxn hyn hfx hfy ha => by
      obtain ⟨i, rfl, hi⟩ := hx
      obtain ⟨j, hj, rfl⟩ := hdn y hyn (fun e' => by have hp' : f (upN v u) < patN k := hp; rw [e'] at hfy; omega)
      exact ⟨j, rfl, hs i j hi ((upN_iff hv).1 hxn) hj hfx hfy ha⟩)
    obtain ⟨i, e, hi⟩ := this
    rw [← upN_inj e]; exact hi
  · obtain ⟨u, w, hu, hw, e1, e2, ha⟩ := h.meet e he
    have hpi := patE_in he
    obtain ⟨i, hi, rfl⟩ := hdn u hu (fun e' => by subst e'; omega)
    obtain ⟨j, hj, rfl⟩ := hdn w hw (fun e' => by subst e'; omega)
    exact ⟨i, j, hi, hj, e1, e2, ha⟩
theorem ModA.merge {n a b : Nat} {A : Nat → Nat → Prop} {k : Int} {f : Nat → Nat} (h : ModA n A k f) (hs : ∀ x y, A x y → A y x) (hirr : ∀ x, ¬ A x x) (hab : a < b) (hb : b < n) (hf : f a = f b) : ModA (n - 1) (fun x y => MA A a b (upN b x) (upN b y)) k (fun i => f (upN b i)) := by
  have hdn : ∀ x, x < n → ∃ i, i < n - 1 ∧ upN b i = (if x = b then a else x) := fun x hx => by
    by_cases e : x = b
    · rw [if_pos e]; exact ⟨a, by omega, by unfold upN; rw [if_pos hab]⟩
    · rw [if_neg e]
      by_cases e2 : x < b
      · exact ⟨x, by omega, by unfold upN; rw [if_pos e2]⟩
      · exact ⟨x - 1, by omega, by unfold upN; rw [if_neg (by omega)]; omega⟩
  have hfr : ∀ x, f (if x = b then a else x) = f x := fun x => by by_cases e : x = b; (· rw [if_pos e, hf, e]); (· rw [if_neg e])
  have hma : ∀ x y, A x y → (if x = b then a else x) = (if y = b then a else y) ∨ MA A a b (if x = b then a else x) (if y = b then a else y) := fun x y hxy => by
    by_cases ex : x = b
    · subst ex
      rw [if_pos rfl]
      by_cases ey : y = x
      · rw [ey] at hxy; exact absurd hxy (hirr _)
      · rw [if_neg ey]
        by_cases ea : y = a
        · exact Or.inl ea.symm
        · exact Or.inr (Or.inl ⟨rfl, ea, Or.inr hxy⟩)
    · rw [if_neg ex]
      by_cases ey : y = b
      · subst ey
        rw [if_pos rfl]
        by_cases ea : x = a
        · exact Or.inl ea
        · exact Or.inr (Or.inr (Or.inl ⟨rfl, ea, Or.inr (hs _ _ hxy)⟩))
      · rw [if_neg ey]
        by_cases ea : x = a
        · subst ea
          exact Or.inr (Or.inl ⟨rfl, fun e => hirr x (e ▸ hxy), Or.inl hxy⟩)
        · by_cases eb : y = a
          · subst eb
            exact Or.inr (Or.inr (Or.inl ⟨rfl, ea, Or.inl (hs _ _ hxy)⟩))
          · exact Or.inr (Or.inr (Or.inr ⟨ea, eb, hxy⟩))
  refine ⟨fun i hi => ?_, fun u w hu hw he hp S h0 hst => ?_, fun e he => ?_⟩
  · obtain ⟨x, hx, e⟩ := h.full i hi
    obtain ⟨j, hj, e2⟩ := hdn x hx
    exact ⟨j, hj, by simp only [e2, hfr, e]⟩
  · have := h.one (upN b u) (upN b w) (upN_lt (by omega)) (upN_lt (by omega)) he hp (fun z => ∃ i, i < n - 1 ∧ upN b i = (if z = b then a else z) ∧ S i) ⟨u, hu, by rw [if_neg (upN_ne b u)], h0⟩ (fun x y hx hxn hyn hfx hfy ha => by
      obtain ⟨i, hin, ei, hi⟩ := hx
      obtain ⟨j, hj, ej⟩ := hdn y hyn
      rcases hma x y ha with h1 | h1
      · refine ⟨i, hin, by rw [ei, h1], hi⟩
      · refine ⟨j, hj, ej, hst i j hi hin hj (by simp only [ei, hfr, hfx]) (by simp only [ej, hfr, hfy]) ?_⟩
        rw [ei, ej]; exact h1)
    obtain ⟨i, _, e, hi⟩ := this
    rw [if_neg (upN_ne b w)] at e
    rw [← upN_inj e]; exact hi
  · obtain ⟨u, w, hu, hw, e1, e2, ha⟩ := h.meet e he
    have hpi := patE_in he
    obtain ⟨i, hi, ei⟩ := hdn u hu
    obtain ⟨j, hj, ej⟩ := hdn w hw
    refine ⟨i, j, hi, hj, by simp only [ei, hfr, e1], by simp only [ej, hfr, e2], ?_⟩
    rcases hma u w ha with h1 | h1
    · exfalso
      have := congrArg f h1
      rw [hfr, hfr] at this
      omega
    · rw [ei, ej]; exact h1
/-- Two of one set that are neighbours, or one that is in none: where there are more vertices than the pattern has. -/
theorem ModA.step {n : Nat} {A : Nat → Nat → Prop} {k : Int} {f : Nat → Nat} (h : ModA n A k f) (hs : ∀ x y, A x y → A y x) (hirr : ∀ x, ¬ A x x) (hn : patN k < n) : (∃ v, v < n ∧ patN k ≤ f v) ∨ ∃ a b, a < b ∧ b < n ∧ A a b ∧ f a = f b := by
  by_cases hall : ∃ v, v < n ∧ patN k ≤ f v
  · exact Or.inl hall
  · refine Or.inr ?_
    have hlt : ∀ v, v < n → f v < patN k := fun v hv => Nat.lt_of_not_le (fun e => hall ⟨v, hv, e⟩)
    have hex : ∃ u v, u < n ∧ v < n ∧ u ≠ v ∧ f u = f v := by
      by_cases hinj : ∃ u v, u < n ∧ v < n ∧ u ≠ v ∧ f u = f v
      · exact hinj
      · exfalso
        have hnd : ((List.range n).map (fun i => (f i : Int))).Nodup := by
          rw [List.Nodup, List.pairwise_map, List.pairwise_iff_getElem]
          intro i j hi hj hij e
          simp at hi hj
          rw [List.getElem_range, List.getElem_range] at e
          exact hinj ⟨i, j, hi, hj, by omega, by omega⟩
        have := len_le_subI hnd (b := (List.range (patN k)).map (fun i : Nat => (i : Int))) (fun x hx => by
          obtain ⟨i, hi, rfl⟩ := List.mem_map.1 hx
          exact List.mem_map.2 ⟨f i, by rw [List.mem_range] at hi ⊢; exact hlt i hi, rfl⟩)
        simp at this
        omega
    obtain ⟨u, v, hu, hv, hne, hf⟩ := hex
    have : ∃ x, x < n ∧ A u x ∧ f x = f u := by
      by_cases hx : ∃ x, x < n ∧ A u x ∧ f x = f u
      · exact hx
      · exfalso
        have := h.one u v hu hv hf (hlt u hu) (fun z => z = u) rfl (fun x y hx' _ hyn _ hfy ha => by
          subst hx'; exact absurd ⟨y, hyn, ha, hfy⟩ hx)
        exact hne this.symm
    obtain ⟨x, hx, ha, hfx⟩ := this
    rcases Nat.lt_or_gt_of_ne (fun e : u = x => hirr u (by rw [← e] at ha; exact ha)) with h1 | h1
    · exact ⟨u, x, h1, hx, ha, hfx.symm⟩
    · exact ⟨x, u, h1, hu, hs _ _ ha, hfx⟩
theorem ModA.ge {n : Nat} {A : Nat → Nat → Prop} {k : Int} {f : Nat → Nat} (h : ModA n A k f) : patN k ≤ n := by
  have hnd0 : ((List.range (patN k)).map (fun i : Nat => (i : Int))).Nodup := by
    rw [List.Nodup, List.pairwise_map]
    exact List.nodup_range.imp (fun hne e => hne (by omega))
  have := len_le_subI hnd0 (b := (List.range n).map (fun i => (f i : Int))) (fun x hx => by
    obtain ⟨i, hi, rfl⟩ := List.mem_map.1 hx
    obtain ⟨v, hv, e⟩ := h.full i (by rw [List.mem_range] at hi; exact hi)
    exact List.mem_map.2 ⟨v, List.mem_range.2 hv, by rw [e]⟩)
  simpa using this
/-- No vertex to spare: each set is one vertex. -/
theorem ModA.single {n : Nat} {A : Nat → Nat → Prop} {k : Int} {f : Nat → Nat} (h : ModA n A k f) (hn : n = patN k) : (∀ v, v < n → f v < n) ∧ ∀ u v, u < n → v < n → f u = f v → u = v := by
  have hnd0 : ((List.range n).map (fun i : Nat => (i : Int))).Nodup := by
    rw [List.Nodup, List.pairwise_map]
    exact List.nodup_range.imp (fun hne e => hne (by omega))
  have key : ∀ u, u < n → ∀ i, i < n → (∃ v, v < n ∧ v ≠ u ∧ f v = i) ∨ f u = i := fun u hu i hi => by
    obtain ⟨v, hv, e⟩ := h.full i (by omega)
    by_cases e2 : v = u
    · exact Or.inr (e2 ▸ e)
    · exact Or.inl ⟨v, hv, e2, e⟩
  have hno : ∀ u, u < n → ¬ ∀ i, i < n → ∃ v, v < n ∧ v ≠ u ∧ f v = i := fun u hu hall => by
    have := len_le_subI hnd0 (b := ((List.range n).erase u).map (fun i => (f i : Int))) (fun x hx => by
      obtain ⟨i, hi, rfl⟩ := List.mem_map.1 hx
      obtain ⟨v, hv, hne, e⟩ := hall i (by rw [List.mem_range] at hi; exact hi)
      exact List.mem_map.2 ⟨v, (List.mem_erase_of_ne hne).2 (List.mem_range.2 hv), by rw [e]⟩)
    rw [List.length_map, List.length_map, List.length_range, List.length_erase_of_mem (List.mem_range.2 hu), List.length_range] at this
    omega
  constructor
  · intro v hv
    apply Classical.byContradiction
    intro hlt
    exact hno v hv (fun i hi => (key v hv i hi).resolve_right (fun e => hlt (by omega)))
  · intro u v hu hv e
    apply Classical.byContradiction
    intro hne
    refine hno u hu (fun i hi => ?_)
    rcases key u hu i hi with h1 | h1
    · exact h1
    · exact ⟨v, hv, fun e' => hne e'.symm, by omega⟩
theorem bit_lt {x n : Nat} (h : ∀ b, x.testBit b = true → b < n) (b : Nat) (hb : n ≤ b) : x.testBit b = false := by
  cases e : x.testBit b with
  | false => rfl
  | true => have := h b e; omega
theorem isN_of {r : List Nat} {n : Nat} {A : Nat → Nat → Prop} {k : Int} {f : Nat → Nat} (hr : RowsOf r n A) (hk : k = 1 ∨ k = 2) (h : ModA n A k f) (hn : n = patN k) : isN r k = true := by
  obtain ⟨hlt, hinj⟩ := h.single hn
  rcases hk with rfl | rfl
  · have hn4 : n = 4 := hn
    subst hn4
    have hall : ∀ u v, u < 4 → v < 4 → u ≠ v → A u v := fun u v hu hv hne => by
      have h1 := hlt u hu
      have h2 := hlt v hv
      have h3 : f u ≠ f v := fun e => hne (hinj u v hu hv e)
      have hp : ∀ x y : Nat, x < y → y < 4 → ((x : Int), (y : Int)) ∈ patE 1 := by
        intro x y hxy hy
        have : (x = 0 ∧ y = 1) ∨ (x = 0 ∧ y = 2) ∨ (x = 0 ∧ y = 3) ∨ (x = 1 ∧ y = 2) ∨ (x = 1 ∧ y = 3) ∨ (x = 2 ∧ y = 3) := by omega
        rcases this with ⟨rfl, rfl⟩ | ⟨rfl, rfl⟩ | ⟨rfl, rfl⟩ | ⟨rfl, rfl⟩ | ⟨rfl, rfl⟩ | ⟨rfl, rfl⟩ <;> decide
      rcases Nat.lt_or_gt_of_ne h3 with h4 | h4
      · obtain ⟨x, y, hx, hy, e1, e2, ha⟩ := h.meet _ (hp _ _ h4 h2)
        rw [hinj x u hx hu (by simp only at e1; omega), hinj y v hy hv (by simp only at e2; omega)] at ha
        exact ha
      · obtain ⟨x, y, hx, hy, e1, e2, ha⟩ := h.meet _ (hp _ _ h4 h1)
        rw [hinj x v hx hv (by simp only at e1; omega), hinj y u hy hu (by simp only at e2; omega)] at ha
        exact hr.symm _ _ ha
    have hrow : ∀ a, a < 4 → r.getD a 0 ||| 2 ^ a = 15 := fun a ha => by
      apply Nat.eq_of_testBit_eq
      intro i
      rw [Nat.testBit_or, Nat.testBit_two_pow]
      rw [show (15 : Nat) = 2 ^ 4 - 1 by rfl, Nat.testBit_two_pow_sub_one]
      by_cases hi : i < 4
      · rw [decide_eq_true hi]
        by_cases e : a = i
        · rw [decide_eq_true e]; simp
        · rw [(hr.bit a i ha).2 ⟨hi, hall a i ha hi e⟩]; rfl
      · rw [decide_eq_false hi, decide_eq_false (by omega), bit_lt (fun b hb => ((hr.bit a b ha).1 hb).1) i (by omega)]; rfl
    unfold isN
    rw [if_pos rfl]
    have h0 := hrow 0 (by omega)
    have h1 := hrow 1 (by omega)
    have h2 := hrow 2 (by omega)
    have h3 := hrow 3 (by omega)
    simp only [Nat.pow_zero, Nat.pow_one, show 2 ^ 2 = 4 by rfl, show 2 ^ 3 = 8 by rfl] at h0 h1 h2 h3
    rw [h0, h1, h2, h3]; rfl
  · have hn5 : n = 5 := hn
    subst hn5
    obtain ⟨p, hp, fp⟩ := h.full 0 (by decide)
    obtain ⟨q, hq, fq⟩ := h.full 1 (by decide)
    have hpq : p ≠ q := fun e => by subst e; omega
    have hadj : ∀ i, i < 5 → i ≠ p → i ≠ q → A p i ∧ A q i := fun i hi h1 h2 => by
      have g0 := hlt i hi
      have g1 : f i ≠ 0 := fun e => h1 (hinj i p hi hp (by omega))
      have g2 : f i ≠ 1 := fun e => h2 (hinj i q hi hq (by omega))
      have hm : ∀ x : Nat, x < 2 → ((x : Int), (f i : Int)) ∈ patE 2 := fun x hx => by
        have : (x = 0 ∨ x = 1) ∧ (f i = 2 ∨ f i = 3 ∨ f i = 4) := by omega
        obtain ⟨rfl | rfl, e | e | e⟩ := this <;> rw [e] <;> decide
      obtain ⟨x, y, hx, hy, e1, e2, ha⟩ := h.meet _ (hm 0 (by omega))
      obtain ⟨x', y', hx', hy', e1', e2', ha'⟩ := h.meet _ (hm 1 (by omega))
      rw [hinj x p hx hp (by simp only at e1; omega), hinj y i hy hi (by simp only at e2; omega)] at ha
      rw [hinj x' q hx' hq (by simp only at e1'; omega), hinj y' i hy' hi (by simp only at e2'; omega)] at ha'
      exact ⟨ha, ha'⟩
    have hb : ∀ p q, bothN p q = bothN q p := fun p q => by unfold bothN; rw [Nat.or_comm]
    have hrow : ∀ c, c < 5 → (∀ i, i < 5 → i ≠ p → i ≠ q → A c i) → (r.getD c 0 &&& bothN p q) = bothN p q := fun c hc hA => by
      apply Nat.eq_of_testBit_eq
      intro i
      rw [Nat.testBit_and]
      cases e : (bothN p q).testBit i with
      | false => simp
      | true =>
        unfold bothN at e
        rw [andN_bit, show (31 : Nat) = 2 ^ 5 - 1 by rfl, Nat.testBit_two_pow_sub_one, Nat.testBit_or, Nat.testBit_two_pow, Nat.testBit_two_pow] at e
        simp at e
        rw [(hr.bit c i hc).2 ⟨e.1, hA i e.1 (fun e' => e.2.1 e'.symm) (fun e' => e.2.2 e'.symm)⟩]; rfl
    have r1 := hrow p hp (fun i hi h1 h2 => (hadj i hi h1 h2).1)
    have r2 := hrow q hq (fun i hi h1 h2 => (hadj i hi h1 h2).2)
    unfold isN
    rw [if_neg (by decide)]
    rw [List.any_eq_true]
    rcases Nat.lt_or_gt_of_ne hpq with h1 | h1
    · refine ⟨q, List.mem_range.2 hq, ?_⟩
      rw [List.any_eq_true]
      refine ⟨p, List.mem_range.2 h1, ?_⟩
      rw [hb q p, r1, r2]; simp
    · refine ⟨p, List.mem_range.2 hp, ?_⟩
      rw [List.any_eq_true]
      refine ⟨q, List.mem_range.2 h1, ?_⟩
      rw [r1, r2]; simp
/-- Where there is a model, one comes to the pattern. -/
theorem comes_of {k : Int} (hk : k = 1 ∨ k = 2) : ∀ (fu : Nat) (r : List Nat) (n : Nat) (A : Nat → Nat → Prop) (f : Nat → Nat), RowsOf r n A → ModA n A k f → n ≤ fu + patN k → comesN fu r k = true := by
  intro fu
  induction fu with
  | zero =>
    intro r n A f hr h hn
    have hge : patN k ≤ n := ModA.ge h
    have e : n = patN k := by omega
    show (r.length == patN k && isN r k) = true
    rw [isN_of hr hk h e, hr.len, e]; simp
  | succ fu ih =>
    intro r n A f hr h hn
    have hge : patN k ≤ n := ModA.ge h
    have hl := hr.len
    show (if r.length ≤ patN k then (r.length == patN k && isN r k) else _) = true
    by_cases e : n = patN k
    · rw [if_pos (by omega), isN_of hr hk h e, hl, e]; simp
    · rw [if_neg (by omega), Bool.or_eq_true]
      rcases h.step hr.symm hr.irr (by omega) with ⟨v, hv, hf⟩ | ⟨a, b, hab, hb, ha, hf⟩
      · refine Or.inr (List.any_eq_true.2 ⟨v, List.mem_range.2 (by omega), ?_⟩)
        exact ih _ (n - 1) _ _ (hr.less hv) (h.less hv hf) (by omega)
      · refine Or.inl (List.any_eq_true.2 ⟨a, List.mem_range.2 (by omega), List.any_eq_true.2 ⟨b, List.mem_range.2 (by omega), ?_⟩⟩)
        rw [decide_eq_true hab, (hr.bit a b (by omega)).2 ⟨hb, ha⟩, ih _ (n - 1) _ _ (hr.merge hab hb) (h.merge hr.symm hr.irr hab hb hf) (by omega)]
        rfl
end Go.Proofs.Ytckcbaegehfkoaa
namespace Go.Proofs.Ytckcbaegehfkoaa
open Go.RowKit Go.Lib

set_option maxHeartbeats 1000000 in
theorem size_any (k : Int) (w : World) : Calls Try.prog 59 #[.int .i64 k] w fun e w' => e = .returned (.int .i64 (patN k : Nat)) ∧ w' = w := by
  by_cases h1 : k = 1
  · subst h1
    go_enter Try.func59, Try.ntmps59
    go_wp2
    go_ret
    exact ⟨rfl, rfl⟩
  · have b1 : (k == 1) = false := by simp [h1]
    by_cases h2 : k = 2
    · subst h2
      go_enter Try.func59, Try.ntmps59
      go_wp2
      go_ret
      exact ⟨rfl, rfl⟩
    · have b2 : (k == 2) = false := by simp [h2]
      have e : patN k = 0 := patN_none (fun h => h.elim h1 h2)
      rw [e]
      clear e
      go_enter Try.func59, Try.ntmps59
      go_wp2
      go_ret
      exact ⟨rfl, rfl⟩
end Go.Proofs.Ytckcbaegehfkoaa
namespace Go.Proofs.Ytckcbaegehfkoaa
open Go.RowKit Go.Lib

theorem ofInt_nat {a : Nat} (h : a < 4611686018427387904) : (BitVec.ofInt 64 (a : Int)).toNat = a := by
  rw [BitVec.ofInt_natCast, BitVec.toNat_ofNat]; exact Nat.mod_eq_of_lt (by omega)
theorem bor {a b : Nat} (ha : a < 4611686018427387904) (hb : b < 4611686018427387904) : bits .or .i64 (a : Int) (b : Int) = ((a ||| b : Nat) : Int) := by
  have hx : a ||| b < 2 ^ 62 := Nat.or_lt_two_pow (by omega) (by omega)
  show IntKind.i64.wrap ((BitVec.ofInt 64 (a : Int) ||| BitVec.ofInt 64 (b : Int)).toNat : Int) = _
  rw [BitVec.toNat_or, ofInt_nat ha, ofInt_nat hb, IntKind.wrap_i64]
  omega
theorem band {a b : Nat} (ha : a < 4611686018427387904) (hb : b < 4611686018427387904) : bits .and .i64 (a : Int) (b : Int) = ((a &&& b : Nat) : Int) := by
  have hx : a &&& b < 2 ^ 62 := Nat.and_lt_two_pow _ (by omega)
  show IntKind.i64.wrap ((BitVec.ofInt 64 (a : Int) &&& BitVec.ofInt 64 (b : Int)).toNat : Int) = _
  rw [BitVec.toNat_and, ofInt_nat ha, ofInt_nat hb, IntKind.wrap_i64]
  omega
theorem bandn {a b : Nat} (ha : a < 4611686018427387904) (hb : b < 4611686018427387904) : bits .andNot .i64 (a : Int) (b : Int) = ((andN a b : Nat) : Int) := by
  have e : a &&& (2 ^ 64 - 1 - b) = andN a b := by
    apply Nat.eq_of_testBit_eq
    intro i
    rw [show 2 ^ 64 - 1 - b = 2 ^ 64 - (b + 1) by omega, Nat.testBit_and, Nat.testBit_two_pow_sub_succ (by omega), andN_bit]
    by_cases h : i < 64
    · simp [h]
    · have : a.testBit i = false := Nat.testBit_lt_two_pow (Nat.lt_of_lt_of_le (show a < 2 ^ 62 by omega) (Nat.pow_le_pow_right (by omega) (by omega)))
      simp [this]
  have hx : andN a b < 2 ^ 62 := by rw [← e]; exact Nat.lt_of_le_of_lt Nat.and_le_left (by omega)
  show IntKind.i64.wrap ((BitVec.ofInt 64 (a : Int) &&& ~~~ BitVec.ofInt 64 (b : Int)).toNat : Int) = _
  rw [BitVec.toNat_and, BitVec.toNat_not, ofInt_nat ha, ofInt_nat hb, e, IntKind.wrap_i64]
  omega
theorem pow8 {v : Nat} (h : v ≤ 8) : 1 ≤ 2 ^ v ∧ 2 ^ v ≤ 256 := ⟨Nat.one_le_two_pow, Nat.pow_le_pow_right (by omega) h⟩
theorem pow8i {v : Nat} (h : v ≤ 8) : IntKind.i64.wrap ((2 : Int) ^ v) = ((2 ^ v : Nat) : Int) := by
  have h1 := pow8 h
  have e : ((2 : Int) ^ v) = ((2 ^ v : Nat) : Int) := by simp
  rw [e, IntKind.wrap_i64]
  generalize 2 ^ v = P at h1 ⊢
  omega
theorem shr8 (x v : Nat) : (x : Int) / (2 : Int) ^ v = ((x >>> v : Nat) : Int) := by
  rw [Nat.shiftRight_eq_div_pow]; simp
theorem shl8 {s v : Nat} (hs : s < 256) (hv : v ≤ 8) : IntKind.i64.wrap ((s : Int) * (2 : Int) ^ v) = ((s <<< v : Nat) : Int) := by
  have h1 := pow8 hv
  have h2 : s * 2 ^ v ≤ 256 * 256 := Nat.mul_le_mul (by omega) h1.2
  have e : (s : Int) * ((2 : Int) ^ v) = ((s * 2 ^ v : Nat) : Int) := by simp
  rw [Nat.shiftLeft_eq, e, IntKind.wrap_i64]
  generalize s * 2 ^ v = P at h2 ⊢
  omega
theorem shr_le (x v : Nat) : x >>> v ≤ x := by rw [Nat.shiftRight_eq_div_pow]; exact Nat.div_le_self _ _
theorem lessX_lt {v x : Nat} (hx : x < 256) (_hv : v < 8) : lessX v x < 256 := by
  have : ∀ b, 8 ≤ b → (lessX v x).testBit b = false := fun b hb => by
    rw [lessX_bit]
    exact Nat.testBit_lt_two_pow (Nat.lt_of_lt_of_le (show x < 2 ^ 8 by omega) (Nat.pow_le_pow_right (by omega) (by unfold upN; split <;> omega)))
  exact Nat.lt_pow_two_of_testBit (n := 8) _ this
/-- Rows of bits as numbers. -/
def ints (r : List Nat) : List Int := r.map (fun x : Nat => (x : Int))
theorem ints_len (r : List Nat) : (ints r).length = r.length := by unfold ints; simp
theorem ints_at {r : List Nat} {j : Nat} (h : j < r.length) (h' : j < (ints r).length) : (ints r)[j] = ((r[j] : Nat) : Int) := List.getElem_map _
/-- Eight bits at most. -/
def Sm (r : List Nat) : Prop := ∀ x ∈ r, x < 256
theorem less_sm {r : List Nat} {v : Nat} (h : Sm r) (hv : v < 8) : Sm (lessR r v) := fun x hx => by
  unfold lessR at hx
  obtain ⟨y, hy, rfl⟩ := List.mem_map.1 hx
  exact lessX_lt (h y (List.mem_of_mem_eraseIdx hy)) hv
theorem lessR_next {r : List Nat} {v i : Nat} (hi : i < r.length) : lessR (r.take (i + 1)) v = lessR (r.take i) v ++ (if i = v then [] else [lessX v r[i]]) := by
  have hl : (r.take i).length = i := by rw [List.length_take]; omega
  unfold lessR
  rw [← List.take_append_getElem hi]
  by_cases e : i = v
  · subst e
    rw [if_pos rfl, List.append_nil, List.eraseIdx_append_of_length_le (by omega), hl, Nat.sub_self, List.eraseIdx_of_length_le (by omega : (r.take i).length ≤ i)]
    simp
  · rw [if_neg e]
    by_cases h : v < i
    · rw [List.eraseIdx_append_of_lt_length (by omega), List.map_append]; rfl
    · rw [List.eraseIdx_append_of_length_le (by omega), hl, List.eraseIdx_of_length_le (by omega : (r.take i).length ≤ v), List.eraseIdx_of_length_le (by simp; omega), List.map_append]; rfl
set_option maxHeartbeats 8000000 in
set_option maxRecDepth 100000 in
theorem lessB_any (a : Option Addr) (cap : Nat) (r : List Nat) (v : Nat) (w : World) (hr : r.length ≤ 8) (hv : v < 8) (hs : Sm r) (hI : IAt w a (ints r)) :
    Calls Try.prog 96 #[.slice a r.length cap, .int .i64 v] w fun e w' => ∃ u, e = .returned u ∧ NewRow (ints (lessR r v)) w w' u := by
  obtain ⟨i0, hi0, hz0, hz1, hz2⟩ := info_parts Try.info3
  obtain ⟨N, hNe⟩ := ex_eq r.length
  obtain ⟨D, hD⟩ := ex_eq w.heap.size
  obtain ⟨W1, hW1⟩ := ex_eq (w.alloc (.cells #[] 3))
  have HST : Hid (W1.ownsRow D 3 1 (.slice (some ⟨D, 0, none⟩) 0 0) (lessR (r.take 0) v).length ((ints (lessR (r.take 0) v)).map (Value.int .i64)) ∧ Below D w W1) := by
    show _ ∧ _
    have e : lessR (r.take 0) v = [] := by unfold lessR; simp
    rw [e, hW1, hD]
    exact ⟨own_emptyI (w := w) _ rfl, (Below.refl _ _).alloc (Nat.le_refl _) _⟩
  have HN := hid hNe
  have HI := hid hI
  have HS := hid hs
  have HW1 := hid hW1
  have HD := hid hD
  obtain ⟨L0, hL0⟩ := ex_eq (lessR r v)
  have HL0 := hid hL0
  rw [← hNe] at hr ⊢
  rw [← hL0]
  clear hNe hI hs hW1 hD hL0
  go_enter Try.func96, Try.ntmps96
  go_wp2
  rw [← HW1.out, ← HD.out]
  clear HW1
  obtain ⟨K0, hK0⟩ := ex_eq (lessR (r.take 0) v).length
  have hK00 : K0 = 0 := by rw [hK0]; unfold lessR; simp
  go_loopg [5, 6] N (fun G v5 i wz => ∃ t K : Nat, t ≤ N ∧ N - t ≤ G ∧ i = .int .i64 t ∧ K ≤ t ∧ Hid (K = (lessR (r.take t) v).length ∧ wz.ownsRow D 3 1 v5 K ((ints (lessR (r.take t) v)).map (Value.int .i64)) ∧ Below D w wz))
  case atStart => exact ⟨0, 0, Nat.zero_le _, by omega, rfl, Nat.le_refl _, by show _ ∧ _ ∧ _; have h := HST.out; rw [← hK0, hK00] at h; exact ⟨by omega, h⟩⟩
  case round =>
    clear HST
    obtain ⟨t, K, ht, hG, rfl, hKt, hst⟩ := hrel
    obtain ⟨hK, hown, hbel⟩ := hst.out
    obtain ⟨va, vc, rfl, _⟩ := sl_own hown
    by_cases hlt : t < N
    · have htr : t < r.length := by rw [← HN.out]; exact hlt
      have hti : t < (ints r).length := by rw [ints_len]; exact htr
      obtain ⟨g, off, rfl, hg, hcs⟩ := HI.out (by omega)
      have d0 := hcs t hti
      rw [ints_at htr hti] at d0
      obtain ⟨x, hx⟩ := ex_eq r[t]
      rw [← hx] at d0
      have hx8 : x < 256 := by rw [hx]; exact HS.out _ (List.getElem_mem htr)
      have d1 := (hbel.cell (p := ⟨g, off + t, none⟩) (by simp only; rw [HD.out]; exact hg)).trans d0
      have hnx := lessR_next (v := v) htr
      rw [← hx] at hnx
      have q1 : (t : Int) < (N : Int) := by omega
      have q2 : (0 : Int) ≤ (t : Int) := by omega
      by_cases e : t = v
      · have q3 : ((t : Int) != (v : Int)) = false := by simp [e]
        rw [if_pos e, List.append_nil] at hnx
        have HNX : Hid (K = (lessR (r.take (t + 1)) v).length ∧ wr.ownsRow D 3 1 (.slice va K vc) K ((ints (lessR (r.take (t + 1)) v)).map (Value.int .i64)) ∧ Below D w wr) := by rw [hnx]; exact hst.out
        clear hst hK hown hbel hcs hx hnx d0 d1
        go_wp2
        go_roundg (N - (t + 1))
        case measure => omega
        case rel => exact ⟨t + 1, K, by omega, Nat.le_refl _, by go_num, by omega, HNX⟩
      · have q3 : ((t : Int) != (v : Int)) = true := by simp [bne]; omega
        rw [if_neg e] at hnx
        obtain ⟨Y, hY⟩ := ex_eq (lessX v x)
        rw [← hY] at hnx
        obtain ⟨P, hP⟩ := ex_eq (2 ^ v)
        obtain ⟨S, hS⟩ := ex_eq (x >>> (v + 1))
        obtain ⟨T, hT⟩ := ex_eq (S <<< v)
        obtain ⟨L, hL⟩ := ex_eq (x &&& (2 ^ v - 1))
        have hP8 := pow8 (show v ≤ 8 by omega)
        rw [← hP] at hP8
        have hS8 : S < 256 := by have := shr_le x (v + 1); omega
        have hL8 : L < 256 := by rw [hL]; exact Nat.lt_of_le_of_lt Nat.and_le_left hx8
        have hT8 : T ≤ 65536 := by
          rw [hT, Nat.shiftLeft_eq, ← hP]
          exact Nat.mul_le_mul (show S ≤ 256 by omega) hP8.2
        have s1 : IntKind.i64.wrap ((2 : Int) ^ v) = (P : Int) := by rw [hP]; exact pow8i (by omega)
        have s2 : bits .and .i64 (x : Int) ((P : Int) - 1) = (L : Int) := by
          rw [show (P : Int) - 1 = ((P - 1 : Nat) : Int) by omega, band (by omega) (by omega), hL, hP]
        have s3 : (x : Int) / (2 : Int) ^ (v + 1) = (S : Int) := by rw [hS]; exact shr8 x (v + 1)
        have s4 : IntKind.i64.wrap ((S : Int) * (2 : Int) ^ v) = (T : Int) := by rw [hT]; exact shl8 hS8 (by omega)
        have s5 : bits .or .i64 (L : Int) (T : Int) = (Y : Int) := by rw [bor (by omega) (by omega), hY, hL, hT, hS]; rfl
        obtain ⟨xs0, hxs0⟩ := ex_eq ((ints (lessR (r.take t) v)).map (Value.int .i64))
        rw [← hxs0] at hown
        have HNX : Hid (K + 1 = (lessR (r.take (t + 1)) v).length ∧ (ints (lessR (r.take (t + 1)) v)).map (Value.int .i64) = xs0 ++ [.int .i64 (Y : Nat)]) := by
          show _ ∧ _
          rw [hnx, List.length_append, ← hK]
          refine ⟨rfl, ?_⟩
          unfold ints at hxs0 ⊢
          rw [List.map_append, List.map_append, ← hxs0]; rfl
        have HOW : Hid ((wr.alloc (.cells #[.int .i64 (Y : Nat)] 3)).ownsRow D 3 1 (.slice va K vc) K xs0) := hown.alloc _
        have HNW : Hid (∀ p', some (⟨wr.heap.size, 0, none⟩ : Addr) = some p' → ∀ q u, [Value.int .i64 (Y : Nat)][q]? = some u → (wr.alloc (.cells #[.int .i64 (Y : Nat)] 3)).cell? (p'.add q) = some u) := news_one _
        have HON : Hid (∀ v' ∈ [Value.int .i64 (Y : Nat)], v'.oneCell' = true) := fun v' hv => by simp at hv; rw [hv]; rfl
        have H63 : Hid (K + 1 ≤ maxLen) := by show _ ≤ _; unfold maxLen; omega
        have HBY : Hid ((K + 1) * 8 ≤ 140737488355328) := by show _ ≤ _; omega
        have hDw : D ≤ wr.heap.size := by have h1 := hbel.size; have h2 := HD.out; omega
        have HBS : Hid (D ≤ (wr.alloc (.cells #[.int .i64 (Y : Nat)] 3)).heap.size) := by show D ≤ _; simp; omega
        have HBR := hid hbel
        clear hst hK hown hbel hcs hx hnx d0 hP hS hT hL hY hxs0 hg
        go_wp2_with (at_builtin; refine wpList_append_any _ rfl _ _ 25 rfl D 3 i0 _ 1 8 Try.underlying25 hi0 hz0 hz1 hz2 rfl (by decide) _ _ _ rfl HOW.out (some ⟨wr.heap.size, 0, none⟩) 1 1 [.int .i64 (Y : Nat)] rfl (fun h => by cases h) rfl HNW.out HON.out H63.out HBY.out HBS.out ?_)
        intro v4 w4 hown4 hgrow4 hat4
        have HO4 : Hid (K + 1 = (lessR (r.take (t + 1)) v).length ∧ w4.ownsRow D 3 1 v4 (K + 1) ((ints (lessR (r.take (t + 1)) v)).map (Value.int .i64)) ∧ Below D w w4) :=
          ⟨HNX.out.1, by rw [HNX.out.2]; exact hown4, (HBR.out.alloc hDw _).grown hgrow4 HBS.out (fun q hq => (HOW.out.lt q hq).1)⟩
        clear hown4 hgrow4 hat4 HNX HOW HNW HON H63 HBY HBS HBR d1
        go_wp2
        go_roundg (N - (t + 1))
        case measure => omega
        case rel => exact ⟨t + 1, K + 1, by omega, Nat.le_refl _, by go_num, by omega, HO4⟩
    · obtain rfl : t = N := by omega
      have htk : r.take t = r := by rw [HN.out, List.take_length]
      rw [htk, ← HL0.out] at hK hown
      have HF : Hid (NewRow (ints L0) w wr (.slice va K vc)) := by
        refine ⟨?_, by rw [← HD.out]; exact hbel⟩
        rw [ints_len, ← hK, ← HD.out]; exact hown
      clear hst hK hown hbel htk
      go_wp2
      go_ret
      exact ⟨_, rfl, HF.out⟩
end Go.Proofs.Ytckcbaegehfkoaa
