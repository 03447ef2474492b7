/-
  The blocks of the first edges, one behind the other (layer 7). No program is named here.
  Numbers in order. No program is named here.
  A search in depth that cuts off what hangs on one vertex alone (layer 7): what it cuts off is the blocks. No program is named here.
-/
import Derived.Test.YtlebimolgienkaaT07
import Derived.Test.YtlebimolgienkaaRows
namespace Go.Proofs.Ytlebimolgienkaa

/-- The ends of all edges that belong with e are the vertices of its block. -/
theorem ends_blk {es : List (Int × Int)} {e : Int × Int} {T : List (Int × Int)} (hT : ∀ f, f ∈ T ↔ f ∈ es ∧ Tog es e f) {x : Int} : (∃ f, f ∈ T ∧ End f x) ↔ Bl es e x := by
  constructor
  · rintro ⟨f, hf, hx⟩
    obtain ⟨h1, h2⟩ := (hT f).1 hf
    exact ⟨f, Or.inl h1, h2, hx⟩
  · rintro ⟨f, hf | hf, ht, hx⟩
    · exact ⟨f, (hT f).2 ⟨hf, ht⟩, hx⟩
    · exact ⟨(f.2, f.1), (hT _).2 ⟨hf, (Tog.turn (a := f.1) (b := f.2) ht.symm).symm⟩, hx.symm⟩
/-- A row laid into rows in their order. -/
def insR (l : List Int) : List (List Int) → List (List Int)
  | [] => [l]
  | x :: xs => if lexL l x then l :: x :: xs else x :: insR l xs
theorem mem_insR {l y : List Int} : ∀ {xs : List (List Int)}, y ∈ insR l xs ↔ y = l ∨ y ∈ xs
  | [] => by simp [insR]
  | x :: xs => by
    unfold insR
    split
    · simp
    · rw [List.mem_cons, mem_insR, List.mem_cons]
      constructor
      · rintro (h | h | h)
        · exact Or.inr (Or.inl h)
        · exact Or.inl h
        · exact Or.inr (Or.inr h)
      · rintro (h | h | h)
        · exact Or.inr (Or.inl h)
        · exact Or.inl h
        · exact Or.inr (Or.inr h)
theorem insR_ord {l : List Int} : ∀ {xs : List (List Int)}, xs.Pairwise (fun A B => lexL A B = true) → l ∉ xs → (insR l xs).Pairwise (fun A B => lexL A B = true)
  | [], _, _ => by simp [insR]
  | x :: xs, h, hn => by
    rw [List.pairwise_cons] at h
    unfold insR
    split
    · rename_i hlx
      rw [List.pairwise_cons]
      refine ⟨fun y hy => ?_, List.pairwise_cons.2 h⟩
      rcases List.mem_cons.1 hy with e | hy
      · rw [e]; exact hlx
      · exact lexL_trans hlx (h.1 y hy)
    · rename_i hlx
      have hxl : lexL x l = true := by
        cases k : lexL x l with
        | true => rfl
        | false => exact absurd (lexL_tri (by simpa using hlx) k) (fun e => hn (by rw [e]; simp))
      rw [List.pairwise_cons]
      refine ⟨fun y hy => ?_, insR_ord h.2 (fun k => hn (List.mem_cons_of_mem _ k))⟩
      rcases mem_insR.1 hy with e | hy
      · rw [e]; exact hxl
      · exact h.1 y hy
/-- What stands there behind the first i edges. -/
structure BlkUpto (es : List (Int × Int)) (i : Nat) (Bs : List (List Int)) : Prop where
  is : ∀ B, B ∈ Bs → ∃ j, ∃ h : j < es.length, j < i ∧ B.Pairwise (· < ·) ∧ ∀ x, x ∈ B ↔ Bl es es[j] x
  all : ∀ j (h : j < es.length), j < i → ∃ B, B ∈ Bs ∧ ∀ x, x ∈ B ↔ Bl es es[j] x
  ord : Bs.Pairwise (fun A B => lexL A B = true)
theorem BlkUpto.nil (es : List (Int × Int)) : BlkUpto es 0 [] := ⟨fun _ h => absurd h (by simp), fun _ _ h => absurd h (by omega), List.Pairwise.nil⟩
/-- An edge that belongs with one ahead of it adds nothing. -/
theorem BlkUpto.pass {n : Int} {es : List (Int × Int)} {i : Nat} {Bs : List (List Int)} (hR : RightG n es) (h : BlkUpto es i Bs) (hi : i < es.length) (hd : ∃ j, ∃ hj : j < es.length, j < i ∧ Tog es es[j] es[i]) : BlkUpto es (i + 1) Bs := by
  refine ⟨fun B hB => ?_, fun j hj hji => ?_, h.ord⟩
  · obtain ⟨j, hj, h1, h2⟩ := h.is B hB
    exact ⟨j, hj, by omega, h2⟩
  · by_cases e : j < i
    · exact h.all j hj e
    · have e2 : j = i := by omega
      subst e2
      obtain ⟨k, hk, hki, ht⟩ := hd
      obtain ⟨B, hB, ib⟩ := h.all k hk hki
      have n1 := (hR.2.2.2.1 es[k] (List.getElem_mem hk)).2.1
      have n2 := (hR.2.2.2.1 es[j] (List.getElem_mem hj)).2.1
      exact ⟨B, hB, fun x => (ib x).trans ⟨fun k => k.tog (by omega) ht, fun k => k.tog (by omega) ht.symm⟩⟩
/-- One that belongs with none ahead of it adds its block. -/
theorem BlkUpto.add {n : Int} {es : List (Int × Int)} {i : Nat} {Bs : List (List Int)} {l : List Int} (hR : RightG n es) (h : BlkUpto es i Bs) (hi : i < es.length) (hd : ∀ j (hj : j < es.length), j < i → ¬ Tog es es[j] es[i]) (hu : l.Pairwise (· < ·)) (hl : ∀ x, x ∈ l ↔ Bl es es[i] x) : BlkUpto es (i + 1) (insR l Bs) := by
  have n2 := (hR.2.2.2.1 es[i] (List.getElem_mem hi)).2.1
  have hai : Adj es es[i].1 es[i].2 := Or.inl (List.getElem_mem hi)
  refine ⟨fun B hB => ?_, fun j hj hji => ?_, insR_ord h.ord (fun k => ?_)⟩
  · rcases mem_insR.1 hB with e | hB
    · exact ⟨i, hi, by omega, by rw [e]; exact hu, fun x => by rw [e]; exact hl x⟩
    · obtain ⟨j, hj, h1, h2⟩ := h.is B hB
      exact ⟨j, hj, by omega, h2⟩
  · by_cases e : j < i
    · obtain ⟨B, hB, ib⟩ := h.all j hj e
      exact ⟨B, mem_insR.2 (Or.inr hB), ib⟩
    · have e2 : j = i := by omega
      subst e2
      exact ⟨l, mem_insR.2 (Or.inl rfl), hl⟩
  · obtain ⟨j, hj, h1, _, ib⟩ := h.is l k
    have k1 := (ib _).1 ((hl _).2 (Bl.own hai (Or.inl rfl)))
    have k2 := (ib _).1 ((hl _).2 (Bl.own hai (Or.inr rfl)))
    exact hd j hj h1 (edge_in (x := es[i].1) (y := es[i].2) hai (by omega) k1 k2)
/-- Behind the last edge these are all blocks. -/
theorem BlkUpto.whole {es : List (Int × Int)} {i : Nat} {Bs : List (List Int)} (h : BlkUpto es i Bs) (hi : es.length ≤ i) : BlocksL es Bs := by
  refine ⟨fun B => ⟨fun hB => ?_, fun hB => ?_⟩, h.ord⟩
  · obtain ⟨j, hj, _, h2, h3⟩ := h.is B hB
    exact ⟨h2, es[j].1, es[j].2, Or.inl (List.getElem_mem hj), h3⟩
  · obtain ⟨hu, a, b, hab, ib⟩ := hB
    have fin : ∀ e : Int × Int, e ∈ es → (∀ x, x ∈ B ↔ Bl es e x) → B ∈ Bs := fun e he ie => by
      obtain ⟨j, hj, e2⟩ := List.getElem_of_mem he
      obtain ⟨C, hC, ic⟩ := h.all j hj (by omega)
      obtain ⟨_, _, _, uC, _⟩ := h.is C hC
      have : B = C := up_oneB hu uC (fun x => by rw [ie, ic, e2])
      rw [this]; exact hC
    rcases hab with hm | hm
    · exact fin (a, b) hm ib
    · refine fin (b, a) hm (fun x => (ib x).trans ⟨?_, ?_⟩)
      · rintro ⟨f, hf, ht, hx⟩; exact ⟨f, hf, Tog.turn ht, hx⟩
      · rintro ⟨f, hf, ht, hx⟩; exact ⟨f, hf, Tog.turn ht, hx⟩
end Go.Proofs.Ytlebimolgienkaa
namespace Go.Proofs.Ytlebimolgienkaa

/-- The numbers in order. -/
def srtI (xs : List Int) : List Int := xs.mergeSort fun x y => decide (x ≤ y)
theorem srtI_perm (xs : List Int) : (srtI xs).Perm xs := List.mergeSort_perm xs _
theorem srtI_len (xs : List Int) : (srtI xs).length = xs.length := (srtI_perm xs).length_eq
theorem srtI_up (xs : List Int) : (srtI xs).Pairwise (· ≤ ·) := by
  have h := List.pairwise_mergeSort (le := fun x y : Int => decide (x ≤ y)) (fun a b c h1 h2 => by simp at *; omega) (fun a b => by simp; omega) xs
  exact h.imp (fun h => by simpa using h)
/-- The same, one number laid in behind the other. -/
def insO (x : Int) : List Int → List Int
  | [] => [x]
  | y :: ys => if x ≤ y then x :: y :: ys else y :: insO x ys
def isrt : List Int → List Int
  | [] => []
  | x :: xs => insO x (isrt xs)
theorem insO_perm (x : Int) : ∀ (ys : List Int), (insO x ys).Perm (x :: ys)
  | [] => List.Perm.refl _
  | y :: ys => by
    unfold insO
    split
    · exact List.Perm.refl _
    · exact ((insO_perm x ys).cons y).trans (List.Perm.swap x y ys)
theorem insO_up {x : Int} : ∀ {ys : List Int}, ys.Pairwise (· ≤ ·) → (insO x ys).Pairwise (· ≤ ·)
  | [], _ => by simp [insO]
  | y :: ys, h => by
    obtain ⟨h1, h2⟩ := List.pairwise_cons.1 h
    unfold insO
    split
    · rename_i hxy
      rw [List.pairwise_cons]
      refine ⟨fun z hz => ?_, h⟩
      rcases List.mem_cons.1 hz with e | hz
      · rw [e]; exact hxy
      · have := h1 z hz; omega
    · rename_i hxy
      rw [List.pairwise_cons]
      refine ⟨fun z hz => ?_, insO_up h2⟩
      rcases List.mem_cons.1 ((insO_perm x ys).mem_iff.1 hz) with e | hz
      · rw [e]; omega
      · exact h1 z hz
theorem isrt_perm : ∀ (xs : List Int), (isrt xs).Perm xs
  | [] => List.Perm.refl _
  | x :: xs => (insO_perm x (isrt xs)).trans ((isrt_perm xs).cons x)
theorem isrt_up : ∀ (xs : List Int), (isrt xs).Pairwise (· ≤ ·)
  | [] => List.Pairwise.nil
  | _ :: xs => insO_up (isrt_up xs)
theorem isrt_len (xs : List Int) : (isrt xs).length = xs.length := (isrt_perm xs).length_eq
theorem isrt_rises {xs : List Int} (h : xs.Nodup) : (isrt xs).Pairwise (· < ·) := by
  have h2 : (isrt xs).Nodup := (isrt_perm xs).nodup_iff.2 h
  rw [List.nodup_iff_pairwise_ne] at h2
  exact (isrt_up xs).imp₂ (fun {a b} h1 h3 => by omega) h2
/-- Two rows in order, of the same numbers, are one. -/
theorem up_perm_one : ∀ {a b : List Int}, a.Pairwise (· ≤ ·) → b.Pairwise (· ≤ ·) → a.Perm b → a = b
  | [], b, _, _, h => by rw [List.nil_perm.1 h]
  | x :: a, [], _, _, h => by have := h.length_eq; simp at this
  | x :: a, y :: b, ha, hb, h => by
    obtain ⟨h1, h2⟩ := List.pairwise_cons.1 ha
    obtain ⟨k1, k2⟩ := List.pairwise_cons.1 hb
    have e : x = y := by
      have q1 := h.mem_iff.1 (List.mem_cons_self (a := x) (l := a))
      have q2 := h.mem_iff.2 (List.mem_cons_self (a := y) (l := b))
      rcases List.mem_cons.1 q1 with e | q1
      · exact e
      rcases List.mem_cons.1 q2 with e | q2
      · exact e.symm
      have := h1 y q2
      have := k1 x q1
      omega
    subst e
    rw [up_perm_one h2 k2 (List.Perm.cons_inv h)]
theorem srtI_is (xs : List Int) : srtI xs = isrt xs := up_perm_one (srtI_up xs) (isrt_up xs) ((srtI_perm xs).trans (isrt_perm xs).symm)
end Go.Proofs.Ytlebimolgienkaa
namespace Go.Proofs.Ytlebimolgienkaa

/-- A search under way: the numbers of the vertices come to, how many they are, those gone through, the blocks cut off. -/
structure Dst where
  num : Nat → Int
  cnt : Nat
  gone : List Int
  blk : List (List Int)
/-- x was come to. -/
def Dst.Vis (s : Dst) (m : Nat) (x : Int) : Prop := (0 ≤ x ∧ x < m) ∧ 0 < s.num x.toNat
def Dst.enter (s : Dst) (v : Nat) : Dst := ⟨fun x => if x = v then (s.cnt : Int) + 1 else s.num x, s.cnt + 1, s.gone ++ [(v : Int)], s.blk⟩
def Dst.cut (s : Dst) (k v : Nat) : Dst := ⟨s.num, s.cnt, s.gone.take k, s.blk ++ [isrt (s.gone.drop k ++ [(v : Int)])]⟩
/-- One neighbour w of v. -/
def lowStep (rec : Dst → Nat → Dst × Int) (v : Nat) (t : Dst × Int) (w : Int) : Dst × Int :=
  if 0 < t.1.num w.toNat then (t.1, min t.2 (t.1.num w.toNat))
  else if (rec t.1 w.toNat).2 < (rec t.1 w.toNat).1.num v then ((rec t.1 w.toNat).1, min t.2 (rec t.1 w.toNat).2)
  else ((rec t.1 w.toNat).1.cut t.1.gone.length v, min t.2 (rec t.1 w.toNat).2)
/-- How low one comes from v; k bounds the depth. -/
def lowF (nb : Nat → List Int) : Nat → Dst → Nat → Dst × Int
  | 0, s, _ => (s, 0)
  | k + 1, s, v => (nb v).foldl (lowStep (lowF nb k) v) (s.enter v, (s.cnt : Int) + 1)

/-- One comes from v to x within R. -/
def Con (es : List (Int × Int)) (R : Int → Prop) (v x : Int) : Prop := ∀ S : Int → Prop, S v → (∀ u w, S u → Adj es u w → R w → S w) → S x
theorem Con.refl (es : List (Int × Int)) (R : Int → Prop) (v : Int) : Con es R v v := fun _ h _ => h
theorem Con.mono {es : List (Int × Int)} {R Q : Int → Prop} {v x : Int} (h : Con es R v x) (hs : ∀ z, R z → Q z) : Con es Q v x := fun _ h0 hst => h _ h0 (fun u w hu ha hw => hst u w hu ha (hs w hw))
theorem Con.trans {es : List (Int × Int)} {R : Int → Prop} {v x y : Int} (h : Con es R v x) (k : Con es R x y) : Con es R v y := fun S h0 hs => k S (h S h0 hs) hs
theorem Con.one {es : List (Int × Int)} {R : Int → Prop} {v x : Int} (ha : Adj es v x) (hx : R x) : Con es R v x := fun _ h0 hs => hs v x h0 ha hx
/-- What is come to within R is come to without u, if u is not in R. -/
theorem Con.av {es : List (Int × Int)} {R : Int → Prop} {u v x : Int} (h : Con es R v x) (hv : v ≠ u) (hu : ∀ z, R z → z ≠ u) : Av es u v x :=
  (h (fun z => z ≠ u ∧ Av es u v z) ⟨hv, Av.refl _ _ _⟩ (fun _ q hp ha hq => ⟨hu q hq, hp.2.step ha hp.1 (hu q hq)⟩)).2

/-- A vertex is in a block, if no other one parts it from the block's edge. -/
theorem bl_of {es : List (Int × Int)} {e : Int × Int} {x : Int} (ha : Adj es e.1 e.2) (hne : e.1 ≠ e.2) (h : ∀ v p, End e p → p ≠ v → x ≠ v → Av es v p x) : Bl es e x := by
  by_cases h1 : x = e.1
  · exact Bl.own ha (Or.inl h1)
  by_cases h2 : x = e.2
  · exact Bl.own ha (Or.inr h2)
  -- the vertex ahead of x on a way
  have key := (h e.2 e.1 (Or.inl rfl) hne h2) (fun z => (Av es x e.1 z ∧ z ≠ x) ∨ ∃ y, Adj es y x ∧ Av es x e.1 y ∧ y ≠ x) (Or.inl ⟨Av.refl _ _ _, fun e => h1 e.symm⟩) (fun u w hu hadj _ _ => by
    rcases hu with ⟨hu, hux⟩ | hu
    · by_cases hw : w = x
      · subst hw; exact Or.inr ⟨u, hadj, hu, hux⟩
      · exact Or.inl ⟨hu.step hadj hux hw, hw⟩
    · exact Or.inr hu)
  rcases key with ⟨_, k⟩ | ⟨y, hy, hav, hyx⟩
  · exact absurd rfl k
  refine ⟨(x, y), hy.symm, fun v p q hp hq k1 k2 => ?_, Or.inl rfl⟩
  by_cases hxv : x = v
  · subst hxv
    rcases hq with hq | hq
    · exact absurd hq k2
    · have hq' : q = y := hq
      subst hq'
      rcases hp with hp | hp
      · subst hp; exact hav
      · subst hp
        exact (Av.one ha.symm k1 (fun e => h1 e.symm)).trans hav
  · have hpx := h v p hp k1 hxv
    rcases hq with hq | hq
    · have hq' : q = x := hq
      subst hq'; exact hpx
    · have hq' : q = y := hq
      subst hq'
      exact hpx.step hy.symm hxv k2
/-- A row is the block of the edge (a, b). -/
def IsB (es : List (Int × Int)) (a b : Int) (B : List Int) : Prop := B.Pairwise (· < ·) ∧ ∀ z, z ∈ B ↔ Bl es (a, b) z
theorem IsB.turn {es : List (Int × Int)} {a b : Int} {B : List Int} (h : IsB es a b B) : IsB es b a B := ⟨h.1, fun z => (h.2 z).trans ⟨fun ⟨f, hf, ht, hx⟩ => ⟨f, hf, Tog.turn ht, hx⟩, fun ⟨f, hf, ht, hx⟩ => ⟨f, hf, Tog.turn ht, hx⟩⟩⟩
theorem IsB.other {n : Int} {es : List (Int × Int)} {a b c d : Int} {B : List Int} (hR : RightG n es) (hab : Adj es a b) (hcd : Adj es c d) (h : IsB es a b B) (h1 : c ∈ B) (h2 : d ∈ B) : IsB es c d B := by
  have ht := edge_in hcd (hcd.in hR).2.2 ((h.2 c).1 h1) ((h.2 d).1 h2)
  exact ⟨h.1, fun z => (h.2 z).trans ⟨fun k => k.tog (hab.in hR).2.2 ht, fun k => k.tog (hcd.in hR).2.2 ht.symm⟩⟩

/-- What is kept of the blocks cut off. -/
structure BInv (es : List (Int × Int)) (m : Nat) (s : Dst) : Prop where
  is : ∀ B ∈ s.blk, IsBlk es B
  off : ∀ B ∈ s.blk, ∃ x ∈ B, s.Vis m x ∧ x ∉ s.gone
  nd : s.blk.Nodup
  vis : ∀ x ∈ s.gone, s.Vis m x
/-- Ahead of a call for v; A: those that are being gone through. -/
structure DPre (es : List (Int × Int)) (m : Nat) (A : Int → Prop) (s : Dst) (v : Nat) : Prop where
  lt : v < m
  new : ¬ s.Vis m v
  vis : ∀ a, A a → s.Vis m a
  con : ∀ u, ¬ A u → ∀ a b, A a → A b → Av es u a b
  fin : ∀ x, s.Vis m x → ¬ A x → ∀ y, Adj es x y → s.Vis m y
  le : ∀ x, s.Vis m x → s.num x.toNat ≤ s.cnt
  par : ∀ a, A a → ∃ p, A p ∧ Adj es p v
  inv : BInv es m s
/-- What was come to since s. -/
def Since (m : Nat) (s t : Dst) (x : Int) : Prop := t.Vis m x ∧ ¬ s.Vis m x
/-- Within a call for v; P: those of its neighbours that were seen. -/
structure DMid (es : List (Int × Int)) (m : Nat) (A : Int → Prop) (s : Dst) (v : Nat) (P : Int → Prop) (t : Dst) (r : Int) : Prop where
  keep : ∀ x, s.Vis m x → t.num x.toNat = s.num x.toNat
  own : t.num v = (s.cnt : Int) + 1
  cnt : s.cnt < t.cnt
  le : ∀ x, t.Vis m x → t.num x.toNat ≤ t.cnt
  gt : ∀ x, Since m s t x → (s.cnt : Int) < t.num x.toNat
  con : ∀ x, Since m s t x → Con es (Since m s t) v x
  fin : ∀ x, Since m s t x → x ≠ v → ∀ y, Adj es x y → t.Vis m y
  seen : ∀ y, P y → Adj es v y → t.Vis m y
  lowA : r ≤ (s.cnt : Int) + 1
  lowB : ∀ x a, Since m s t x → s.Vis m a → Adj es x a → (x = v → P a) → r ≤ s.num a.toNat
  lowC : r = (s.cnt : Int) + 1 ∨ ∃ x a, Since m s t x ∧ s.Vis m a ∧ Adj es x a ∧ s.num a.toNat = r
  inv : BInv es m t
  more : ∀ B ∈ s.blk, B ∈ t.blk
  gone : ∃ T : List Int, t.gone = s.gone ++ T ∧ T.Nodup ∧ (v : Int) ∈ T ∧ (∀ x ∈ T, Since m s t x) ∧ ((∀ a, ¬ A a) → T = [(v : Int)])
    ∧ (∀ x ∈ T, ∀ a, A a → ∀ u, Since m s t u → u ≠ x → Av es u x a)
    ∧ (∀ x, Since m s t x → x ∉ T → ∃ u, Since m s t u ∧ u ≠ x ∧ ∀ z, ¬ Since m s t z → ¬ Av es u x z)
    ∧ (∀ x, Since m s t x → x ∉ T → ∀ y, Adj es x y → ∃ B ∈ t.blk, IsB es x y B)

theorem vis_keep {m : Nat} {s t : Dst} (h : ∀ x, s.Vis m x → t.num x.toNat = s.num x.toNat) {x : Int} (hx : s.Vis m x) : t.Vis m x := ⟨hx.1, by rw [h x hx]; exact hx.2⟩
theorem vis_enter {m : Nat} {s : Dst} {v : Nat} (hv : v < m) {x : Int} : (s.enter v).Vis m x ↔ s.Vis m x ∨ x = v := by
  unfold Dst.Vis Dst.enter
  simp only
  constructor
  · rintro ⟨h1, h2⟩
    split at h2
    · exact Or.inr (by omega)
    · exact Or.inl ⟨h1, h2⟩
  · rintro (⟨h1, h2⟩ | rfl)
    · refine ⟨h1, ?_⟩
      split
      · omega
      · exact h2
    · exact ⟨by omega, by rw [if_pos (by omega)]; omega⟩

/-- The call begins. -/
theorem mid_start {es : List (Int × Int)} {m : Nat} {A : Int → Prop} {s : Dst} {v : Nat} (h : DPre es m A s v) : DMid es m A s v (fun _ => False) (s.enter v) ((s.cnt : Int) + 1) := by
  have hsi : ∀ x, Since m s (s.enter v) x ↔ x = v := fun x => by
    unfold Since
    rw [vis_enter h.lt]
    constructor
    · rintro ⟨h1 | h1, h2⟩
      · exact absurd h1 h2
      · exact h1
    · rintro rfl
      exact ⟨Or.inr rfl, h.new⟩
  have hnv : ∀ x, s.Vis m x → x ≠ v := fun x hx e => h.new (e ▸ hx)
  have hnum : ∀ x, s.Vis m x → (s.enter v).num x.toNat = s.num x.toNat := fun x hx => by
    have h1 := hnv x hx
    have h2 := hx.1
    unfold Dst.enter
    simp only
    rw [if_neg (by omega)]
  refine ⟨hnum, by unfold Dst.enter; simp, by unfold Dst.enter; simp, fun x hx => ?_, fun x hx => ?_, fun x hx => ?_, fun x hx hne => ?_, fun y hy => hy.elim, Int.le_refl _, fun x a hx _ _ hP => (hP ((hsi x).1 hx)).elim, Or.inl rfl, ⟨h.inv.is, fun B hB => ?_, h.inv.nd, fun x hx => ?_⟩, fun B hB => hB, [(v : Int)], rfl, by simp, by simp, fun x hx => ?_, fun _ => rfl, fun x hx a _ u hu hne => ?_, fun x hx hT => ?_, fun x hx hT => ?_⟩
  · rcases (vis_enter h.lt).1 hx with k | k
    · rw [hnum x k]
      have := h.le x k
      have : (s.enter v).cnt = s.cnt + 1 := rfl
      omega
    · subst k; unfold Dst.enter; simp
  · have := (hsi x).1 hx
    subst this
    unfold Dst.enter
    simp
    omega
  · have := (hsi x).1 hx
    subst this
    exact Con.refl _ _ _
  · exact absurd ((hsi x).1 hx) hne
  · obtain ⟨x, hx, hv, hg⟩ := h.inv.off B hB
    refine ⟨x, hx, (vis_enter h.lt).2 (Or.inl hv), fun k => ?_⟩
    rcases List.mem_append.1 k with k | k
    · exact hg k
    · exact hnv x hv (by simpa using k)
  · rcases List.mem_append.1 hx with k | k
    · exact (vis_enter h.lt).2 (Or.inl (h.inv.vis x k))
    · exact (vis_enter h.lt).2 (Or.inr (by simpa using k))
  · exact (hsi x).2 (by simpa using hx)
  · have e1 := (hsi u).1 hu
    have e2 : x = v := by simpa using hx
    exact absurd (e1.trans e2.symm) hne
  · exact absurd (by simpa using (hsi x).1 hx) hT
  · exact absurd (by simpa using (hsi x).1 hx) hT

/-- A neighbour that was come to ahead. -/
theorem mid_old {es : List (Int × Int)} {m : Nat} {A : Int → Prop} {s : Dst} {v : Nat} {P : Int → Prop} {t : Dst} {r w : Int} (h : DMid es m A s v P t r) (hS : Since m s t v) (hw : Adj es v w) (hv : t.Vis m w) : DMid es m A s v (fun y => P y ∨ y = w) t (min r (t.num w.toNat)) := by
  refine ⟨h.keep, h.own, h.cnt, h.le, h.gt, h.con, h.fin, fun y hy ha => ?_, ?_, fun x a hx ha hadj hP => ?_, ?_, h.inv, h.more, h.gone⟩
  · rcases hy with hy | hy
    · exact h.seen y hy ha
    · rw [hy]; exact hv
  · have := h.lowA; omega
  · by_cases hxv : x = v
    · rcases hP hxv with k | k
      · have := h.lowB x a hx ha hadj (fun _ => k); omega
      · subst k
        rw [← h.keep a ha]; omega
    · have := h.lowB x a hx ha hadj (fun e => absurd e hxv); omega
  · by_cases hlt : t.num w.toNat < r
    · rw [show min r (t.num w.toNat) = t.num w.toNat by omega]
      by_cases hs : s.Vis m w
      · exact Or.inr ⟨v, w, hS, hs, hw, (h.keep w hs).symm⟩
      · have := h.gt w ⟨hv, hs⟩
        have := h.lowA
        omega
    · rw [show min r (t.num w.toNat) = r by omega]
      exact h.lowC

/-- Ahead of the call for a neighbour. -/
theorem pre_next {n : Nat} {es : List (Int × Int)} {m : Nat} {A : Int → Prop} {s : Dst} {v : Nat} {P : Int → Prop} {t : Dst} {r w : Int} (hR : RightG m es) (hp : DPre es m A s v) (h : DMid es m A s v P t r) (hS : Since m s t v) (hw : Adj es v w) (hn : ¬ t.Vis m w) (e : n = w.toNat) : DPre es m (fun x => A x ∨ x = v) t n := by
  have hin := (hw.in hR).2.1
  have en : (n : Int) = w := by omega
  have hav : ∀ a, A a → ∀ u, ¬ (A u ∨ u = v) → Av es u a v := fun a ha u hu => by
    obtain ⟨p, hp1, hp2⟩ := hp.par a ha
    exact (hp.con u (fun k => hu (Or.inl k)) a p ha hp1).step hp2 (fun k => hu (Or.inl (k ▸ hp1))) (fun k => hu (Or.inr k.symm))
  refine ⟨by omega, by rw [en]; exact hn, fun a ha => ?_, fun u hu a b ha hb => ?_, fun x hx hA y hy => ?_, h.le, fun a _ => ⟨v, Or.inr rfl, by rw [en]; exact hw⟩, h.inv⟩
  · rcases ha with ha | rfl
    · exact vis_keep h.keep (hp.vis a ha)
    · exact hS.1
  · rcases ha with ha | rfl
    · rcases hb with hb | rfl
      · exact hp.con u (fun k => hu (Or.inl k)) a b ha hb
      · exact hav a ha u hu
    · rcases hb with hb | rfl
      · exact (hav b hb u hu).symm
      · exact Av.refl _ _ _
  · by_cases hs : s.Vis m x
    · exact vis_keep h.keep (hp.fin x hs (fun k => hA (Or.inl k)) y hy)
    · exact h.fin x ⟨hx, hs⟩ (fun k => hA (Or.inr k)) y hy

/-- Behind the call for a neighbour: what holds whether a block is cut off or not. -/
theorem since_next {m : Nat} {s t t2 : Dst} (h1 : ∀ x, s.Vis m x → t.Vis m x) (h2 : ∀ x, t.Vis m x → t2.Vis m x) (x : Int) : Since m s t2 x ↔ Since m s t x ∨ Since m t t2 x := by
  unfold Since
  constructor
  · rintro ⟨k1, k2⟩
    by_cases k : t.Vis m x
    · exact Or.inl ⟨k, k2⟩
    · exact Or.inr ⟨k1, k⟩
  · rintro (⟨k1, k2⟩ | ⟨k1, k2⟩)
    · exact ⟨h2 x k1, k2⟩
    · exact ⟨k1, fun k => k2 (h1 x k)⟩

/-- A neighbour that is come to now. -/
theorem mid_new {es : List (Int × Int)} {m : Nat} {A : Int → Prop} {s : Dst} {v : Nat} {P : Int → Prop} {t t2 : Dst} {r r2 w : Int} (hR : RightG m es) (hp : DPre es m A s v) (h : DMid es m A s v P t r) (hw : Adj es v w) (hn : ¬ t.Vis m w)
    (h2 : DMid es m (fun x => A x ∨ x = v) t w.toNat (fun _ => True) t2 r2) :
    DMid es m A s v (fun y => P y ∨ y = w) (if r2 < t2.num v then t2 else t2.cut t.gone.length v) (min r r2) := by
  have hwin := (hw.in hR).2.1
  have ew : ((w.toNat : Nat) : Int) = w := by omega
  have hv2 := hp.lt
  have hvw : (v : Int) ≠ w := (hw.in hR).2.2
  obtain ⟨T, g1, g2, g3, g4, g5, g6, g7, g8⟩ := h.gone
  obtain ⟨T2, k1, k2, k3, k4, k5, k6, k7, k8⟩ := h2.gone
  rw [ew] at k3 k5
  have hSv : Since m s t v := g4 v g3
  have hp2 := pre_next hR hp h hSv hw hn (rfl : w.toNat = w.toNat)
  have vk1 : ∀ x, s.Vis m x → t.Vis m x := fun x hx => vis_keep h.keep hx
  have vk2 : ∀ x, t.Vis m x → t2.Vis m x := fun x hx => vis_keep h2.keep hx
  have hsn := since_next vk1 vk2
  have hRw : Since m t t2 w := k4 w k3
  have hfin2 : ∀ x, Since m t t2 x → ∀ y, Adj es x y → t2.Vis m y := fun x hx y hy => by
    by_cases e : x = w
    · subst e; exact h2.seen y trivial (by rw [ew]; exact hy)
    · exact h2.fin x hx (by rw [ew]; exact e) y hy
  have hcon2 : ∀ x, Since m t t2 x → Con es (Since m t t2) w x := fun x hx => by have := h2.con x hx; rw [ew] at this; exact this
  have hown : t2.num v = (s.cnt : Int) + 1 := by
    have := h2.keep v hSv.1
    simp only [Int.toNat_natCast] at this
    rw [this]; exact h.own
  have hA : ∀ a, A a → a ≠ v := fun a ha e => hp.new (e ▸ hp.vis a ha)
  have hnA : ¬ A v := fun k => hA v k rfl
  have hvis2 : ∀ z, Since m s t2 z → ¬ A z := fun z hz k => hz.2 (hp.vis z k)
  -- from x in the new part to v, without u
  have toV : ∀ x, Since m t t2 x → ∀ u : Int, u ≠ v → ¬ Since m t t2 u → Av es u x v := fun x hx u hu hnu =>
    have hwu : w ≠ u := fun e => hnu (e ▸ hRw)
    have hall : ∀ z, Since m t t2 z → z ≠ u := fun z hz e => hnu (e ▸ hz)
    ((hcon2 x hx).av hwu hall).symm.step hw.symm hwu (fun e => hu e.symm)
  have toA : ∀ a, A a → ∀ u : Int, u ≠ v → ¬ A u → Av es u v a := fun a ha u hu hnu => by
    obtain ⟨p, hp1, hp3⟩ := hp.par a ha
    exact (Av.one hp3.symm (fun e => hu e.symm) (fun e => hnu (e ▸ hp1))).trans (hp.con u hnu p a hp1 ha)
  -- what the old part's vertices come to, without a new one
  have oldT : ∀ x ∈ T, ∀ a, A a → ∀ u, Since m s t2 u → u ≠ x → Av es u x a := fun x hx a ha u hu hux => by
    rcases (hsn u).1 hu with hu1 | hu1
    · exact g6 x hx a ha u hu1 hux
    · have hxs := g4 x hx
      have hnu : ∀ z, Since m s t z → z ≠ u := fun z hz e => hu1.2 (e ▸ hz.1)
      have huv : u ≠ v := fun e => hnu v hSv e.symm
      exact ((h.con x hxs).av (fun e => huv e.symm) hnu).symm.trans (toA a ha u huv (hvis2 u hu))
  have notT : ∀ x, Since m s t x → x ∉ T → ∃ u, Since m s t2 u ∧ u ≠ x ∧ ∀ z, ¬ Since m s t2 z → ¬ Av es u x z := fun x hx hxT => by
    obtain ⟨u, u1, u2, u3⟩ := g7 x hx hxT
    exact ⟨u, (hsn u).2 (Or.inl u1), u2, fun z hz => u3 z (fun k => hz ((hsn z).2 (Or.inl k)))⟩
  have notT2 : ∀ x, Since m t t2 x → x ∉ T2 → ∃ u, Since m s t2 u ∧ u ≠ x ∧ ∀ z, ¬ Since m s t2 z → ¬ Av es u x z := fun x hx hxT => by
    obtain ⟨u, u1, u2, u3⟩ := k7 x hx hxT
    exact ⟨u, (hsn u).2 (Or.inr u1), u2, fun z hz => u3 z (fun k => hz ((hsn z).2 (Or.inr k)))⟩
  have hTs : ∀ x ∈ T, x ∉ T2 := fun x h1 h3 => (k4 x h3).2 (g4 x h1).1
  have hconv : ∀ x, Since m s t2 x → Con es (Since m s t2) v x := fun x hx => by
    rcases (hsn x).1 hx with hx1 | hx1
    · exact (h.con x hx1).mono (fun z hz => (hsn z).2 (Or.inl hz))
    · exact (Con.one hw ((hsn w).2 (Or.inr hRw))).trans ((hcon2 x hx1).mono (fun z hz => (hsn z).2 (Or.inr hz)))
  have hkeep : ∀ x, s.Vis m x → t2.num x.toNat = s.num x.toNat := fun x hx => (h2.keep x (vk1 x hx)).trans (h.keep x hx)
  have hgt : ∀ x, Since m s t2 x → (s.cnt : Int) < t2.num x.toNat := fun x hx => by
    rcases (hsn x).1 hx with hx1 | hx1
    · rw [h2.keep x hx1.1]; exact h.gt x hx1
    · have := h2.gt x hx1
      have := h.cnt
      omega
  have hfin : ∀ x, Since m s t2 x → x ≠ v → ∀ y, Adj es x y → t2.Vis m y := fun x hx hxv y hy => by
    rcases (hsn x).1 hx with hx1 | hx1
    · exact vk2 y (h.fin x hx1 hxv y hy)
    · exact hfin2 x hx1 y hy
  have hseen : ∀ y, (P y ∨ y = w) → Adj es v y → t2.Vis m y := fun y hy ha => by
    rcases hy with hy | rfl
    · exact vk2 y (h.seen y hy ha)
    · exact hRw.1
  have hlowB : ∀ x a, Since m s t2 x → s.Vis m a → Adj es x a → (x = v → (P a ∨ a = w)) → min r r2 ≤ s.num a.toNat := fun x a hx ha hadj hP => by
    rcases (hsn x).1 hx with hx1 | hx1
    · have := h.lowB x a hx1 ha hadj (fun e => (hP e).elim id (fun k => absurd (vk1 a ha) (k ▸ hn)))
      omega
    · have := h2.lowB x a hx1 (vk1 a ha) hadj (fun _ => trivial)
      rw [h.keep a ha] at this
      omega
  have hlowA : min r r2 ≤ (s.cnt : Int) + 1 := by have := h.lowA; omega
  have hcnt : s.cnt < t2.cnt := Nat.lt_trans h.cnt h2.cnt
  by_cases hcut : r2 < t2.num v
  · rw [if_pos hcut]
    rw [hown] at hcut
    -- one comes from the new part past v
    obtain ⟨x0, a0, x1, a1, a2, a3⟩ : ∃ x a, Since m t t2 x ∧ A a ∧ Adj es x a ∧ t.num a.toNat = r2 := by
      rcases h2.lowC with e | ⟨x, a, hx, ha, hadj, e⟩
      · have := h.cnt; omega
      · have hAa : A a ∨ a = v := Classical.byContradiction (fun k => hx.2 (hp2.fin a ha k x hadj.symm))
        rcases hAa with k | k
        · exact ⟨x, a, hx, k, hadj, e⟩
        · subst k
          simp only [Int.toNat_natCast] at e
          rw [h.own] at e
          omega
    refine ⟨hkeep, hown, hcnt, h2.le, hgt, hconv, hfin, hseen, hlowA, hlowB, ?_, h2.inv, fun B hB => h2.more B (h.more B hB), T ++ T2, ?_, ?_, List.mem_append_left _ g3, ?_, ?_, ?_, ?_, ?_⟩
    · by_cases hlt : r2 < r
      · rw [show min r r2 = r2 by omega]
        exact Or.inr ⟨x0, a0, (hsn x0).2 (Or.inr x1), hp.vis a0 a1, a2, by rw [← a3, h.keep a0 (hp.vis a0 a1)]⟩
      · rw [show min r r2 = r by omega]
        rcases h.lowC with e | ⟨x, a, hx, ha, hadj, e⟩
        · exact Or.inl e
        · exact Or.inr ⟨x, a, (hsn x).2 (Or.inl hx), ha, hadj, e⟩
    · rw [k1, g1, List.append_assoc]
    · rw [List.nodup_append]
      exact ⟨g2, k2, fun a ha b hb e => hTs a ha (e ▸ hb)⟩
    · intro x hx
      rcases List.mem_append.1 hx with hx | hx
      · exact (hsn x).2 (Or.inl (g4 x hx))
      · exact (hsn x).2 (Or.inr (k4 x hx))
    · intro hno
      exact absurd a1 (hno a0)
    · intro x hx a ha u hu hux
      rcases List.mem_append.1 hx with hx | hx
      · exact oldT x hx a ha u hu hux
      · have hx2 := k4 x hx
        by_cases huv : u = v
        · subst huv
          have h3 : Av es v x x0 := ((hcon2 x hx2).av (fun e => hvw e.symm) (fun z hz e => hz.2 (e ▸ hSv.1))).symm.trans ((hcon2 x0 x1).av (fun e => hvw e.symm) (fun z hz e => hz.2 (e ▸ hSv.1)))
          exact (h3.step a2 (fun e => x1.2 (e ▸ hSv.1)) (hA a0 a1)).trans (hp.con v hnA a0 a a1 ha)
        · rcases (hsn u).1 hu with hu1 | hu1
          · exact (toV x hx2 u huv (fun k => k.2 hu1.1)).trans (toA a ha u huv (hvis2 u hu))
          · exact k6 x hx a (Or.inl ha) u hu1 hux
    · intro x hx hxT
      rcases (hsn x).1 hx with hx1 | hx1
      · exact notT x hx1 (fun k => hxT (List.mem_append_left _ k))
      · exact notT2 x hx1 (fun k => hxT (List.mem_append_right _ k))
    · intro x hx hxT y hy
      rcases (hsn x).1 hx with hx1 | hx1
      · obtain ⟨B, hB, hb⟩ := g8 x hx1 (fun k => hxT (List.mem_append_left _ k)) y hy
        exact ⟨B, h2.more B hB, hb⟩
      · exact k8 x hx1 (fun k => hxT (List.mem_append_right _ k)) y hy
  · rw [if_neg hcut]
    rw [hown] at hcut
    -- the new part hangs on v alone
    have att : ∀ x, Since m t t2 x → ∀ y, Adj es x y → Since m t t2 y ∨ y = v := fun x hx y hy => by
      by_cases ht : t.Vis m y
      · right
        have hAy : A y ∨ y = v := Classical.byContradiction (fun k => hx.2 (hp2.fin y ht k x hy.symm))
        rcases hAy with k | k
        · have q1 := h2.lowB x y hx ht hy (fun _ => trivial)
          have q2 := hp.le y (hp.vis y k)
          rw [h.keep y (hp.vis y k)] at q1
          omega
        · exact k
      · exact Or.inl ⟨hfin2 x hx y hy, ht⟩
    have stay : ∀ x, Since m t t2 x → ∀ z, Av es v x z → Since m t t2 z := fun x hx z hz =>
      hz (Since m t t2) hx (fun p q hq ha _ hqv => (att p hq q ha).resolve_right hqv)
    have hvT2 : (v : Int) ∉ T2 := fun k => (k4 _ k).2 hSv.1
    -- what is cut off is the block of v and w
    have hblk : ∀ x, (x ∈ T2 ∨ x = v) ↔ Bl es ((v : Int), w) x := fun x => by
      constructor
      · rintro (hx | rfl)
        · have hx2 := k4 x hx
          have hxv : x ≠ v := fun e => hvT2 (e ▸ hx)
          -- from x to v without u
          have hxV : ∀ u : Int, u ≠ v → u ≠ x → Av es u x v := fun u huv hux => by
            by_cases hu : Since m t t2 u
            · exact k6 x hx v (Or.inr rfl) u hu hux
            · exact toV x hx2 u huv hu
          refine bl_of hw hvw (fun u p hpe hpu hxu => ?_)
          rcases hpe with hpe | hpe
          · have e1 : p = v := hpe
            subst e1
            exact (hxV u (fun e => hpu e.symm) (fun e => hxu e.symm)).symm
          · have e1 : p = w := hpe
            subst e1
            by_cases huv : u = v
            · subst huv
              exact (hcon2 x hx2).av hpu (fun z hz e => hz.2 (e ▸ hSv.1))
            · exact (Av.one hw.symm hpu (fun e => huv e.symm)).trans (hxV u huv (fun e => hxu e.symm)).symm
        · exact Bl.own (e := ((v : Int), w)) hw (Or.inl rfl)
      · intro hb
        by_cases hxv : x = v
        · exact Or.inr hxv
        left
        have hx2 : Since m t t2 x := stay w hRw x (hb.av (e := ((v : Int), w)) (Or.inr rfl) (fun e => hvw e.symm) hxv)
        apply Classical.byContradiction
        intro hxT
        obtain ⟨u, u1, u2, u3⟩ := k7 x hx2 hxT
        have huv : u ≠ v := fun e => u1.2 (e ▸ hSv.1)
        exact u3 v (fun k => k.2 hSv.1) (hb.av (e := ((v : Int), w)) (Or.inl rfl) (fun e => huv e.symm) (fun e => u2 e.symm)).symm
    have hgd : t2.gone.drop t.gone.length = T2 := by rw [k1, List.drop_left]
    have hgt2 : t2.gone.take t.gone.length = t.gone := by rw [k1, List.take_left]
    have hmem : ∀ x, x ∈ isrt (T2 ++ [(v : Int)]) ↔ x ∈ T2 ∨ x = v := fun x => by
      rw [(isrt_perm _).mem_iff, List.mem_append, List.mem_singleton]
    have hnd : (T2 ++ [(v : Int)]).Nodup := by
      rw [List.nodup_append]
      exact ⟨k2, by simp, fun a ha b hb e => hvT2 (by simp at hb; rw [← hb, ← e]; exact ha)⟩
    have hIsB : IsB es v w (isrt (T2 ++ [(v : Int)])) := ⟨isrt_rises hnd, fun z => (hmem z).trans (hblk z)⟩
    have hvc : ∀ x, (t2.cut t.gone.length v).Vis m x ↔ t2.Vis m x := fun x => Iff.rfl
    have hblkc : (t2.cut t.gone.length v).blk = t2.blk ++ [isrt (T2 ++ [(v : Int)])] := by unfold Dst.cut; simp only; rw [hgd]
    have hgc : (t2.cut t.gone.length v).gone = t.gone := by unfold Dst.cut; simp only; rw [hgt2]
    have hnew : isrt (T2 ++ [(v : Int)]) ∉ t2.blk := fun k => by
      obtain ⟨x, hx, _, hg⟩ := h2.inv.off _ k
      rcases (hmem x).1 hx with hx | rfl
      · exact hg (by rw [k1]; exact List.mem_append_right _ hx)
      · exact hg (by rw [k1, g1]; exact List.mem_append_left _ (List.mem_append_right _ g3))
    refine ⟨hkeep, hown, hcnt, h2.le, hgt, hconv, hfin, hseen, hlowA, hlowB, ?_, ⟨?_, ?_, ?_, ?_⟩, ?_, T, by rw [hgc]; exact g1, g2, g3, fun x hx => (hsn x).2 (Or.inl (g4 x hx)), g5, oldT, ?_, ?_⟩
    · have := h.lowA
      rw [show min r r2 = r by omega]
      rcases h.lowC with e | ⟨x, a, hx, ha, hadj, e⟩
      · exact Or.inl e
      · exact Or.inr ⟨x, a, (hsn x).2 (Or.inl hx), ha, hadj, e⟩
    · intro B hB
      rw [hblkc] at hB
      rcases List.mem_append.1 hB with hB | hB
      · exact h2.inv.is B hB
      · simp at hB; subst hB
        exact ⟨hIsB.1, v, w, hw, hIsB.2⟩
    · intro B hB
      rw [hblkc] at hB
      rcases List.mem_append.1 hB with hB | hB
      · obtain ⟨x, hx, hv, hg⟩ := h2.inv.off B hB
        exact ⟨x, hx, hv, fun k => hg (by rw [hgc] at k; rw [k1]; exact List.mem_append_left _ k)⟩
      · simp at hB; subst hB
        exact ⟨w, (hmem w).2 (Or.inl k3), hRw.1, fun k => by rw [hgc] at k; exact hn (h.inv.vis w k)⟩
    · rw [hblkc, List.nodup_append]
      exact ⟨h2.inv.nd, by simp, fun a ha b hb e => hnew (by simp at hb; rw [← hb, ← e]; exact ha)⟩
    · intro x hx
      rw [hgc] at hx
      exact vk2 x (h.inv.vis x hx)
    · intro B hB
      rw [hblkc]
      exact List.mem_append_left _ (h2.more B (h.more B hB))
    · intro x hx hxT
      rcases (hsn x).1 hx with hx1 | hx1
      · exact notT x hx1 hxT
      · by_cases hx2 : x ∈ T2
        · exact ⟨v, (hsn v).2 (Or.inl hSv), fun e => hvT2 (e ▸ hx2), fun z hz hav => hz ((hsn z).2 (Or.inr (stay x hx1 z hav)))⟩
        · exact notT2 x hx1 hx2
    · intro x hx hxT y hy
      rw [hblkc]
      rcases (hsn x).1 hx with hx1 | hx1
      · obtain ⟨B, hB, hb⟩ := g8 x hx1 hxT y hy
        exact ⟨B, List.mem_append_left _ (h2.more B hB), hb⟩
      · by_cases hx2 : x ∈ T2
        · by_cases hy2 : y ∈ T2 ∨ y = v
          · exact ⟨_, List.mem_append_right _ (List.mem_singleton.2 rfl), hIsB.other hR hw hy ((hmem x).2 (Or.inl hx2)) ((hmem y).2 hy2)⟩
          · have hy3 : Since m t t2 y := (att x hx1 y hy).resolve_right (fun e => hy2 (Or.inr e))
            obtain ⟨B, hB, hb⟩ := k8 y hy3 (fun k => hy2 (Or.inl k)) x hy.symm
            exact ⟨B, List.mem_append_left _ hB, hb.turn⟩
        · obtain ⟨B, hB, hb⟩ := k8 x hx1 hx2 y hy
          exact ⟨B, List.mem_append_left _ hB, hb⟩
end Go.Proofs.Ytlebimolgienkaa
