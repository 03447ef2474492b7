/-
  The row of an edge: for each vertex, what an end that is another one belongs to without it (layer 7). No program is named here.
  The blocks of the first edges, one behind the other (layer 7). No program is named here.
  A search in depth that cuts off what hangs on one vertex alone (layer 7): what it cuts off is the blocks. No program is named here.
  The whole search (layer 7): how much memory it wants, and that the blocks of a graph are what it cuts off. No program is named here.
  What the laws of layer 7 ask of the program's blocks: contracts; what is told of a graph's blocks is one answer.
  How the document finds blocks (layer 7): what its loops keep. No program is named here.
  The part that leaves a vertex out, as the document's Of joins it (layer 7).
  The rows of the edges, one number more, as the document's Of lays them (layer 7).
  The document's tree while blocks are laid into it (layer 7): its variable, its rows, a header written over.
  The program's changes of a model's sets: a copy, room for a vertex, a vertex more (H3).
  The program's Lift and Drop: the sets anew (H3).
-/
import Derived.Test.YtckcbaegehfkoaaC15
import Derived.Test.YtckcbaegehfkoaaC04
import Derived.Test.YtckcbaegehfkoaaRows
import Derived.Test.YtckcbaegehfkoaaC07
import Derived.Test.YtckcbaegehfkoaaC12
import Derived.Test.YtckcbaegehfkoaaC20
import Derived.Test.YtckcbaegehfkoaaC05
import Derived.Test.YtckcbaegehfkoaaC06
import Derived.Lib.Walk
namespace Go.Proofs.Ytckcbaegehfkoaa

/-- An end of e that is not v. -/
def offEnd (v : Nat) (e : Int × Int) : Nat := if e.1 = v then e.2.toNat else e.1.toNat
end Go.Proofs.Ytckcbaegehfkoaa
namespace Go.Proofs.Ytckcbaegehfkoaa

/-- A row laid into rows in their order. -/
def insR (l : List Int) : List (List Int) → List (List Int)
  | [] => [l]
  | x :: xs => if lexL l x then l :: x :: xs else x :: insR l xs
theorem mem_insR {l y : List Int} : ∀ {xs : List (List Int)}, y ∈ insR l xs ↔ y = l ∨ y ∈ xs
  | [] => by simp [insR]
  | x :: xs => by
    unfold insR
    split
    · simp
    · rw [List.mem_cons, mem_insR, List.mem_cons]
      constructor
      · rintro (h | h | h)
        · exact Or.inr (Or.inl h)
        · exact Or.inl h
        · exact Or.inr (Or.inr h)
      · rintro (h | h | h)
        · exact Or.inr (Or.inl h)
        · exact Or.inl h
        · exact Or.inr (Or.inr h)
theorem insR_ord {l : List Int} : ∀ {xs : List (List Int)}, xs.Pairwise (fun A B => lexL A B = true) → l ∉ xs → (insR l xs).Pairwise (fun A B => lexL A B = true)
  | [], _, _ => by simp [insR]
  | x :: xs, h, hn => by
    rw [List.pairwise_cons] at h
    unfold insR
    split
    · rename_i hlx
      rw [List.pairwise_cons]
      refine ⟨fun y hy => ?_, List.pairwise_cons.2 h⟩
      rcases List.mem_cons.1 hy with e | hy
      · rw [e]; exact hlx
      · exact lexL_trans hlx (h.1 y hy)
    · rename_i hlx
      have hxl : lexL x l = true := by
        cases k : lexL x l with
        | true => rfl
        | false => exact absurd (lexL_tri (by simpa using hlx) k) (fun e => hn (by rw [e]; simp))
      rw [List.pairwise_cons]
      refine ⟨fun y hy => ?_, insR_ord h.2 (fun k => hn (List.mem_cons_of_mem _ k))⟩
      rcases mem_insR.1 hy with e | hy
      · rw [e]; exact hxl
      · exact h.1 y hy
/-- What stands there behind the first i edges. -/
structure BlkUpto (es : List (Int × Int)) (i : Nat) (Bs : List (List Int)) : Prop where
  is : ∀ B, B ∈ Bs → ∃ j, ∃ h : j < es.length, j < i ∧ B.Pairwise (· < ·) ∧ ∀ x, x ∈ B ↔ Bl es es[j] x
  all : ∀ j (h : j < es.length), j < i → ∃ B, B ∈ Bs ∧ ∀ x, x ∈ B ↔ Bl es es[j] x
  ord : Bs.Pairwise (fun A B => lexL A B = true)
theorem BlkUpto.nil (es : List (Int × Int)) : BlkUpto es 0 [] := ⟨fun _ h => absurd h (by simp), fun _ _ h => absurd h (by omega), List.Pairwise.nil⟩
/-- One that belongs with none ahead of it adds its block. -/
theorem BlkUpto.add {n : Int} {es : List (Int × Int)} {i : Nat} {Bs : List (List Int)} {l : List Int} (hR : RightG n es) (h : BlkUpto es i Bs) (hi : i < es.length) (hd : ∀ j (hj : j < es.length), j < i → ¬ Tog es es[j] es[i]) (hu : l.Pairwise (· < ·)) (hl : ∀ x, x ∈ l ↔ Bl es es[i] x) : BlkUpto es (i + 1) (insR l Bs) := by
  have n2 := (hR.2.2.2.1 es[i] (List.getElem_mem hi)).2.1
  have hai : Adj es es[i].1 es[i].2 := Or.inl (List.getElem_mem hi)
  refine ⟨fun B hB => ?_, fun j hj hji => ?_, insR_ord h.ord (fun k => ?_)⟩
  · rcases mem_insR.1 hB with e | hB
    · exact ⟨i, hi, by omega, by rw [e]; exact hu, fun x => by rw [e]; exact hl x⟩
    · obtain ⟨j, hj, h1, h2⟩ := h.is B hB
      exact ⟨j, hj, by omega, h2⟩
  · by_cases e : j < i
    · obtain ⟨B, hB, ib⟩ := h.all j hj e
      exact ⟨B, mem_insR.2 (Or.inr hB), ib⟩
    · have e2 : j = i := by omega
      subst e2
      exact ⟨l, mem_insR.2 (Or.inl rfl), hl⟩
  · obtain ⟨j, hj, h1, _, ib⟩ := h.is l k
    have k1 := (ib _).1 ((hl _).2 (Bl.own hai (Or.inl rfl)))
    have k2 := (ib _).1 ((hl _).2 (Bl.own hai (Or.inr rfl)))
    exact hd j hj h1 (edge_in (x := es[i].1) (y := es[i].2) hai (by omega) k1 k2)
/-- Behind the last edge these are all blocks. -/
theorem BlkUpto.whole {es : List (Int × Int)} {i : Nat} {Bs : List (List Int)} (h : BlkUpto es i Bs) (hi : es.length ≤ i) : BlocksL es Bs := by
  refine ⟨fun B => ⟨fun hB => ?_, fun hB => ?_⟩, h.ord⟩
  · obtain ⟨j, hj, _, h2, h3⟩ := h.is B hB
    exact ⟨h2, es[j].1, es[j].2, Or.inl (List.getElem_mem hj), h3⟩
  · obtain ⟨hu, a, b, hab, ib⟩ := hB
    have fin : ∀ e : Int × Int, e ∈ es → (∀ x, x ∈ B ↔ Bl es e x) → B ∈ Bs := fun e he ie => by
      obtain ⟨j, hj, e2⟩ := List.getElem_of_mem he
      obtain ⟨C, hC, ic⟩ := h.all j hj (by omega)
      obtain ⟨_, _, _, uC, _⟩ := h.is C hC
      have : B = C := up_oneB hu uC (fun x => by rw [ie, ic, e2])
      rw [this]; exact hC
    rcases hab with hm | hm
    · exact fin (a, b) hm ib
    · refine fin (b, a) hm (fun x => (ib x).trans ⟨?_, ?_⟩)
      · rintro ⟨f, hf, ht, hx⟩; exact ⟨f, hf, Tog.turn ht, hx⟩
      · rintro ⟨f, hf, ht, hx⟩; exact ⟨f, hf, Tog.turn ht, hx⟩
end Go.Proofs.Ytckcbaegehfkoaa
namespace Go.Proofs.Ytckcbaegehfkoaa

/-- A search under way: the numbers of the vertices come to, how many they are, those gone through, the blocks cut off. -/
structure Dst where
  num : Nat → Int
  cnt : Nat
  gone : List Int
  blk : List (List Int)
def Dst.enter (s : Dst) (v : Nat) : Dst := ⟨fun x => if x = v then (s.cnt : Int) + 1 else s.num x, s.cnt + 1, s.gone ++ [(v : Int)], s.blk⟩
/-- One comes from v to x within R. -/
def Con (es : List (Int × Int)) (R : Int → Prop) (v x : Int) : Prop := ∀ S : Int → Prop, S v → (∀ u w, S u → Adj es u w → R w → S w) → S x
theorem Con.refl (es : List (Int × Int)) (R : Int → Prop) (v : Int) : Con es R v v := fun _ h _ => h
theorem Con.mono {es : List (Int × Int)} {R Q : Int → Prop} {v x : Int} (h : Con es R v x) (hs : ∀ z, R z → Q z) : Con es Q v x := fun _ h0 hst => h _ h0 (fun u w hu ha hw => hst u w hu ha (hs w hw))
theorem Con.trans {es : List (Int × Int)} {R : Int → Prop} {v x y : Int} (h : Con es R v x) (k : Con es R x y) : Con es R v y := fun S h0 hs => k S (h S h0 hs) hs
theorem Con.one {es : List (Int × Int)} {R : Int → Prop} {v x : Int} (ha : Adj es v x) (hx : R x) : Con es R v x := fun _ h0 hs => hs v x h0 ha hx
/-- What is come to within R is come to without u, if u is not in R. -/
theorem Con.av {es : List (Int × Int)} {R : Int → Prop} {u v x : Int} (h : Con es R v x) (hv : v ≠ u) (hu : ∀ z, R z → z ≠ u) : Av es u v x :=
  (h (fun z => z ≠ u ∧ Av es u v z) ⟨hv, Av.refl _ _ _⟩ (fun _ q hp ha hq => ⟨hu q hq, hp.2.step ha hp.1 (hu q hq)⟩)).2

/-- A row is the block of the edge (a, b). -/
def IsB (es : List (Int × Int)) (a b : Int) (B : List Int) : Prop := B.Pairwise (· < ·) ∧ ∀ z, z ∈ B ↔ Bl es (a, b) z
theorem IsB.turn {es : List (Int × Int)} {a b : Int} {B : List Int} (h : IsB es a b B) : IsB es b a B := ⟨h.1, fun z => (h.2 z).trans ⟨fun ⟨f, hf, ht, hx⟩ => ⟨f, hf, Tog.turn ht, hx⟩, fun ⟨f, hf, ht, hx⟩ => ⟨f, hf, Tog.turn ht, hx⟩⟩⟩
theorem IsB.other {n : Int} {es : List (Int × Int)} {a b c d : Int} {B : List Int} (hR : RightG n es) (hab : Adj es a b) (hcd : Adj es c d) (h : IsB es a b B) (h1 : c ∈ B) (h2 : d ∈ B) : IsB es c d B := by
  have ht := edge_in hcd (hcd.in hR).2.2 ((h.2 c).1 h1) ((h.2 d).1 h2)
  exact ⟨h.1, fun z => (h.2 z).trans ⟨fun k => k.tog (hab.in hR).2.2 ht, fun k => k.tog (hcd.in hR).2.2 ht.symm⟩⟩

end Go.Proofs.Ytckcbaegehfkoaa
namespace Go.Proofs.Ytckcbaegehfkoaa

/-- How many were not come to. -/
def unv (m : Nat) (num : Nat → Int) : Nat := ((List.range m).filter (fun x => decide (num x = 0))).length
/-- What a search holds: no more than vertices. -/
structure DSz (m : Nat) (s : Dst) : Prop where
  sum : s.cnt + unv m s.num ≤ m
  gone : s.gone.length ≤ s.cnt
  blk : s.blk.length ≤ s.cnt
  pos : ∀ x, 0 ≤ s.num x
/-- What a call leaves, as far as its sizes go; d: the call's own vertex, if a block was not cut off behind it. -/
structure DGr (m : Nat) (s t : Dst) (d : Nat) : Prop where
  sz : DSz m t
  cnt : s.cnt + d ≤ t.cnt
  gone : ∃ T, t.gone = s.gone ++ T ∧ T.length + s.cnt ≤ t.cnt ∧ d ≤ T.length
  blk : t.blk.length + s.cnt + d ≤ s.blk.length + t.cnt
  unv : unv m t.num + d ≤ unv m s.num
theorem DGr.refl {m : Nat} {s : Dst} (h : DSz m s) : DGr m s s 0 := ⟨h, by omega, ⟨[], by simp, by simp, by simp⟩, by omega, by omega⟩
def Dst.zero : Dst := ⟨fun _ => 0, 0, [], []⟩
end Go.Proofs.Ytckcbaegehfkoaa
namespace Go.Proofs.Ytckcbaegehfkoaa
open Go.RowKit Go.Lib

/-- What Of tells (G2). -/
def OfRel (n : Int) (es : List (Int × Int)) (Cs : List Int) (Bs : List (List Int)) : Prop := (RightG n es ∧ BlocksL es Bs ∧ CutsL es Cs) ∨ (¬ RightG n es ∧ Cs = [] ∧ Bs = [])
theorem OfRel.one {n : Int} {es : List (Int × Int)} {Cs Ds : List Int} {Bs As : List (List Int)} (h : OfRel n es Cs Bs) (k : OfRel n es Ds As) : Cs = Ds ∧ Bs = As := by
  rcases h with ⟨h1, h2, h3⟩ | ⟨h1, h2, h3⟩
  · rcases k with ⟨_, k2, k3⟩ | ⟨k1, _, _⟩
    · exact ⟨h3.one k3, h2.one k2⟩
    · exact absurd h1 k1
  · rcases k with ⟨k1, _, _⟩ | ⟨_, k2, k3⟩
    · exact absurd k1 h1
    · exact ⟨h2.trans k2.symm, h3.trans k3.symm⟩
/-- How many blocks there are, and how many vertices each has. -/
theorem blk_len {m : Nat} {es : List (Int × Int)} {B : List Int} (hR : RightG m es) (hB : IsBlk es B) : B.length ≤ m := by
  have hnd : B.Nodup := by rw [List.nodup_iff_pairwise_ne]; exact hB.1.imp (fun h => by omega)
  have hin := hB.in hR
  have := len_le_subI (a := B) (b := (List.range m).map (fun i : Nat => (i : Int))) hnd (fun x hx => by
    have := hin x hx
    exact List.mem_map.2 ⟨x.toNat, List.mem_range.2 (by omega), by omega⟩)
  simpa using this
theorem sum_ge (l : List Nat) (h : ∀ x ∈ l, 1 ≤ x) : l.length ≤ l.sum := by
  induction l with
  | nil => simp
  | cons x l ih =>
    have h1 := h x (by simp)
    have h2 := ih (fun y hy => h y (List.mem_cons_of_mem _ hy))
    simp
    omega
theorem blks_len {m : Nat} {es : List (Int × Int)} {Bs : List (List Int)} (hR : RightG m es) (hB : BlocksL es Bs) : Bs.length ≤ m := by
  obtain ⟨g, hg, hT⟩ := tells_ex (n := m) (prsN es) (prsN_in hR)
  have h := block_count hR hB hg hT
  have h2 := sum_ge (Bs.map (fun B => B.length - 1)) (fun x hx => by
    obtain ⟨B, hb, rfl⟩ := List.mem_map.1 hx
    have := blk_two hR ((hB.is B).1 hb)
    omega)
  rw [List.length_map] at h2
  omega
theorem OfRel.len {n : Int} {es : List (Int × Int)} {Cs : List Int} {Bs : List (List Int)} (h : OfRel n es Cs Bs) : Bs.length ≤ 1000 ∧ (∀ B ∈ Bs, B.length ≤ 1000) ∧ Cs.length ≤ 1000 := by
  rcases h with ⟨hR, hB, hC⟩ | ⟨_, rfl, rfl⟩
  · obtain ⟨m, rfl⟩ : ∃ m : Nat, n = m := ⟨n.toNat, by have := hR.1; omega⟩
    have hm := hR.2.1
    refine ⟨by have := blks_len hR hB; omega, fun B hb => by have := blk_len hR ((hB.is B).1 hb); omega, ?_⟩
    have hnd : Cs.Nodup := by rw [List.nodup_iff_pairwise_ne]; exact hC.up.imp (fun h => by omega)
    have := len_le_subI (a := Cs) (b := (List.range m).map (fun i : Nat => (i : Int))) hnd (fun x hx => by
      obtain ⟨y, z, hy, _⟩ := (hC.is x).1 hx
      have := (hy.in hR).1
      exact List.mem_map.2 ⟨x.toNat, List.mem_range.2 (by omega), by omega⟩)
    simp at this
    omega
  · simp
end Go.Proofs.Ytckcbaegehfkoaa
namespace Go.Proofs.Ytckcbaegehfkoaa

/-- How the rows stand while l is laid in: it stands at k. -/
def midR (l : List Int) (Bs : List (List Int)) (k : Nat) : List (List Int) := Bs.take k ++ l :: Bs.drop k
theorem midR_len {l : List Int} {Bs : List (List Int)} {k : Nat} (hk : k ≤ Bs.length) : (midR l Bs k).length = Bs.length + 1 := by
  unfold midR
  rw [List.length_append, List.length_cons, List.length_take, List.length_drop]; omega
theorem midR_at {l : List Int} {Bs : List (List Int)} {k : Nat} (hk : k ≤ Bs.length) {j : Nat} (hj : j < k) : (midR l Bs k)[j]? = Bs[j]? := by
  unfold midR
  rw [List.getElem?_append_left (by rw [List.length_take]; omega), List.getElem?_take_of_lt hj]
/-- One place down. -/
theorem midR_step {l : List Int} {Bs : List (List Int)} {k : Nat} (hk : k + 1 ≤ Bs.length) : midR l Bs k = ((midR l Bs (k + 1)).set (k + 1) (Bs[k]'(by omega))).set k l := by
  apply List.ext_getElem?
  intro j
  unfold midR
  have hl1 : (Bs.take k).length = k := by rw [List.length_take]; omega
  have hl2 : (Bs.take (k + 1)).length = k + 1 := by rw [List.length_take]; omega
  have hT : (Bs.take (k + 1) ++ l :: Bs.drop (k + 1)).length = Bs.length + 1 := by rw [List.length_append, List.length_cons, hl2, List.length_drop]; omega
  by_cases e : j = k
  · subst e
    rw [List.getElem?_set_self (by rw [List.length_set, hT]; omega), List.getElem?_append_right (by omega), hl1]
    simp
  · rw [List.getElem?_set_ne (fun h => e h.symm)]
    by_cases e2 : j = k + 1
    · subst e2
      rw [List.getElem?_set_self (by rw [hT]; omega), List.getElem?_append_right (by omega), hl1]
      simp
    · rw [List.getElem?_set_ne (fun h => e2 h.symm)]
      by_cases e3 : j < k
      · rw [List.getElem?_append_left (by omega), List.getElem?_append_left (by omega), List.getElem?_take_of_lt e3, List.getElem?_take_of_lt (by omega)]
      · rw [List.getElem?_append_right (by omega), List.getElem?_append_right (by omega), hl1, hl2]
        obtain ⟨d, rfl⟩ : ∃ d, j = k + 2 + d := ⟨j - (k + 2), by omega⟩
        rw [show k + 2 + d - k = (d + 1) + 1 by omega, show k + 2 + d - (k + 1) = d + 1 by omega, List.getElem?_cons_succ, List.getElem?_cons_succ, List.getElem?_drop, List.getElem?_drop]
        congr 1
        omega
/-- The rows of edges, as numbers. -/
def clsI (F : Nat → Nat → Nat) (t : Nat) (e : Int × Int) : List Int := (List.range t).map (fun v => (F v (offEnd v e) : Int))
theorem clsI_next (F : Nat → Nat → Nat) (t : Nat) (e : Int × Int) : clsI F (t + 1) e = clsI F t e ++ [(F t (offEnd t e) : Int)] := by
  unfold clsI
  rw [List.range_succ, List.map_append]; rfl
theorem clsI_len (F : Nat → Nat → Nat) (t : Nat) (e : Int × Int) : (clsI F t e).length = t := by unfold clsI; simp
end Go.Proofs.Ytckcbaegehfkoaa
namespace Go.Proofs.Ytckcbaegehfkoaa
open Go.RowKit Go.Lib

theorem offL_take {v : Int} {es : List (Int × Int)} {k : Nat} (hk : k < es.length) : offL v (es.take (k + 1)) = offL v (es.take k) ++ (if es[k].1 ≠ v ∧ es[k].2 ≠ v then [es[k]] else []) := by
  unfold offL
  rw [List.take_succ_eq_append_getElem hk, List.filter_append]
  congr 1
  by_cases h1 : es[k].1 = v
  · simp [h1]
  · by_cases h2 : es[k].2 = v
    · simp [h2]
    · simp [h1, h2]
/-- The part without v, behind the first k edges. -/
def PartTo (w : World) (b g : Nat) (a : Option Addr) (c m v k : Nat) (es : List (Int × Int)) : Prop := ∃ f, Pt m f ∧ Tells m f (prsN (offL (v : Int) (es.take k))) ∧ QAt w b g a m c f
theorem PartTo.below {w w' : World} {b g : Nat} {a : Option Addr} {c m v k : Nat} {es : List (Int × Int)} (h : PartTo w b g a c m v k es) (hb : Below w.heap.size w w') : PartTo w' b g a c m v k es := by
  obtain ⟨f, h1, h2, h3⟩ := h
  exact ⟨f, h1, h2, h3.below hb⟩
theorem PartTo.skip {w : World} {b g : Nat} {a : Option Addr} {c m v k : Nat} {es : List (Int × Int)} (h : PartTo w b g a c m v k es) (hk : k < es.length) (hn : ¬ (es[k].1 ≠ (v : Int) ∧ es[k].2 ≠ (v : Int))) : PartTo w b g a c m v (k + 1) es := by
  obtain ⟨f, h1, h2, h3⟩ := h
  refine ⟨f, h1, ?_, h3⟩
  rw [offL_take hk, if_neg hn, List.append_nil]
  exact h2
/-- Behind all of them it tells the parts without v. -/
theorem PartTo.all {w : World} {b g : Nat} {a : Option Addr} {c m v k : Nat} {es : List (Int × Int)} {F : Nat → Nat} (h : PartTo w b g a c m v k es) (hk : es.length ≤ k) (hP : Pt m F) (hT : Tells m F (prsN (offL (v : Int) es))) : QAt w b g a m c F := by
  obtain ⟨f, h1, h2, h3⟩ := h
  rw [List.take_of_length_le hk] at h2
  exact h3.congr (tells_one h1 hP h2 hT (fun e he => Cl.of he) (fun e he => Cl.of he))
/-- The rows of numbers of all edges, while the first k have one more. -/
def clsK (F : Nat → Nat → Nat) (es : List (Int × Int)) (t k j : Nat) : List Int := clsI F (if j < k then t + 1 else t) (es.getD j (0, 0))
end Go.Proofs.Ytckcbaegehfkoaa
namespace Go.Proofs.Ytckcbaegehfkoaa
open Go.RowKit Go.Lib

/-- While the first k edges have a number more, beside the part that it is read from. -/
structure Cls (w : World) (Nb N Bp gp : Nat) (ap : Option Addr) (cp m : Nat) (F : Nat → Nat → Nat) (es : List (Int × Int)) (t k : Nat) (V : Nat → Value) : Prop where
  no : NO w (Nb + 1) Nb N V (clsK F es t k)
  ne : ∀ j, j < N → (V j).ownBlock ≠ some Bp ∧ (V j).ownBlock ≠ some gp
  part : QAt w Bp gp ap m cp (F t)
theorem clsK_own (F : Nat → Nat → Nat) (es : List (Int × Int)) (t k : Nat) : clsK F es t k k = clsI F t (es.getD k (0, 0)) := by unfold clsK; rw [if_neg (by omega)]
theorem Cls.half {w1 w : World} {Nb N Bp gp : Nat} {ap : Option Addr} {cp m : Nat} {F : Nat → Nat → Nat} {es : List (Int × Int)} {t k : Nat} {V : Nat → Value} (h : Cls w Nb N Bp gp ap cp m F es t k V) (hk : k < N) (hm : 0 < m) (hb : Below Nb w1 w) (hN : Nb ≤ w.heap.size) (hB : Nb < Bp) (hg : Nb < gp) :
    ∀ wa w4 v', Below w.heap.size w wa → w4.ownsRow (Nb + 1) 3 1 v' (t + 1) ((clsI F t (es.getD k (0, 0))).map (Value.int .i64) ++ [.int .i64 (F t (offEnd t (es.getD k (0, 0))))]) → wa.grownBy w4 (V k).ownBlock → (v'.ownBlock = (V k).ownBlock ∨ v'.ownBlock = some wa.heap.size) →
      (w4.cell? ⟨Nb, k, none⟩ = some (V k) ∧ w4.frozen? ⟨Nb, k, none⟩ = false) ∧ Below Nb w1 (w4.setCell ⟨Nb, k, none⟩ v') ∧ w.heap.size ≤ (w4.setCell ⟨Nb, k, none⟩ v').heap.size ∧
      ∃ V', Cls (w4.setCell ⟨Nb, k, none⟩ v') Nb N Bp gp ap cp m F es t (k + 1) V' := fun wa w4 v' hba hown hgr hat => by
  have hkb : KeptBut (fun j => some j = (V k).ownBlock) w w4 := (KeptBut.of_whole _ hba).trans (KeptBut.of_grown hgr)
  have hNk : ¬ some Nb = (V k).ownBlock := fun e => (h.no.own k hk).2 e.symm
  have hBlt : Bp < w.heap.size := block_lt_of_cell h.part.box
  have hglt : gp < w.heap.size := (h.part.row hm).2.1
  refine ⟨?_, ?_, ?_, ⟨fun u => if u = k then v' else V u, ?_, fun j hj => ?_, ?_⟩⟩
  · rw [hkb.cell (p := ⟨Nb, k, none⟩) h.no.lt hNk, hkb.frozen (p := ⟨Nb, k, none⟩) h.no.lt hNk]
    exact h.no.hd k hk
  · refine (hb.trans (hkb.below hN (fun j _ e => ?_))).setCell (p := ⟨Nb, k, none⟩) (Nat.le_refl _) _
    have := ((h.no.own k hk).1.lt j e.symm).1
    omega
  · simpa using hkb.size
  · refine (h.no.push (x := (F t (offEnd t (es.getD k (0, 0))) : Int)) hk hba ?_ hgr hat).congr (fun j _ => ?_)
    · rw [clsK_own, clsI_len]; exact hown
    · by_cases e : j = k
      · subst e
        rw [if_pos rfl, clsK_own, ← clsI_next]
        unfold clsK
        rw [if_pos (by omega)]
      · rw [if_neg e]
        unfold clsK
        by_cases e2 : j < k
        · rw [if_pos e2, if_pos (by omega)]
        · rw [if_neg e2, if_neg (by omega)]
  · by_cases e : j = k
    · simp only [if_pos e]
      rcases hat with h1 | h1
      · rw [h1]; exact h.ne k hk
      · rw [h1]
        have := hba.size
        simp only [ne_eq, Option.some.injEq]
        omega
    · simp only [if_neg e]; exact h.ne j hj
  · refine (h.part.kept hkb (fun e => (h.ne k hk).1 e.symm) (fun _ e => (h.ne k hk).2 e.symm)).kept (kept_set _ _ _) ?_ (fun _ => ?_)
    · simp only; omega
    · simp only; omega
end Go.Proofs.Ytckcbaegehfkoaa
namespace Go.Proofs.Ytckcbaegehfkoaa
open Go.RowKit Go.Lib

/-- One header is written over. -/
theorem LLOwn.setHead {A : Nat → Prop} {w : World} {base g cap : Nat} {us : List Value} {LL : List (List Int)} (h : LLOwn w base A (.slice (some ⟨g, 0, none⟩) LL.length cap) us LL) {k : Nat} (hk : k < LL.length) {L : List Int} {ar : Option Addr} {cr : Nat} (hI : IAt w ar L)
    (hr : ∀ g' off, ar = some ⟨g', off, none⟩ → 0 < L.length → A g' ∧ g' ≠ g) :
    LLOwn (w.setCell ⟨g, k, none⟩ (.slice ar L.length cr)) base A (.slice (some ⟨g, 0, none⟩) LL.length cap) (us.set k (.slice ar L.length cr)) (LL.set k L) := by
  have hks := kept_set w ⟨g, k, none⟩ (.slice ar L.length cr)
  refine ⟨?_, by rw [List.length_set, List.length_set, h.2.1], h.2.2.1, fun j hj => ?_⟩
  · rw [List.length_set]; exact (h.1.stored k _).1
  · rw [List.length_set] at hj
    by_cases e : k = j
    · subst e
      refine ⟨ar, cr, ?_, ?_, fun g' off ha h0 => ?_⟩
      · rw [List.getElem?_set_self (by rw [h.2.1]; exact hk), List.getElem_set_self]
      · rw [List.getElem_set_self]
        exact hI.kept hks (fun g' off ha h0 => (hr g' off ha h0).2)
      · rw [List.getElem_set_self] at h0
        exact ⟨(hr g' off ha h0).1, fun e => (hr g' off ha h0).2 (by cases e; rfl)⟩
    · obtain ⟨ak, ck, h1, h2, h3⟩ := h.2.2.2 j hj
      refine ⟨ak, ck, ?_, ?_, fun g' off ha h0 => ?_⟩
      · rw [List.getElem?_set_ne e, List.getElem_set_ne e]; exact h1
      · rw [List.getElem_set_ne e]
        exact h2.kept hks (fun g' off ha h0 e2 => (h3 g' off ha h0).2 (by rw [show g' = g from e2]; rfl))
      · rw [List.getElem_set_ne e] at h0
        exact h3 g' off ha h0
/-- The tree's variable, with the rows that its blocks are. -/
structure OutAt (w : World) (O base : Nat) (A : Nat → Prop) (v : Value) (us : List Value) (Bs : List (List Int)) : Prop where
  c0 : w.cell? ⟨O, 0, none⟩ = some (.slice none 0 0)
  c1 : w.cell? ⟨O, 1, none⟩ = some v
  f0 : w.frozen? ⟨O, 0, none⟩ = false
  f1 : w.frozen? ⟨O, 1, none⟩ = false
  ll : LLOwn w base A v us Bs
theorem OutAt.kept {S A : Nat → Prop} {w w' : World} {O base : Nat} {v : Value} {us : List Value} {Bs : List (List Int)} (h : OutAt w O base A v us Bs) (hk : KeptBut S w w') (hO : ¬ S O) (hs : ∀ k, A k → k < w.heap.size → ¬ S k) : OutAt w' O base A v us Bs := by
  have hlt : O < w.heap.size := block_lt_of_cell h.c0
  exact ⟨(hk.cell (p := ⟨O, 0, none⟩) hlt hO).trans h.c0, (hk.cell (p := ⟨O, 1, none⟩) hlt hO).trans h.c1, (hk.frozen (p := ⟨O, 0, none⟩) hlt hO).trans h.f0, (hk.frozen (p := ⟨O, 1, none⟩) hlt hO).trans h.f1, h.ll.kept hk hs⟩
/-- While l is laid in: from one place to the next one down. -/
theorem OutAt.down {A : Nat → Prop} {w : World} {O base k : Nat} {v : Value} {us : List Value} {l : List Int} {Bs : List (List Int)} {la : Option Addr} {lc : Nat} (h : OutAt w O base A v us (midR l Bs (k + 1))) (hk : k + 1 ≤ Bs.length) (hO : O < base) (hI : IAt w la l) (hl : ∀ g off, la = some ⟨g, off, none⟩ → 0 < l.length → A g ∧ v.ownBlock ≠ some g) :
    ∃ g cap ak ck, v = .slice (some ⟨g, 0, none⟩) (Bs.length + 1) cap ∧ (w.cell? ⟨g, k, none⟩ = some (.slice ak (Bs[k]'(by omega)).length ck) ∧ IAt w ak (Bs[k]'(by omega))) ∧ w.frozen? ⟨g, k + 1, none⟩ = false ∧ w.frozen? ⟨g, k, none⟩ = false ∧ (∃ x, w.cell? ⟨g, k + 1, none⟩ = some x) ∧ O < g ∧ base ≤ g ∧
      ∃ us', OutAt ((w.setCell ⟨g, k + 1, none⟩ (.slice ak (Bs[k]'(by omega)).length ck)).setCell ⟨g, k, none⟩ (.slice la l.length lc)) O base A v us' (midR l Bs k) := by
  have hml : (midR l Bs (k + 1)).length = Bs.length + 1 := midR_len hk
  have hmk : (midR l Bs (k + 1))[k]? = some (Bs[k]'(by omega)) := by rw [midR_at hk (by omega)]; exact List.getElem?_eq_getElem (by omega)
  have hown := h.ll.1
  rcases hown.2 with ⟨hv, h0⟩ | ⟨g, cap, cur, hv, hg, hgb, hr⟩
  · exact absurd h0 (by omega)
  · subst hv
    obtain ⟨ak, ck, h1, h2, h3⟩ := h.ll.2.2.2 k (by omega)
    have e1 : (midR l Bs (k + 1))[k]'(by omega) = Bs[k]'(by omega) := by
      have := List.getElem?_eq_getElem (l := midR l Bs (k + 1)) (i := k) (by omega)
      rw [this] at hmk
      exact Option.some.inj hmk
    rw [e1] at h1 h2 h3
    have hus : us.length = Bs.length + 1 := by rw [h.ll.2.1, hml]
    have hc1 := hown.cells (g := g) rfl k _ h1
    rw [add_at, Nat.zero_add] at hc1
    have hc2 := hown.cells (g := g) rfl (k + 1) (us[k + 1]'(by omega)) (List.getElem?_eq_getElem (by omega))
    rw [add_at, Nat.zero_add] at hc2
    have hOg : O < g := by omega
    have hll := h.ll
    have h1c := h.c1
    rw [hml] at hll hown h1c ⊢
    have s1 := LLOwn.setHead (cap := cap) (g := g) (w := w) (by rw [hml]; exact hll) (k := k + 1) (by omega) h2 (cr := ck) (fun g' off ha h0 => ⟨(h3 g' off ha h0).1, fun e => (h3 g' off ha h0).2 (by rw [e]; rfl)⟩)
    have hIl : IAt (w.setCell ⟨g, k + 1, none⟩ (.slice ak (Bs[k]'(by omega)).length ck)) la l := hI.kept (kept_set _ _ _) (fun g' off ha h0 e => (hl g' off ha h0).2 (by rw [show g' = g from e]; rfl))
    have s2 := LLOwn.setHead (cap := cap) (g := g) (LL := (midR l Bs (k + 1)).set (k + 1) (Bs[k]'(by omega))) (by rw [List.length_set, hml]; rw [hml] at s1; exact s1) (k := k) (by rw [List.length_set]; omega) hIl (cr := lc) (fun g' off ha h0 => ⟨(hl g' off ha h0).1, fun e => (hl g' off ha h0).2 (by rw [e]; rfl)⟩)
    rw [← midR_step hk, List.length_set, hml] at s2
    refine ⟨g, cap, ak, ck, rfl, ⟨hc1, h2⟩, frozen_of_heap hgb _, frozen_of_heap hgb _, ⟨_, hc2⟩, hOg, hg, _, ⟨?_, ?_, ?_, ?_, s2⟩⟩
    · rw [World.cell?_setCell_other _ _ _ _ (fun e => by have := congrArg Addr.block e; simp at this; omega), World.cell?_setCell_other _ _ _ _ (fun e => by have := congrArg Addr.block e; simp at this; omega)]; exact h.c0
    · rw [World.cell?_setCell_other _ _ _ _ (fun e => by have := congrArg Addr.block e; simp at this; omega), World.cell?_setCell_other _ _ _ _ (fun e => by have := congrArg Addr.block e; simp at this; omega)]; exact h1c
    · rw [World.frozen?_setCell, World.frozen?_setCell]; exact h.f0
    · rw [World.frozen?_setCell, World.frozen?_setCell]; exact h.f1
end Go.Proofs.Ytckcbaegehfkoaa
namespace Go.Proofs.Ytckcbaegehfkoaa
open Go.RowKit Go.Lib Go.Shelf

/-- A new row: what a call tells. -/
def NewRow (L : List Int) (w w' : World) (v : Value) : Prop := w'.ownsRow w.heap.size 3 1 v L.length (L.map (Value.int .i64)) ∧ Below w.heap.size w w'
end Go.Proofs.Ytckcbaegehfkoaa
namespace Go.Proofs.Ytckcbaegehfkoaa
open Go.RowKit Go.Lib Go.Shelf

theorem NewRow.cell {L : List Int} {w w' : World} {v : Value} (h : NewRow L w w' v) {B : Nat} {x : Value} (hb : w.cell? ⟨B, 0, none⟩ = some x) : w'.cell? ⟨B, 0, none⟩ = some x := (h.2.cell (p := ⟨B, 0, none⟩) (block_lt_of_cell hb)).trans hb
/-- A model that a call tells: its sets in rows of their own. -/
def ModTold (k : Int) (Ts : List (List Int)) (w w' : World) (v : Value) : Prop := ∃ a' c' us, v = .agg #[.int .i64 k, .slice a' Ts.length c'] ∧ LLOwn w' w.heap.size (fun q => w.heap.size ≤ q) (.slice a' Ts.length c') us Ts ∧ Below w.heap.size w w'
theorem LLOwn.lower {w : World} {B B' : Nat} {v : Value} {us : List Value} {LL : List (List Int)} (h : LLOwn w B (fun q => B ≤ q) v us LL) (hB : B' ≤ B) : LLOwn w B' (fun q => B' ≤ q) v us LL := by
  refine ⟨⟨h.1.1, ?_⟩, h.2.1, fun g hg => Nat.le_trans hB (h.2.2.1 g hg), fun k hk => ?_⟩
  · rcases h.1.2 with h1 | ⟨g, cap, cur, h1, h2, h3⟩
    · exact Or.inl h1
    · exact Or.inr ⟨g, cap, cur, h1, Nat.le_trans hB h2, h3⟩
  · obtain ⟨ak, ck, h1, h2, h3⟩ := h.2.2.2 k hk
    exact ⟨ak, ck, h1, h2, fun g off ha h0 => ⟨Nat.le_trans hB (h3 g off ha h0).1, (h3 g off ha h0).2⟩⟩
theorem ModTold.at {k : Int} {Ts : List (List Int)} {w w' : World} {v : Value} (h : ModTold k Ts w w' v) : ∃ a' c', v = .agg #[.int .i64 k, .slice a' Ts.length c'] ∧ LLAt w' a' Ts ∧ Below w.heap.size w w' := by
  obtain ⟨a', c', us, hv, hl, hb⟩ := h
  obtain ⟨a2, c2, e, _, hat⟩ := hl.at
  simp only [Value.slice.injEq] at e
  rw [← e.1] at hat
  exact ⟨a', c', hv, hat, hb⟩
end Go.Proofs.Ytckcbaegehfkoaa
