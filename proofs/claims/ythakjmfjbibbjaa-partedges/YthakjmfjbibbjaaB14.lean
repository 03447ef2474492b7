/-
  carcanetlaw04.PartEdges: pure facts.
  carcanetlaw04.PartOwn answers true: what Classes told may be written over.
-/
import Derived.Test.YthakjmfjbibbjaaLPBridge
import Derived.Test.YthakjmfjbibbjaaB02
import Derived.Test.YthakjmfjbibbjaaPOf
import Derived.Test.YthakjmfjbibbjaaLPCounts2
namespace Go.Proofs.Ythakjmfjbibbjaa
open Go.RowKit Go.Lib

/-- A least number stands behind as many as are less. -/
theorem rep_rank {n : Nat} {f : Nat → Nat} {j : Nat} (h : j < (repsF n f).length) : cntF f (repsF n f)[j] = j := by
  have hr := reps_at_is h
  obtain ⟨r, hrr⟩ := ex_eq (repsF n f)[j]
  rw [← hrr] at hr ⊢
  have hsplit : repsF n f = (List.range r).filter (fun i => f i == i) ++ ([r] ++ ((List.range' (r + 1) (n - (r + 1))).filter (fun i => f i == i))) := by
    have e : List.range n = List.range r ++ ([r] ++ List.range' (r + 1) (n - (r + 1))) := by
      rw [List.range_eq_range', List.range_eq_range', ← List.append_assoc]
      have e1 : List.range' 0 r ++ [r] = List.range' 0 (r + 1) := by
        rw [← List.range_eq_range', ← List.range_eq_range', List.range_succ]
      rw [e1]
      have := List.range'_append_1 (s := 0) (m := r + 1) (n := n - (r + 1))
      rw [Nat.zero_add] at this
      rw [this]
      congr 1
      omega
    unfold repsF
    rw [e, List.filter_append, List.filter_append]
    congr 2
    simp [hr.2]
  have hget : (repsF n f)[cntF f r]? = some r := by
    rw [hsplit]
    unfold cntF
    simp
  have hlt : cntF f r < (repsF n f).length := (List.getElem?_eq_some_iff.1 hget).1
  have heq : (repsF n f)[cntF f r] = r := (List.getElem?_eq_some_iff.1 hget).2
  by_cases h1 : cntF f r < j
  · have := reps_at_lt (f := f) h1 h
    omega
  · by_cases h2 : j < cntF f r
    · have := reps_at_lt (f := f) h2 hlt
      omega
    · omega
/-- Who has no neighbour stands alone. -/
theorem alone {m : Nat} {f : Nat → Nat} {ys : List (Int × Int)} (hR : RightG m ys) (hT : Tells m f (prsN ys)) {v : Nat} (hv : v < m) : (nbL (v : Int) ys).length = 0 ↔ (classF m f (f v)).length = 1 := by
  have hvm : (v : Int) ∈ classF m f (f v) := mem_class_nat.2 ⟨hv, rfl⟩
  constructor
  · intro h0
    have hn : ∀ y, y ∉ nbL (v : Int) ys := fun y hy => by rw [List.length_eq_zero_iff.1 h0] at hy; simp at hy
    have key : ∀ u, u < m → f u = f v → u = v := fun u hu e => by
      have hc := (hT v u hv hu).1 e.symm
      have := hc (fun x y => (x = v ↔ y = v)) (fun _ => Iff.rfl) (fun _ _ h => h.symm) (fun _ _ _ h k => h.trans k) (fun e he => ?_)
      · exact this.1 rfl
      · have he' := (mem_prsN hR).1 he
        constructor
        · intro h1; exact absurd ((nbL_right hR).2 (Or.inl (by rw [← h1]; exact he'))) (hn _)
        · intro h1; exact absurd ((nbL_right hR).2 (Or.inr (by rw [← h1]; exact he'))) (hn _)
    have := rise_one (class_rises m f (f v)) (b := [(v : Int)]) (by simp) (fun x => by
      rw [mem_class]
      constructor
      · rintro ⟨k, rfl, hk, hfk⟩; simp [key k hk hfk]
      · intro h1; simp at h1; exact ⟨v, h1, hv, rfl⟩)
    rw [this]; rfl
  · intro h1
    match hL : classF m f (f v), h1 with
    | [x], _ =>
      rw [hL] at hvm
      simp at hvm
      match hN : nbL (v : Int) ys with
      | [] => rfl
      | y :: r =>
        have hy : y ∈ nbL (v : Int) ys := by rw [hN]; simp
        obtain ⟨u, rfl, hu, hfu⟩ := nb_same hR hT hv hy
        have hum : (u : Int) ∈ classF m f (f v) := mem_class_nat.2 ⟨hu, hfu⟩
        rw [hL] at hum
        simp at hum
        have huv : u = v := by omega
        subst huv
        rcases (nbL_right hR).1 hy with h2 | h2
        · have := hR.2.2.2.1 _ h2; simp only at this; omega
        · have := hR.2.2.2.1 _ h2; simp only at this; omega
/-- What the row of each vertex's component holds so far. -/
def ofTo (m : Nat) (f : Nat → Nat) (r k u : Nat) : Int := if seenTo m f r k u = true then (cntF f (f u) : Int) + 1 else 0
theorem ofTo_start {n : Nat} {f : Nat → Nat} (hP : Pt n f) (h : 0 < (repsF n f).length) : ∀ u, u < n → (0 : Int) = ofTo n f (repsF n f)[0] 0 u := fun u hu => by
  unfold ofTo
  rw [← seenTo_start hP h u hu]; simp
theorem ofTo_put {n : Nat} {f : Nat → Nat} {i r k v : Nat} (hi : i < (repsF n f).length) (hir : (repsF n f)[i] = r) (hk : k < (classF n f r).length) (hv : (classF n f r)[k] = (v : Int)) : ∀ u, u < n → (if u = v then (i : Int) + 1 else ofTo n f r k u) = ofTo n f r (k + 1) u := fun u hu => by
  unfold ofTo
  rw [← seenTo_put hk hv u hu]
  have hvm : (v : Int) ∈ classF n f r := by rw [← hv]; exact List.getElem_mem hk
  have hvf := (mem_class_nat.1 hvm).2
  by_cases e : u = v
  · subst e
    rw [if_pos rfl, if_pos rfl, if_pos rfl, hvf, ← hir, rep_rank hi]
  · rw [if_neg e, if_neg e]
theorem ofTo_new {n : Nat} {f : Nat → Nat} {r k v : Nat} (hk : k < (classF n f r).length) (hv : (classF n f r)[k] = (v : Int)) : ofTo n f r k v = 0 := by
  unfold ofTo
  rw [seenTo_new hk hv]; simp
theorem ofTo_next {n : Nat} {f : Nat → Nat} (hP : Pt n f) {i : Nat} (h : i + 1 < (repsF n f).length) (hi : i < (repsF n f).length) : ∀ u, u < n → ofTo n f (repsF n f)[i] (classF n f (repsF n f)[i]).length u = ofTo n f (repsF n f)[i + 1] 0 u := fun u hu => by
  unfold ofTo
  rw [seenTo_next hP h hi u hu]
theorem ofTo_last {n : Nat} {f : Nat → Nat} (hP : Pt n f) {i : Nat} (hi : i < (repsF n f).length) (hl : i + 1 = (repsF n f).length) : ∀ u, u < n → ofTo n f (repsF n f)[i] (classF n f (repsF n f)[i]).length u = (cntF f (f u) : Int) + 1 := fun u hu => by
  unfold ofTo
  refine if_pos ?_
  unfold seenTo
  rw [List.take_length]
  refine decide_eq_true ?_
  obtain ⟨j, hj, e⟩ := rep_place hP hu
  by_cases e1 : j = i
  · subst e1
    exact Or.inr ⟨e.symm, mem_class_nat.2 ⟨hu, e.symm⟩⟩
  · have := reps_at_lt (f := f) (show j < i by omega) hi
    exact Or.inl (by omega)
end Go.Proofs.Ythakjmfjbibbjaa
namespace Go.Proofs.Ythakjmfjbibbjaa
open Go.RowKit Go.Lib

/-- What Classes leaves, with rows that may be written. -/
def POwn (S : Nat → Prop) (w w' : World) (p : Addr) (n : Nat) (f : Nat → Nat) (v : Value) : Prop := PAp w' p n f S ∧ RowsOwn w' w.heap.size v (classesF n f) ∧ KeptBut S w w'
theorem pclasses_own (w : World) (p : Addr) (n : Nat) (f : Nat → Nat) (S : Nat → Prop) (h : PAp w p n f S) :
    Calls Try.prog 20 #[.pointer (some p)] w fun e w' => ∃ v, e = .returned v ∧ POwn S w w' p n f v := by
  obtain ⟨b, g, rt, rfl, hx, hP, hn, hS⟩ := h
  refine (pclasses_px b g n f rt (cntF f n) w hn hP hx).mono ?_
  rintro e w1 ⟨v, rfl, h1, h2, h3⟩
  exact ⟨v, rfl, ⟨b, g, rt, rfl, h1, hP, hn, hS⟩, h2, h3.mono (fun k _ e => (hS k).2 (Or.inr e))⟩

theorem Row1.kept {T : Nat → Prop} {w w' : World} {g n : Nat} {c : Nat → Int} (h : Row1 w g n c) (hk : KeptBut T w w') (hg : ¬ T g) : Row1 w' g n c :=
  ⟨Nat.lt_of_lt_of_le h.1 hk.size, fun j hj => ⟨(hk.cell (p := ⟨g, j, none⟩) h.1 hg).trans (h.2 j hj).1, (hk.frozen (p := ⟨g, j, none⟩) h.1 hg).trans (h.2 j hj).2⟩⟩
/-- The rows that Classes told, while they are written over. -/
structure FR (w : World) (b1 blk s : Nat) (gs : Nat → Nat) (LL : List (List Int)) (c : Nat → Nat → Int) : Prop where
  lt : blk < s
  ge : b1 ≤ blk
  row : ∀ k (hk : k < LL.length), (∃ ck, w.cell? ⟨blk, k, none⟩ = some (.slice (some ⟨gs k, 0, none⟩) LL[k].length ck)) ∧ b1 ≤ gs k ∧ gs k < s ∧ gs k ≠ blk ∧ Row1 w (gs k) LL[k].length (c k)
  inj : ∀ i j, i < LL.length → j < LL.length → i ≠ j → gs i ≠ gs j
theorem FR.kept {T : Nat → Prop} {w w' : World} {b1 blk s : Nat} {gs : Nat → Nat} {LL : List (List Int)} {c : Nat → Nat → Int} (h : FR w b1 blk s gs LL c) (hk : KeptBut T w w') (hT : ∀ k, b1 ≤ k → k < s → ¬ T k) (hs : s ≤ w.heap.size) : FR w' b1 blk s gs LL c := by
  refine ⟨h.lt, h.ge, fun k hk' => ?_, h.inj⟩
  obtain ⟨⟨ck, h1⟩, h2, h3, h4, h5⟩ := h.row k hk'
  exact ⟨⟨ck, (hk.cell (p := ⟨blk, k, none⟩) (by have := h.lt; show blk < _; omega) (hT blk h.ge h.lt)).trans h1⟩, h2, h3, h4, h5.kept hk (hT _ h2 h3)⟩
theorem FR.put {w : World} {b1 blk s : Nat} {gs : Nat → Nat} {LL : List (List Int)} {c c' : Nat → Nat → Int} (h : FR w b1 blk s gs LL c) {t u : Nat} (ht : t < LL.length) (hu : u < LL[t].length) (x : Int)
    (hc : ∀ k j, c' k j = if k = t ∧ j = u then x else c k j) : FR (w.setCell ⟨gs t, u, none⟩ (.int .i64 x)) b1 blk s gs LL c' := by
  have hk := kept_set w ⟨gs t, u, none⟩ (.int .i64 x)
  obtain ⟨_, _, _, h4, h5⟩ := h.row t ht
  refine ⟨h.lt, h.ge, fun k hk' => ?_, h.inj⟩
  obtain ⟨⟨ck, g1⟩, g2, g3, g4, g5⟩ := h.row k hk'
  refine ⟨⟨ck, (hk.cell (p := ⟨blk, k, none⟩) (block_lt_of_cell g1) (fun e => h4 (e.symm))).trans g1⟩, g2, g3, g4, ?_⟩
  by_cases e : k = t
  · subst e
    exact (g5.put hu x).congr (fun j _ => by rw [hc]; simp)
  · exact (g5.kept hk (fun e2 => h.inj k t hk' ht e e2)).congr (fun j _ => by rw [hc, if_neg (fun h => e h.1)])
/-- What stands in the rows: the first t rows are written over, and the first u places of the next. -/
def cO (x : Int) (LL : List (List Int)) (t u k j : Nat) : Int := if k < t ∨ (k = t ∧ j < u) then x else (LL[k]?.getD [])[j]?.getD 0
theorem cO_put (x : Int) (LL : List (List Int)) (t u k j : Nat) : cO x LL t (u + 1) k j = if k = t ∧ j = u then x else cO x LL t u k j := by
  unfold cO
  by_cases h : k = t ∧ j = u
  · rw [if_pos h, if_pos (Or.inr ⟨h.1, by omega⟩)]
  · rw [if_neg h]
    by_cases h2 : k < t ∨ (k = t ∧ j < u)
    · rw [if_pos h2, if_pos (by omega)]
    · rw [if_neg h2, if_neg (by omega)]
/-- The state: the part as it was, the rows being written over, and what was copied ahead. -/
structure OwnSt (w wz : World) (b0 b1 s : Nat) (p : Addr) (m : Nat) (f : Nat → Nat) (S : Nat → Prop) (blk : Nat) (gs : Nat → Nat) (x : Int) (t u T : Nat) (v : Value) : Prop where
  pa : POne PAp w wz b0 p m f S
  sl : ∀ k, S k → k < b1
  fr : FR wz b1 blk s gs (classesF m f) (cO x (classesF m f) t u)
  was : ∃ us, LLOwn wz s (fun k => s ≤ k) v us ((classesF m f).take T)
  sz : s ≤ wz.heap.size
  le : b0 ≤ b1 ∧ b1 ≤ s
theorem OwnSt.put {w wz : World} {b0 b1 s : Nat} {p : Addr} {m : Nat} {f : Nat → Nat} {S : Nat → Prop} {blk : Nat} {gs : Nat → Nat} {x : Int} {t u T : Nat} {v : Value} (h : OwnSt w wz b0 b1 s p m f S blk gs x t u T v) (ht : t < (classesF m f).length) (hu : u < (classesF m f)[t].length) (h0 : b0 ≤ w.heap.size) :
    OwnSt w (wz.setCell ⟨gs t, u, none⟩ (.int .i64 x)) b0 b1 s p m f S blk gs x t (u + 1) T v := by
  have hk := kept_set wz ⟨gs t, u, none⟩ (.int .i64 x)
  obtain ⟨_, g2, g3, g4, _⟩ := h.fr.row t ht
  obtain ⟨us, hw⟩ := h.was
  refine ⟨h.pa.beside partOps hk (fun k hk' e => ?_) (fun k e => ?_) h0, h.sl, h.fr.put ht hu x (cO_put x _ t u), ⟨us, hw.kept hk (fun k hA _ e => ?_)⟩, by simpa using h.sz, h.le⟩
  · have := h.sl k hk'; have e' : k = gs t := e; omega
  · have e' : k = gs t := e; have := h.le.1; omega
  · have e' : k = gs t := e; omega
theorem OwnSt.next {w wz : World} {b0 b1 s : Nat} {p : Addr} {m : Nat} {f : Nat → Nat} {S : Nat → Prop} {blk : Nat} {gs : Nat → Nat} {x : Int} {t R T : Nat} {v : Value} (h : OwnSt w wz b0 b1 s p m f S blk gs x t R T v) (ht : t < (classesF m f).length) (hR : R = (classesF m f)[t].length) :
    OwnSt w wz b0 b1 s p m f S blk gs x (t + 1) 0 T v := by
  refine ⟨h.pa, h.sl, ⟨h.fr.lt, h.fr.ge, fun k hk => ?_, h.fr.inj⟩, h.was, h.sz, h.le⟩
  obtain ⟨g1, g2, g3, g4, g5⟩ := h.fr.row k hk
  refine ⟨g1, g2, g3, g4, g5.congr (fun j hj => ?_)⟩
  unfold cO
  by_cases h1 : k < t ∨ (k = t ∧ j < R)
  · rw [if_pos h1, if_pos (by omega)]
  · rw [if_neg h1, if_neg (fun h2 => h1 ?_)]
    rcases h2 with h2 | h2
    · by_cases e : k = t
      · subst e; exact Or.inr ⟨rfl, by omega⟩
      · exact Or.inl (by omega)
    · exact absurd h2.2 (by omega)
theorem OwnSt.grow {w wz w6 : World} {b0 b1 s : Nat} {p : Addr} {m : Nat} {f : Nat → Nat} {S : Nat → Prop} {blk : Nat} {gs : Nat → Nat} {x : Int} {t u T T' : Nat} {v v6 : Value} (h : OwnSt w wz b0 b1 s p m f S blk gs x t u T v) (hk : KeptBut (fun k => s ≤ k) wz w6) (hw : ∃ us, LLOwn w6 s (fun k => s ≤ k) v6 us ((classesF m f).take T')) (h0 : b0 ≤ w.heap.size) :
    OwnSt w w6 b0 b1 s p m f S blk gs x t u T' v6 := by
  have hle := h.le
  exact ⟨h.pa.beside partOps hk (fun k hk' e => by have := h.sl k hk'; have e' : s ≤ k := e; omega) (fun k e => by have e' : s ≤ k := e; omega) h0, h.sl, h.fr.kept hk (fun k _ h2 e => by have e' : s ≤ k := e; omega) h.sz, hw, Nat.le_trans h.sz hk.size, h.le⟩
theorem own_start {w wr w7 : World} {b0 : Nat} {p : Addr} {m : Nat} {f : Nat → Nat} {S : Nat → Prop} {x : Int} {v : Value} (h : POne PAp w wr b0 p m f S) (h7 : POwn S wr w7 p m f v) (hm : 0 < m) (h0 : b0 ≤ w.heap.size) :
    ∃ blk cap gs, v = .slice (some ⟨blk, 0, none⟩) (classesF m f).length cap ∧ OwnSt w (w7.alloc (.cells #[] 42)) b0 wr.heap.size w7.heap.size p m f S blk gs x 0 0 0 (.slice (some ⟨w7.heap.size, 0, none⟩) 0 0) := by
  obtain ⟨hp, ⟨a, cap, hv, hr⟩, hk⟩ := h7
  obtain ⟨hP, _, hSl⟩ := pap_own h.pa
  have hC0 : 0 < (classesF m f).length := by
    rw [classesF_len]
    exact List.length_pos_of_mem (mem_reps.2 ⟨hm, by have := hP.le 0 hm; omega⟩)
  obtain ⟨blk, ha, hb, hlt, gs, hrow, hinj⟩ := hr hC0
  subst ha
  have hbr := Nat.le_trans h0 h.bel.size
  have hp7 : POne PAp w w7 b0 p m f S := ⟨hp, h.ge, h.bel.trans (hk.below hbr (fun k _ e => h.ge k e))⟩
  have hka : KeptBut (fun _ => False) w7 (w7.alloc (.cells #[] 42)) := kept_alloc _ _ _
  refine ⟨blk, cap, gs, hv, hp7.beside partOps hka (fun _ _ e => e) (fun _ e => e.elim) h0, hSl, ⟨hlt, hb, fun k hk' => ?_, hinj⟩, ⟨[], llown_nil w7 _ _ rfl (Nat.le_refl _)⟩, hka.size, hbr, hk.size⟩
  obtain ⟨ck, g1, g2, g3, g4, g5⟩ := hrow k hk'
  refine ⟨⟨ck, cell_alloc_old g1 _⟩, g2, g5.1, g3, (g5.alloc _).congr (fun j _ => ?_)⟩
  unfold cO
  rw [if_neg (by omega), List.getElem?_eq_getElem hk']
  rfl
/-- The copy of a row, and its place behind the others. -/
theorem OwnSt.copy {w wz w4 w6 : World} {b0 b1 s : Nat} {p : Addr} {m : Nat} {f : Nat → Nat} {S : Nat → Prop} {blk : Nat} {gs : Nat → Nat} {x : Int} {t : Nat} {v v6 : Value} {ar : Option Addr} {cr : Nat} {us : List Value} {X : Obj} {L : List Int} (h : OwnSt w wz b0 b1 s p m f S blk gs x t 0 t v) (hw : LLOwn wz s (fun k => s ≤ k) v us ((classesF m f).take t)) (ht : t < (classesF m f).length) (hL : L = (classesF m f)[t]) (h0 : b0 ≤ w.heap.size)
    (hb4 : Below wz.heap.size wz w4) (ho4 : w4.ownsRow wz.heap.size 3 1 (.slice ar L.length cr) L.length (L.map (Value.int .i64)))
    (ho6 : w6.ownsRow s 42 1 v6 (t + 1) (us ++ [.slice ar L.length cr])) (hg6 : (w4.alloc X).grownBy w6 v.ownBlock) (hat : v6.ownBlock = v.ownBlock ∨ v6.ownBlock = some (w4.alloc X).heap.size) :
    OwnSt w w6 b0 b1 s p m f S blk gs x t 0 (t + 1) v6 := by
  obtain ⟨ar', cr', hv, hI⟩ := iat_own ho4
  simp only [Value.slice.injEq, true_and] at hv
  obtain ⟨rfl, rfl⟩ := hv
  have hge := own_ge ho4
  have hl4 := hw.below hb4
  have hsz := h.sz
  have hs4 := hb4.size
  have hlen : ((classesF m f).take t).length = t := by rw [List.length_take]; omega
  have hput := hl4.put (L := L) (ar := ar) (cr := cr) (X := X) hI (fun g off e _ => ⟨by have := hge g off e; omega, fun e2 => by have := (hw.1.lt g e2).2; have := hge g off e; omega⟩) (by simp; omega) (by rw [hlen]; exact ho6) hg6 hat
  refine h.grow (T' := t + 1) ?_ ⟨us ++ [.slice ar L.length cr], ?_⟩ h0
  · have k1 : KeptBut (fun k => s ≤ k) wz w4 := (KeptBut.of_below hb4).mono (fun k _ e => by have e' : wz.heap.size ≤ k := e; omega)
    have k2 : KeptBut (fun k => s ≤ k) w4 (w4.alloc X) := kept_alloc _ _ _
    have k3 : KeptBut (fun k => s ≤ k) (w4.alloc X) w6 := (KeptBut.of_grown hg6).mono (fun k _ e => (hw.1.lt k (Eq.symm e)).1)
    exact (k1.trans k2).trans k3
  · rw [List.take_succ_eq_append_getElem ht, ← hL]
    exact hput
end Go.Proofs.Ythakjmfjbibbjaa
