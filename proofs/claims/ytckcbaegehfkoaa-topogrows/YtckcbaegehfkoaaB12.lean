/-
  The document's Is, Same, Count and Join of layer 4.
  The document's Classes of layer 4.
  What is reached from a vertex: pure facts for the document's components. No program is named here.
  Paths: put together, cut off, turned round; components; what follows of routes. No program is named here.
  What follows of a route: its vertices' ways on are routes, it has no short cuts, turned round it is as long. No program is named here.
  How far off each vertex lies: what a search tells, and the least of the shortest ways by it. No program is named here.
  slices.Repeat of one number, of one truth: a new row with it at each place.
-/
import Derived.Test.YtckcbaegehfkoaaB08
import Derived.Test.YtckcbaegehfkoaaB04
import Derived.Test.YtckcbaegehfkoaaB07
import Derived.Test.YtckcbaegehfkoaaB05
import Derived.Test.YtckcbaegehfkoaaB10
import Derived.Test.YtckcbaegehfkoaaB01
import Derived.Laws.CopyOwn
namespace Go.Proofs.Ytckcbaegehfkoaa
open Go.RowKit Go.Lib

theorem QAt.congr {w : World} {b g : Nat} {a : Option Addr} {n cap : Nat} {f f' : Nat → Nat} (h : QAt w b g a n cap f) (e : ∀ i, i < n → f i = f' i) : QAt w b g a n cap f' :=
  ⟨h.box, fun h0 => ⟨(h.row h0).1, (h.row h0).2.congr (fun j hj => by rw [e j hj])⟩, h.ne⟩
theorem QAt.put {w : World} {b g : Nat} {a : Option Addr} {n cap : Nat} {f : Nat → Nat} (h : QAt w b g a n cap f) {i : Nat} (hi : i < n) (x : Nat) : QAt (w.setCell ⟨g, i, none⟩ (.int .i64 x)) b g a n cap (fun j => if j = i then x else f j) := by
  refine ⟨?_, fun h0 => ⟨(h.row h0).1, ((h.row h0).2.put hi (x : Int)).congr (fun j _ => by by_cases e : j = i <;> simp [e])⟩, h.ne⟩
  rw [World.cell?_setCell_other _ _ _ _ (fun e => h.ne (congrArg Addr.block e))]
  exact h.box
end Go.Proofs.Ytckcbaegehfkoaa
namespace Go.Proofs.Ytckcbaegehfkoaa
open Go.RowKit Go.Lib

theorem news_one {w : World} {x : Value} {T : TypeId} (n : Nat × Nat) : ∀ p, some (⟨w.heap.size, 0, none⟩ : Addr) = some p → ∀ j u, [x][j]? = some u → (w.alloc (.cells #[x] T n)).cell? (p.add j) = some u := fun p hp => by
  cases hp
  intro j u hu
  match j, hu with
  | 0, hu => cases hu; rw [add_at]; exact cell_of_heap (heap_alloc_new w _) 0
  | j + 1, hu => simp at hu
end Go.Proofs.Ytckcbaegehfkoaa
namespace Go.Proofs.Ytckcbaegehfkoaa

/-- The edges of a graph as pairs of numbers. -/
def prsN (es : List (Int × Int)) : List (Nat × Nat) := es.map (fun e => (e.1.toNat, e.2.toNat))
theorem prsN_in {n : Nat} {es : List (Int × Int)} (h : RightG n es) : PairsIn n (prsN es) := fun e he => by
  obtain ⟨x, hx, rfl⟩ := List.mem_map.1 he
  have := h.2.2.2.1 x hx
  simp only
  omega
theorem mem_prsN {n : Nat} {es : List (Int × Int)} (h : RightG n es) {a b : Nat} : (a, b) ∈ prsN es ↔ ((a : Int), (b : Int)) ∈ es := by
  unfold prsN
  rw [List.mem_map]
  constructor
  · rintro ⟨x, hx, e⟩
    have := h.2.2.2.1 x hx
    simp only [Prod.mk.injEq] at e
    have e2 : x = ((a : Int), (b : Int)) := Prod.ext (by simp; omega) (by simp; omega)
    rw [← e2]; exact hx
  · intro hx; exact ⟨_, hx, by simp⟩
/-- There are classes to each row of pairs. -/
theorem tells_rev {n : Nat} : ∀ (Q : List (Nat × Nat)), PairsIn n Q.reverse → ∃ f, Pt n f ∧ Tells n f Q.reverse
  | [], _ => ⟨_, pt_new n, tells_new n⟩
  | e :: Q, h => by
    rw [List.reverse_cons] at h ⊢
    obtain ⟨f, hf, ht⟩ := tells_rev Q (fun x hx => h x (List.mem_append_left _ hx))
    have he := h e (by simp)
    exact ⟨_, hf.join he.1 he.2, tells_join ht (fun x hx => h x (List.mem_append_left _ hx)) he.1 he.2⟩
theorem tells_ex {n : Nat} (P : List (Nat × Nat)) (h : PairsIn n P) : ∃ f, Pt n f ∧ Tells n f P := by
  have := tells_rev P.reverse (by rw [List.reverse_reverse]; exact h)
  rwa [List.reverse_reverse] at this
/-- What has been reached from m. -/
structure Bfs (n : Nat) (f : Nat → Nat) (m : Nat) (ls : List Int) : Prop where
  nd : ls.Nodup
  all : ∀ x ∈ ls, ∃ u : Nat, x = u ∧ u < n ∧ f u = m
  has : (m : Int) ∈ ls
theorem Bfs.put {n : Nat} {f : Nat → Nat} {m : Nat} {ls : List Int} (h : Bfs n f m ls) {u : Nat} (hu : u < n) (hf : f u = m) (hn : (u : Int) ∉ ls) : Bfs n f m (ls ++ [(u : Int)]) := by
  refine ⟨?_, fun x hx => ?_, by simp [h.has]⟩
  · rw [List.nodup_append]
    refine ⟨h.nd, by simp, fun a ha b hb => ?_⟩
    simp at hb
    subst hb
    intro e
    subst e
    exact hn ha
  · rcases List.mem_append.1 hx with hx | hx
    · exact h.all x hx
    · simp at hx; exact ⟨u, hx, hu, hf⟩
theorem len_le_of_subI {a b : List Int} (h : a.Nodup) (hs : ∀ e ∈ a, e ∈ b) : a.length ≤ b.length := by
  induction a generalizing b with
  | nil => simp
  | cons x a ih =>
    have hx := hs x (by simp)
    have hnd := List.nodup_cons.1 h
    have := ih (b := b.erase x) hnd.2 (fun e he => by
      refine (List.mem_erase_of_ne ?_).2 (hs e (by simp [he]))
      rintro rfl
      exact hnd.1 he)
    rw [List.length_erase_of_mem hx] at this
    have : 0 < b.length := List.length_pos_of_mem hx
    simp; omega
theorem Bfs.len {n : Nat} {f : Nat → Nat} {m : Nat} {ls : List Int} (h : Bfs n f m ls) : ls.length ≤ n := by
  have := len_le_of_subI (b := upto n) h.nd (fun x hx => by
    obtain ⟨u, rfl, hu, _⟩ := h.all x hx
    unfold upto
    exact List.mem_map.2 ⟨u, by simpa using hu, rfl⟩)
  rwa [upto_len] at this
/-- The neighbours of the first i are reached. -/
def ClosedTo (es : List (Int × Int)) (ls : List Int) (i : Nat) : Prop := ∀ j (h : j < ls.length), j < i → ∀ y ∈ nbL ls[j] es, y ∈ ls
theorem ClosedTo.put {es : List (Int × Int)} {ls : List Int} {i : Nat} (h : ClosedTo es ls i) (hi : i ≤ ls.length) (x : Int) : ClosedTo es (ls ++ [x]) i := fun j hj hji y hy => by
  have hj' : j < ls.length := by omega
  have e : (ls ++ [x])[j] = ls[j] := List.getElem_append_left hj'
  rw [e] at hy
  exact List.mem_append_left _ (h j hj' hji y hy)
theorem ClosedTo.next {es : List (Int × Int)} {ls : List Int} {i : Nat} (h : ClosedTo es ls i) {x : Int} (hx : ls[i]? = some x) (hn : ∀ y ∈ nbL x es, y ∈ ls) : ClosedTo es ls (i + 1) := fun j hj hji y hy => by
  by_cases e : j < i
  · exact h j hj e y hy
  · obtain rfl : j = i := by omega
    rw [List.getElem?_eq_getElem hj] at hx
    cases hx
    exact hn y hy
end Go.Proofs.Ytckcbaegehfkoaa
namespace Go.Proofs.Ytckcbaegehfkoaa

theorem Links.take {es : List (Int × Int)} {p : List Int} (h : Links es p) (k : Nat) : Links es (p.take k) := fun i hi => by
  rw [List.length_take] at hi
  rw [List.getElem_take, List.getElem_take]
  exact h i (by omega)
theorem Links.drop {es : List (Int × Int)} {p : List Int} (h : Links es p) (k : Nat) : Links es (p.drop k) := fun i hi => by
  rw [List.length_drop] at hi
  rw [List.getElem_drop, List.getElem_drop]
  exact h (k + i) (by omega)
theorem Links.append {es : List (Int × Int)} {p q : List Int} (h : Links es p) (k : Links es q) (hj : ∀ (h1 : 0 < p.length) (h2 : 0 < q.length), Adj es (p[p.length - 1]'(by omega)) q[0]) : Links es (p ++ q) := fun i hi => by
  rw [List.length_append] at hi
  by_cases h1 : i + 1 < p.length
  · rw [List.getElem_append_left (by omega), List.getElem_append_left h1]
    exact h i h1
  · by_cases h2 : i < p.length
    · rw [List.getElem_append_left h2, List.getElem_append_right (by omega)]
      have := hj (by omega) (by omega)
      obtain rfl : i = p.length - 1 := by omega
      simp only [show p.length - 1 + 1 - p.length = 0 by omega]
      exact this
    · rw [List.getElem_append_right (by omega), List.getElem_append_right (by omega)]
      have := k (i - p.length) (by omega)
      simp only [show i + 1 - p.length = i - p.length + 1 by omega]
      exact this
theorem Links.reverse {es : List (Int × Int)} {p : List Int} (h : Links es p) : Links es p.reverse := fun i hi => by
  rw [List.length_reverse] at hi
  rw [List.getElem_reverse, List.getElem_reverse]
  have := h (p.length - 1 - (i + 1)) (by omega)
  simp only [show p.length - 1 - (i + 1) + 1 = p.length - 1 - i by omega] at this
  exact this.symm
theorem PathL.take {n : Int} {es : List (Int × Int)} {p : List Int} (h : PathL n es p) {k : Nat} (hk : 0 < k) : PathL n es (p.take k) :=
  ⟨fun e => by have h1 : (p.take k).length = 0 := by { rw [e]; rfl }; rw [List.length_take] at h1; have := h.pos; omega, List.Sublist.nodup (List.take_sublist _ _) h.nd, fun x hx => h.inn x (List.mem_of_mem_take hx), h.lk.take k⟩
theorem PathL.drop {n : Int} {es : List (Int × Int)} {p : List Int} (h : PathL n es p) {k : Nat} (hk : k < p.length) : PathL n es (p.drop k) :=
  ⟨fun e => by have := congrArg List.length e; rw [List.length_drop] at this; simp at this; omega, List.Sublist.nodup (List.drop_sublist _ _) h.nd, fun x hx => h.inn x (List.mem_of_mem_drop hx), h.lk.drop k⟩
theorem PathL.reverse {n : Int} {es : List (Int × Int)} {p : List Int} (h : PathL n es p) : PathL n es p.reverse :=
  ⟨fun e => h.ne (List.reverse_eq_nil_iff.1 e), List.pairwise_reverse.2 (List.Pairwise.imp (fun h => Ne.symm h) h.nd), fun x hx => h.inn x (List.mem_reverse.1 hx), h.lk.reverse⟩
theorem head_at {p : List Int} {x : Int} (h : p.head? = some x) : ∃ h0 : 0 < p.length, p[0] = x := by
  cases p with
  | nil => simp at h
  | cons y l => simp at h; exact ⟨by simp, h⟩
theorem last_at {p : List Int} {x : Int} (h : p.getLast? = some x) : ∃ h0 : 0 < p.length, p[p.length - 1] = x := by
  cases hp : p with
  | nil => rw [hp] at h; simp at h
  | cons y l =>
    rw [List.getLast?_eq_getElem?] at h
    have h0 : 0 < p.length := by rw [hp]; simp
    rw [List.getElem?_eq_getElem (by omega)] at h
    cases h
    subst hp
    exact ⟨h0, rfl⟩
theorem at_last {p : List Int} (h0 : 0 < p.length) : p.getLast? = some (p[p.length - 1]'(by omega)) := by
  rw [List.getLast?_eq_getElem?, List.getElem?_eq_getElem (by omega)]
/-- A path from x to y, by vertices with Q alone. -/
def Pth (n : Int) (es : List (Int × Int)) (Q : Int → Prop) (x y : Int) : Prop := ∃ p, PathL n es p ∧ p.head? = some x ∧ p.getLast? = some y ∧ ∀ z ∈ p, Q z
theorem pth_self {n : Int} {es : List (Int × Int)} {Q : Int → Prop} {x : Int} (h : 0 ≤ x ∧ x < n) (hQ : Q x) : Pth n es Q x x :=
  ⟨[x], ⟨by simp, by simp, fun z hz => by simp at hz; subst hz; exact h, fun i hi => absurd hi (by simp)⟩, rfl, rfl, fun z hz => by simp at hz; subst hz; exact hQ⟩
theorem Pth.step {n : Int} {es : List (Int × Int)} {Q : Int → Prop} {x u v : Int} (hR : RightG n es) (h : Pth n es Q x u) (ha : Adj es u v) (hQ : Q v) : Pth n es Q x v := by
  obtain ⟨p, hp, h1, h2, h3⟩ := h
  obtain ⟨_, hv, _⟩ := ha.in hR
  by_cases hm : v ∈ p
  · obtain ⟨i, hi, rfl⟩ := List.getElem_of_mem hm
    refine ⟨p.take (i + 1), hp.take (by omega), ?_, ?_, fun z hz => h3 z (List.mem_of_mem_take hz)⟩
    · rw [List.head?_take, if_neg (by omega)]; exact h1
    · have hl : (p.take (i + 1)).length = i + 1 := by rw [List.length_take]; omega
      rw [at_last (by omega)]
      simp [hl]
  · obtain ⟨h0, hl⟩ := last_at h2
    refine ⟨p ++ [v], ⟨by simp, List.nodup_append.2 ⟨hp.nd, by simp, fun a ha' b hb => by simp at hb; subst hb; exact fun e => hm (e ▸ ha')⟩, fun z hz => ?_, hp.lk.append (fun i hi => absurd hi (by simp)) (fun _ _ => ?_)⟩, ?_, by simp, fun z hz => ?_⟩
    · rcases List.mem_append.1 hz with hz | hz
      · exact hp.inn z hz
      · simp at hz; subst hz; exact hv
    · rw [hl]; exact ha
    · rw [List.head?_append, h1]; rfl
    · rcases List.mem_append.1 hz with hz | hz
      · exact h3 z hz
      · simp at hz; subst hz; exact hQ
theorem adj_same {n : Nat} {es : List (Int × Int)} {f : Nat → Nat} (hR : RightG n es) (hT : Tells n f (prsN es)) {x y : Int} (h : Adj es x y) : f x.toNat = f y.toNat := by
  have hin := h.in hR
  obtain ⟨a, rfl⟩ : ∃ a : Nat, x = a := ⟨x.toNat, by omega⟩
  obtain ⟨b, rfl⟩ : ∃ b : Nat, y = b := ⟨y.toNat, by omega⟩
  rw [Int.toNat_natCast, Int.toNat_natCast]
  refine (hT a b (by omega) (by omega)).2 ?_
  rcases h with h | h
  · exact Cl.of (e := (a, b)) ((mem_prsN hR).2 h)
  · exact (Cl.of (e := (b, a)) ((mem_prsN hR).2 h)).symm
theorem path_same {n : Nat} {es : List (Int × Int)} {f : Nat → Nat} (hR : RightG n es) (hT : Tells n f (prsN es)) {p : List Int} (hp : Links es p) : ∀ i (h : i < p.length), f (p[i]).toNat = f (p[0]'(by omega)).toNat
  | 0, _ => rfl
  | i + 1, h => (adj_same hR hT (hp i h)).symm.trans (path_same hR hT hp i (by omega))
/-- Of one class just if there is a path. -/
theorem pth_cl {n : Nat} {es : List (Int × Int)} {f : Nat → Nat} (hR : RightG n es) (hT : Tells n f (prsN es)) {a b : Nat} (ha : a < n) (hb : b < n) : f a = f b ↔ Pth n es (fun _ => True) a b := by
  constructor
  · intro e
    have hc := (hT a b ha hb).1 e
    have := hc (fun x y => ∀ s, Pth n es (fun _ => True) s (x : Int) ↔ Pth n es (fun _ => True) s (y : Int)) (fun _ _ => Iff.rfl) (fun _ _ h s => (h s).symm) (fun _ _ _ h k s => (h s).trans (k s)) (fun e he s => by
      have he' := (mem_prsN (a := e.1) (b := e.2) hR).1 he
      exact ⟨fun h => h.step hR (Or.inl he') trivial, fun h => h.step hR (Or.inr he') trivial⟩)
    exact (this a).1 (pth_self (by omega) trivial)
  · rintro ⟨p, hp, h1, h2, _⟩
    obtain ⟨h0, e1⟩ := head_at h1
    obtain ⟨_, e2⟩ := last_at h2
    have := path_same hR hT hp.lk (p.length - 1) (by omega)
    rw [e1, e2] at this
    simpa using this.symm
end Go.Proofs.Ytckcbaegehfkoaa
namespace Go.Proofs.Ytckcbaegehfkoaa

theorem Way.in {n : Int} {es : List (Int × Int)} {a b : Int} {away p : List Int} (h : Way n es a b away p) : ∀ z ∈ p, (0 ≤ z ∧ z < n) ∧ z ∉ away := fun z hz => ⟨h.path.inn z hz, h.off z hz⟩
theorem Way.reverse {n : Int} {es : List (Int × Int)} {a b : Int} {away p : List Int} (h : Way n es a b away p) : Way n es b a away p.reverse :=
  ⟨h.path.reverse, by rw [List.head?_reverse]; exact h.last, by rw [List.getLast?_reverse]; exact h.first, fun z hz => h.off z (List.mem_reverse.1 hz)⟩
end Go.Proofs.Ytckcbaegehfkoaa
namespace Go.Proofs.Ytckcbaegehfkoaa

/-- D tells how many edges lie between each vertex and b, by open vertices; -1: there is no way. -/
structure Lev (n : Int) (es : List (Int × Int)) (O : Int → Prop) (b : Int) (D : Int → Int) : Prop where
  root : D b = 0
  opn : ∀ x, 0 ≤ x → x < n → 0 ≤ D x → O x
  zero : ∀ x, 0 ≤ x → x < n → D x = 0 → x = b
  down : ∀ x, 0 ≤ x → x < n → 0 < D x → ∃ u, Adj es u x ∧ D u = D x - 1
  near : ∀ u v, Adj es u v → 0 ≤ D u → O v → 0 ≤ D v ∧ D v ≤ D u + 1
/-- A search under way: F is found, the first i of it are looked at. -/
structure Bf (n : Int) (es : List (Int × Int)) (O : Int → Prop) (b : Int) (F : List Int) (D : Int → Int) (i : Nat) : Prop where
  nd : F.Nodup
  mem : ∀ x, 0 ≤ x → x < n → (x ∈ F ∧ 0 ≤ D x) ∨ (x ∉ F ∧ D x = -1)
  inr : ∀ x ∈ F, (0 ≤ x ∧ x < n) ∧ O x
  root : b ∈ F ∧ D b = 0
  mono : ∀ j k (hjk : j ≤ k) (hk : k < F.length), D (F[j]'(by omega)) ≤ D F[k]
  top : ∀ j (hj : j < F.length) (hi : i < F.length), D F[j] ≤ D F[i] + 1
  zero : ∀ x ∈ F, D x = 0 → x = b
  down : ∀ x ∈ F, 0 < D x → ∃ u ∈ F, Adj es u x ∧ D u = D x - 1
  done : ∀ j (hj : j < F.length), j < i → ∀ v, Adj es F[j] v → O v → v ∈ F ∧ D v ≤ D F[j] + 1
  le : ∀ j (hj : j < F.length), D F[j] ≤ j
theorem bf_start {n : Int} {es : List (Int × Int)} {O : Int → Prop} {b : Int} (hb : 0 ≤ b ∧ b < n) (hO : O b) : Bf n es O b [b] (fun x => if x = b then 0 else -1) 0 := by
  refine ⟨by simp, fun x _ _ => ?_, fun x hx => by simp at hx; subst hx; exact ⟨hb, hO⟩, ⟨by simp, by simp⟩, fun j k hjk hk => ?_, fun j hj hi => ?_, fun x hx _ => by simpa using hx, fun x hx h => ?_, fun j _ h => absurd h (by omega), fun j hj => ?_⟩
  · by_cases e : x = b
    · subst e; exact Or.inl ⟨by simp, by simp⟩
    · exact Or.inr ⟨by simpa using e, by simp [e]⟩
  · simp at hk; subst hk; obtain rfl : j = 0 := by omega
    exact Int.le_refl _
  · simp at hj; subst hj; simp
  · simp at hx; subst hx; simp at h
  · simp at hj; subst hj; simp
theorem getElem_snoc_lt {F : List Int} {w : Int} {j : Nat} (h : j < F.length) : (F ++ [w])[j]'(by simp; omega) = F[j] := List.getElem_append_left h
theorem getElem_snoc_last {F : List Int} {w : Int} (h : F.length < (F ++ [w]).length) : (F ++ [w])[F.length] = w := by simp
/-- One more is found. -/
theorem Bf.put {n : Int} {es : List (Int × Int)} {O : Int → Prop} {b : Int} {F : List Int} {D : Int → Int} {i : Nat} (h : Bf n es O b F D i) (hi : i < F.length) {v : Int} (ha : Adj es F[i] v) (hv : 0 ≤ v ∧ v < n) (hO : O v) (hn : v ∉ F) : Bf n es O b (F ++ [v]) (fun x => if x = v then D F[i] + 1 else D x) i := by
  have hne : ∀ x ∈ F, x ≠ v := fun x hx e => hn (e ▸ hx)
  have hD : ∀ j (hj : j < F.length), (if F[j] = v then D F[i] + 1 else D F[j]) = D F[j] := fun j hj => if_neg (hne _ (List.getElem_mem hj))
  have hpos : ∀ j (hj : j < F.length), 0 ≤ D F[j] := fun j hj => by
    have := (h.inr _ (List.getElem_mem hj)).1
    rcases h.mem F[j] this.1 this.2 with e | e
    · exact e.2
    · exact absurd (List.getElem_mem hj) e.1
  refine ⟨List.nodup_append.2 ⟨h.nd, by simp, fun y hy z hz => by simp at hz; subst hz; exact hne y hy⟩, fun x h0 h1 => ?_, fun x hx => ?_, ⟨List.mem_append_left _ h.root.1, ?_⟩, fun j k hjk hk => ?_, fun j hj hi' => ?_, fun x hx h0 => ?_, fun x hx h0 => ?_, fun j hj hji u hu hOu => ?_, fun j hj => ?_⟩
  · by_cases e : x = v
    · subst e
      refine Or.inl ⟨by simp, ?_⟩
      show 0 ≤ (if x = x then D F[i] + 1 else D x)
      rw [if_pos rfl]
      have := hpos i hi
      omega
    · show (x ∈ F ++ [v] ∧ 0 ≤ (if x = v then D F[i] + 1 else D x)) ∨ (x ∉ F ++ [v] ∧ (if x = v then D F[i] + 1 else D x) = -1)
      rw [if_neg e]
      rcases h.mem x h0 h1 with h2 | h2
      · exact Or.inl ⟨List.mem_append_left _ h2.1, h2.2⟩
      · exact Or.inr ⟨fun hm => by rcases List.mem_append.1 hm with hm | hm; exact h2.1 hm; simp at hm; exact e hm, h2.2⟩
  · rcases List.mem_append.1 hx with hx | hx
    · exact h.inr x hx
    · simp at hx; subst hx; exact ⟨hv, hO⟩
  · show (if b = v then D F[i] + 1 else D b) = 0
    rw [if_neg (hne b h.root.1)]; exact h.root.2
  · show (if (F ++ [v])[j]'(by omega) = v then D F[i] + 1 else D ((F ++ [v])[j]'(by omega))) ≤ (if (F ++ [v])[k] = v then D F[i] + 1 else D (F ++ [v])[k])
    by_cases e : k < F.length
    · rw [getElem_snoc_lt e, getElem_snoc_lt (show j < F.length by omega), hD k e, hD j (by omega)]
      exact h.mono j k hjk e
    · obtain rfl : k = F.length := by simp at hk; omega
      rw [getElem_snoc_last hk, if_pos rfl]
      by_cases e2 : j < F.length
      · rw [getElem_snoc_lt e2, hD j e2]; exact h.top j e2 hi
      · obtain rfl : j = F.length := by omega
        rw [getElem_snoc_last hk, if_pos rfl]; exact Int.le_refl _
  · show (if (F ++ [v])[j] = v then D F[i] + 1 else D (F ++ [v])[j]) ≤ (if (F ++ [v])[i] = v then D F[i] + 1 else D (F ++ [v])[i]) + 1
    rw [getElem_snoc_lt hi, hD i hi]
    by_cases e : j < F.length
    · rw [getElem_snoc_lt e, hD j e]; exact h.top j e hi
    · obtain rfl : j = F.length := by simp at hj; omega
      rw [getElem_snoc_last hj, if_pos rfl]; exact Int.le_refl _
  · rcases List.mem_append.1 hx with hx | hx
    · have h0' : (if x = v then D F[i] + 1 else D x) = 0 := h0
      rw [if_neg (hne x hx)] at h0'
      exact h.zero x hx h0'
    · simp at hx; subst hx
      have h0' : (if x = x then D F[i] + 1 else D x) = 0 := h0
      rw [if_pos rfl] at h0'
      have := hpos i hi
      omega
  · rcases List.mem_append.1 hx with hx | hx
    · have h0' : 0 < (if x = v then D F[i] + 1 else D x) := h0
      rw [if_neg (hne x hx)] at h0'
      obtain ⟨u, hu, h1, h2⟩ := h.down x hx h0'
      refine ⟨u, List.mem_append_left _ hu, h1, ?_⟩
      show (if u = v then D F[i] + 1 else D u) = (if x = v then D F[i] + 1 else D x) - 1
      rw [if_neg (hne u hu), if_neg (hne x hx)]; exact h2
    · simp at hx; subst hx
      refine ⟨F[i], List.mem_append_left _ (List.getElem_mem hi), ha, ?_⟩
      show (if F[i] = x then D F[i] + 1 else D F[i]) = (if x = x then D F[i] + 1 else D x) - 1
      rw [hD i hi, if_pos rfl]
      omega
  · have hjF : j < F.length := by omega
    rw [getElem_snoc_lt hjF] at hu
    obtain ⟨h1, h2⟩ := h.done j hjF hji u hu hOu
    refine ⟨List.mem_append_left _ h1, ?_⟩
    show (if u = v then D F[i] + 1 else D u) ≤ (if (F ++ [v])[j] = v then D F[i] + 1 else D (F ++ [v])[j]) + 1
    rw [getElem_snoc_lt hjF, hD j hjF, if_neg (hne u h1)]
    exact h2
  · show (if (F ++ [v])[j] = v then D F[i] + 1 else D (F ++ [v])[j]) ≤ j
    by_cases e : j < F.length
    · rw [getElem_snoc_lt e, hD j e]; exact h.le j e
    · obtain rfl : j = F.length := by simp at hj; omega
      rw [getElem_snoc_last hj, if_pos rfl]
      have := h.le i hi
      omega
theorem Bf.congr {n : Int} {es : List (Int × Int)} {O : Int → Prop} {b : Int} {F : List Int} {D D' : Int → Int} {i : Nat} (h : Bf n es O b F D i) (e : ∀ x, 0 ≤ x → x < n → D x = D' x) : Bf n es O b F D' i := by
  have hF : ∀ x ∈ F, D' x = D x := fun x hx => (e x (h.inr x hx).1.1 (h.inr x hx).1.2).symm
  have hA : ∀ j (hj : j < F.length), D' F[j] = D F[j] := fun j hj => hF _ (List.getElem_mem hj)
  refine ⟨h.nd, fun x h0 h1 => by rw [← e x h0 h1]; exact h.mem x h0 h1, h.inr, ⟨h.root.1, by rw [hF _ h.root.1]; exact h.root.2⟩, fun j k hjk hk => by rw [hA k hk, hA j (by omega)]; exact h.mono j k hjk hk, fun j hj hi => by rw [hA j hj, hA i hi]; exact h.top j hj hi, fun x hx h0 => h.zero x hx (by rw [← hF x hx]; exact h0), fun x hx h0 => ?_, fun j hj hji v ha hO => ?_, fun j hj => by rw [hA j hj]; exact h.le j hj⟩
  · rw [hF x hx] at h0
    obtain ⟨u, hu, h1, h2⟩ := h.down x hx h0
    exact ⟨u, hu, h1, by rw [hF u hu, hF x hx]; exact h2⟩
  · obtain ⟨h1, h2⟩ := h.done j hj hji v ha hO
    exact ⟨h1, by rw [hF v h1, hA j hj]; exact h2⟩
/-- One more is looked at. -/
theorem Bf.next {n : Int} {es : List (Int × Int)} {O : Int → Prop} {b : Int} {F : List Int} {D : Int → Int} {i : Nat} (h : Bf n es O b F D i) (hi : i < F.length) (hd : ∀ v, Adj es F[i] v → O v → v ∈ F) : Bf n es O b F D (i + 1) :=
  { h with
    top := fun j hj hi' => by
      have h1 := h.top j hj hi
      have h2 := h.mono i (i + 1) (by omega) hi'
      omega
    done := fun j hj hji v hv hO => by
      by_cases e : j < i
      · exact h.done j hj e v hv hO
      · obtain rfl : j = i := by omega
        have hm := hd v hv hO
        refine ⟨hm, ?_⟩
        obtain ⟨k, hk, rfl⟩ := List.getElem_of_mem hm
        exact h.top k hk hi }
/-- All is looked at. -/
theorem Bf.lev {n : Int} {es : List (Int × Int)} {O : Int → Prop} {b : Int} {F : List Int} {D : Int → Int} (hR : RightG n es) (h : Bf n es O b F D F.length) : Lev n es O b D := by
  have hm : ∀ x, 0 ≤ x → x < n → 0 ≤ D x → x ∈ F := fun x h0 h1 h2 => by
    rcases h.mem x h0 h1 with e | e
    · exact e.1
    · omega
  refine ⟨h.root.2, fun x h0 h1 h2 => (h.inr x (hm x h0 h1 h2)).2, fun x h0 h1 h2 => h.zero x (hm x h0 h1 (by omega)) h2, fun x h0 h1 h2 => ?_, fun u v ha h0 hO => ?_⟩
  · obtain ⟨u, _, h3, h4⟩ := h.down x (hm x h0 h1 (by omega)) h2
    exact ⟨u, h3, h4⟩
  · obtain ⟨hu, hv, _⟩ := ha.in hR
    obtain ⟨j, hj, rfl⟩ := List.getElem_of_mem (hm u hu.1 hu.2 h0)
    obtain ⟨h1, h2⟩ := h.done j hj hj v ha hO
    refine ⟨?_, h2⟩
    rcases h.mem v hv.1 hv.2 with e | e
    · exact e.2
    · exact absurd h1 e.1
/-- Of a search among the members of l: found is what one comes to. -/
theorem Lev.rch {n : Int} {es : List (Int × Int)} {l : List Int} {b : Int} {D : Int → Int} (hR : RightG n es) (inn : ∀ x ∈ l, 0 ≤ x ∧ x < n) (h : Lev n es (fun x => x ∈ l) b D) {x : Int} (hx : x ∈ l) : 0 ≤ D x ↔ Rch es l b x := by
  constructor
  · intro h0
    obtain ⟨k, hk⟩ : ∃ k : Nat, D x = k := ⟨(D x).toNat, by omega⟩
    clear h0
    induction k generalizing x with
    | zero =>
      have := h.zero x (inn x hx).1 (inn x hx).2 (by omega)
      subst this
      exact Rch.refl _ _ _
    | succ k ih =>
      obtain ⟨u, hu, hd⟩ := h.down x (inn x hx).1 (inn x hx).2 (by omega)
      have hur := (hu.in hR).1
      have hul := h.opn u hur.1 hur.2 (by omega)
      exact (ih hul (by omega)).step hu hx
  · intro hr
    exact hr (fun z => 0 ≤ D z) (by rw [h.root]; exact Int.le_refl _) (fun u v hu ha hv => (h.near u v ha hu hv).1)
theorem Lev.whole {n : Int} {es : List (Int × Int)} {l : List Int} {D : Int → Int} (hR : RightG n es) (nd : l.Nodup) (inn : ∀ x ∈ l, 0 ≤ x ∧ x < n) (h0 : 0 < l.length) (h : Lev n es (fun x => x ∈ l) l[0] D) : (∀ x ∈ l, 0 ≤ D x) ↔ WholeL n es l :=
  ⟨fun ha => WholeL.of_head nd inn h0 (fun y hy => (h.rch hR inn hy).1 (ha y hy)), fun hw x hx => (h.rch hR inn hx).2 (hw.one l[0] (List.getElem_mem h0) x hx)⟩

theorem Lev.congr {n : Int} {es : List (Int × Int)} {O O' : Int → Prop} {b : Int} {D : Int → Int} (hR : RightG n es) (h : Lev n es O b D) (e : ∀ x, 0 ≤ x → x < n → (O x ↔ O' x)) : Lev n es O' b D :=
  ⟨h.root, fun x h0 h1 h2 => (e x h0 h1).1 (h.opn x h0 h1 h2), h.zero, h.down, fun u v ha h0 hO => by
    obtain ⟨_, hv, _⟩ := ha.in hR
    exact h.near u v ha h0 ((e v hv.1 hv.2).2 hO)⟩
/-- Each step goes to the least neighbour that is nearer by one. -/
structure Greedy (es : List (Int × Int)) (D : Int → Int) (a : Int) (L : List Int) : Prop where
  pos : 0 < L.length
  first : L[0] = a
  step : ∀ i (h : i + 1 < L.length), Adj es (L[i]'(by omega)) L[i + 1] ∧ D L[i + 1] = D a - i - 1 ∧ ∀ w, Adj es (L[i]'(by omega)) w → D w = D a - i - 1 → L[i + 1] ≤ w
theorem Greedy.put {es : List (Int × Int)} {D : Int → Int} {a : Int} {L : List Int} (h : Greedy es D a L) {i : Nat} (hl : L.length = i + 1) {u v : Int} (hu : L[i]? = some u) (ha : Adj es u v) (hD : D v = D a - i - 1) (hmin : ∀ w, Adj es u w → D w = D a - i - 1 → v ≤ w) : Greedy es D a (L ++ [v]) := by
  have hu' : L[i]'(by omega) = u := by rw [List.getElem?_eq_getElem (by omega)] at hu; exact Option.some.inj hu
  refine ⟨by simp, by rw [List.getElem_append_left h.pos]; exact h.first, fun j hj => ?_⟩
  simp at hj
  by_cases e : j + 1 < L.length
  · rw [List.getElem_append_left (by omega), List.getElem_append_left e]; exact h.step j e
  · obtain rfl : j = i := by omega
    rw [List.getElem_append_left (by omega), hu']
    have : (L ++ [v])[j + 1]'(by simp; omega) = v := by rw [List.getElem_append_right (by omega)]; simp [hl]
    rw [this]
    exact ⟨ha, hD, hmin⟩
theorem Greedy.lev {es : List (Int × Int)} {D : Int → Int} {a : Int} {L : List Int} (h : Greedy es D a L) (i : Nat) (hi : i < L.length) : D L[i] = D a - i := by
  cases i with
  | zero => rw [h.first]; simp
  | succ i => have := (h.step i hi).2.1; rw [this]; omega
/-- None is found. -/
theorem Lev.none {n : Int} {es : List (Int × Int)} {D : Int → Int} {a b : Int} {away : List Int} (hl : Lev n es (fun x => x ∉ away) b D) (h : D a < 0) : RouteIs n es a b away [] := by
  refine Or.inl ⟨rfl, fun p hp => ?_⟩
  obtain ⟨hp0, e1⟩ := head_at hp.first
  obtain ⟨_, e2⟩ := last_at hp.last
  have hback : ∀ j (hj : j < p.length), 0 ≤ D (p[p.length - 1 - j]'(by omega)) := fun j => by
    induction j with
    | zero => intro hj; simp only [Nat.sub_zero, e2, hl.root]; omega
    | succ j ih =>
      intro hj
      have h1 := ih (by omega)
      have hadj := hp.path.lk (p.length - 1 - (j + 1)) (by omega)
      simp only [show p.length - 1 - (j + 1) + 1 = p.length - 1 - j by omega] at hadj
      exact (hl.near _ _ hadj.symm h1 (hp.off _ (List.getElem_mem _))).1
  have := hback (p.length - 1) (by omega)
  simp only [show p.length - 1 - (p.length - 1) = 0 by omega, e1] at this
  omega
end Go.Proofs.Ytckcbaegehfkoaa
namespace Go.Proofs.Ytckcbaegehfkoaa
open Go.RowKit Go.Lib Go.Shelf

/-- A row that was just made, whole. -/
theorem own_full {w : World} {base g m : Nat} {e : TypeId} {z : Value} (h : w.ownsRow base e 1 (.slice (some ⟨g, 0, none⟩) m m) m (List.replicate m z)) : w.heap[g]? = some (.cells (List.replicate m z).toArray e (0, 0)) := by
  rcases h.2 with ⟨hv, _⟩ | ⟨g', cap, cur, hv, h3, hgb, h5, h6, h7, h8⟩
  · simp at hv
  · simp only [Value.slice.injEq, Option.some.injEq, Addr.mk.injEq, and_true, true_and] at hv
    obtain ⟨rfl, rfl⟩ := hv
    rw [hgb]
    have : cur = (List.replicate m z).toArray := by
      rw [← h8, List.take_of_length_le (by rw [Array.length_toList, h7]; exact Nat.le_refl _)]
    rw [this]
theorem splice_rep {x z : Value} {n c m : Nat} : splice (List.replicate n x ++ List.replicate (m - n) z) n (List.replicate c x) = List.replicate (n + c) x ++ List.replicate (m - (n + c)) z := by
  unfold splice
  rw [List.take_append_of_le_length (by simp), List.drop_append]
  simp
  rw [← List.append_assoc, List.replicate_append_replicate]
  congr 2
  omega
/-- What a copy's cells must be, where there are any. -/
def CpOk (w : World) (cs : List Value) (dp sp : Option Addr) (g off : Nat) : Prop := 0 < cs.length → dp = some ⟨g, off, none⟩ ∧ ∃ ad, sp = some ad ∧ ∀ j v, cs[j]? = some v → w.cell? (ad.add j) = some v
theorem rep_cell {w : World} {g m k : Nat} {x z : Value} {t : TypeId} (h : w.heap[g]? = some (.cells (List.replicate k x ++ List.replicate (m - k) z).toArray t (0, 0))) {j : Nat} (hj : j < k) : w.cell? ⟨g, j, none⟩ = some x := by
  rw [cell_of_heap h]
  simp [List.getElem?_append_left, hj]

set_option maxHeartbeats 1000000 in
set_option maxRecDepth 100000 in
theorem rep_int (s o c : Nat) (x : Int) (m : Nat) (w : World) (hm : m ≤ 1000) (hc : w.cell? ⟨s, o, none⟩ = some (Value.int .i64 x)) :
    Calls Try.prog 87 #[.slice (some ⟨s, o, none⟩) 1 c, .int .i64 m] w fun e w' => ∃ g, e = .returned (.slice (some ⟨g, 0, none⟩) m m) ∧ w.heap.size ≤ g ∧ Row1 w' g m (fun _ => x) ∧ Below w.heap.size w w' := by
  have hs := block_lt_of_cell hc
  have hmul := Any.bits_Mul Try.mul 1 m (by omega) (by omega) w
  change Calls Try.prog 112 _ _ _ at hmul
  rw [show 1 * m / 18446744073709551616 = 0 by omega, show 1 * m % 18446744073709551616 = m by omega] at hmul
  obtain ⟨i0, hi, hz0, hz1, hz2⟩ := info_parts Try.info3
  obtain ⟨w2, hrun, hown, hgrow⟩ := run_make_full (P := Try.prog) w w.heap.size 25 3 i0 (Value.int .i64 0) 1 Try.underlying25 hi hz0 hz1 .i64 .i64 m (by rw [hz2]; omega) (by unfold maxLen; omega) (Nat.le_refl _)
  have hb2 : Below w.heap.size w w2 := Below.grown (Below.refl _ _) hgrow (Nat.le_refl _) (fun k hk => by cases hk)
  rw [made_ints] at hown
  have hlt := (hown.lt _ rfl).2
  have hful := own_full hown
  have HSZ : Hid ((Try.prog.info? 3).map (·.size) = some 1) := by
    show Option.map _ _ = _
    rw [hi]; exact congrArg some hz1
  have c2 := (hb2.cell (p := ⟨s, o, none⟩) hs).trans hc
  have qm : (m : Int) ≤ 9223372036854775807 := by omega
  have qw : IntKind.u64.wrap (m : Int) = (m : Int) := by simp [IntKind.wrap, IntKind.bits, IntKind.signed]; omega
  have qv : IntKind.i64.wrap (m : Int) = (m : Int) := by simp [IntKind.wrap, IntKind.bits, IntKind.signed]; omega
  have HMUL := hid hmul
  obtain ⟨C, hC⟩ := ex_eq (Nat.min 1 m)
  have hC1 : C ≤ 1 := by rw [hC]; exact Nat.min_le_left _ _
  have hC2 : C ≤ m := by rw [hC]; exact Nat.min_le_right _ _
  have HC0 : Hid (C = 0 → m = 0) := fun h => by rw [h] at hC; have : Nat.min 1 m = min 1 m := rfl; omega
  have HNN : Hid ((List.replicate C (Value.int .i64 x)).length = Nat.min 1 m) := by show _ = _; rw [List.length_replicate, hC]
  have HPOS : Hid (CpOk w2 (List.replicate C (Value.int .i64 x)) (some ⟨w.heap.size, 0, none⟩) (some ⟨s, o, none⟩) w.heap.size 0) := fun _ => ⟨rfl, ⟨s, o, none⟩, rfl, fun j v hj => by
    rw [List.getElem?_replicate] at hj
    by_cases e : j < C
    · rw [if_pos e] at hj
      obtain rfl : j = 0 := by omega
      cases hj
      exact c2
    · rw [if_neg e] at hj; cases hj⟩
  have HFIT : Hid (0 + (List.replicate C (Value.int .i64 x)).length ≤ (List.replicate m (Value.int .i64 0)).length) := by show _ ≤ _; simp; exact hC2
  have HON : Hid (∀ v ∈ List.replicate C (Value.int .i64 x), v.oneCell' = true) := fun v hv => by rw [(List.mem_replicate.1 hv).2]; rfl
  obtain ⟨cs, hcs⟩ := ex_eq (List.replicate C (Value.int .i64 x))
  have HCS := hid hcs
  rw [← hcs] at HNN HPOS HFIT HON
  have HFUL := hid hful
  have HB2 := hid hb2
  have hcl : cs.length = C := by rw [hcs]; simp
  clear hown hgrow hz0 hz2 hful hcs hC hc c2
  go_enter Try.func87, Try.ntmps87
  go_wp2_with (first
    | (go_at_call 112; refine HMUL.out.mono ?_; rintro e w' ⟨rfl, hw'⟩; rw [hw']; clear hw')
    | (refine wpList_copy_splice rfl _ _ _ _ rfl 3 Try.underlying25 HSZ.out _ _ _ _ _ _ rfl rfl w.heap.size 0 (List.replicate m (Value.int .i64 0)) 3 HFUL.out cs HNN.out HPOS.out HFIT.out HON.out w.heap.size w HB2.out (Nat.le_refl _) ?_; intro w5 HG5 hB5; rw [hcl]))
  have HG6 : Hid (w5.heap[w.heap.size]? = some (.cells (List.replicate C (Value.int .i64 x) ++ List.replicate (m - C) (Value.int .i64 0)).toArray 3 (0, 0))) := by
    show _ = _
    rw [HG5.out, HCS.out]
    have := splice_rep (x := Value.int .i64 x) (z := Value.int .i64 0) (n := 0) (c := C) (m := m)
    simp only [List.replicate_zero, List.nil_append, Nat.sub_zero, Nat.zero_add] at this
    rw [this]
  clear HG5 HCS HNN HPOS HFIT HON HFUL HB2 HMUL hcl
  go_wp2
  go_loopw [8] (fun i wr => ∃ k : Nat, C ≤ k ∧ k ≤ m ∧ i = .int .i64 k ∧ Hid (wr.heap[w.heap.size]? = some (.cells (List.replicate k (Value.int .i64 x) ++ List.replicate (m - k) (Value.int .i64 0)).toArray 3 (0, 0))) ∧ Below w.heap.size w wr) (fun i _ => m - (RowKit.intOf i).toNat)
  case atStart => exact ⟨C, Nat.le_refl _, hC2, rfl, HG6, hB5⟩
  case round =>
    obtain ⟨k, hk1, hk2, rfl, hG, hbr⟩ := hrel
    by_cases hlt2 : k < m
    · have hkp : 1 ≤ k := by
        by_cases e : C = 0
        · have := HC0.out e; omega
        · omega
      obtain ⟨E, hE⟩ := ex_eq (Nat.min k (m - k))
      have hE1 : E ≤ k := by rw [hE]; exact Nat.min_le_left _ _
      have hE2 : E ≤ m - k := by rw [hE]; exact Nat.min_le_right _ _
      have hE3 : 1 ≤ E := by rw [hE]; exact Nat.le_min.2 ⟨hkp, by omega⟩
      have HNN : Hid ((List.replicate E (Value.int .i64 x)).length = Nat.min k (m - k)) := by show _ = _; rw [List.length_replicate, hE]
      have HPOS : Hid (CpOk wr.drew (List.replicate E (Value.int .i64 x)) (some ⟨w.heap.size, k, none⟩) (some ⟨w.heap.size, 0, none⟩) w.heap.size k) := fun _ => ⟨rfl, ⟨w.heap.size, 0, none⟩, rfl, fun j v hj => by
        rw [List.getElem?_replicate] at hj
        by_cases e : j < E
        · rw [if_pos e] at hj
          cases hj
          rw [add_at, Nat.zero_add]
          exact rep_cell (w := wr) hG.out (by omega)
        · rw [if_neg e] at hj; cases hj⟩
      have HFIT : Hid (k + (List.replicate E (Value.int .i64 x)).length ≤ (List.replicate k (Value.int .i64 x) ++ List.replicate (m - k) (Value.int .i64 0)).length) := by show _ ≤ _; simp; omega
      have HON : Hid (∀ v ∈ List.replicate E (Value.int .i64 x), v.oneCell' = true) := fun v hv => by rw [(List.mem_replicate.1 hv).2]; rfl
      obtain ⟨cs, hcs⟩ := ex_eq (List.replicate E (Value.int .i64 x))
      obtain ⟨cur, hcur⟩ := ex_eq (List.replicate k (Value.int .i64 x) ++ List.replicate (m - k) (Value.int .i64 0))
      have HCS := hid hcs
      have HCUR := hid hcur
      rw [← hcs] at HNN HPOS HFIT HON
      rw [← hcur] at HFIT hG
      have HGD : Hid (wr.drew.heap[w.heap.size]? = some (.cells cur.toArray 3 (0, 0))) := hG
      have HBD : Hid (Below w.heap.size w wr.drew) := hbr.drew
      have hcl : cs.length = E := by rw [hcs]; simp
      have q1 : (k : Int) < (m : Int) := by omega
      have q2 : (k : Int) ≤ (m : Int) := by omega
      have q3 : ¬ m = k := by omega
      clear hcs hcur hE hG
      go_wp2_with fail
      go_region_law (refine step_copy_splice rfl (.tmp 41) (.tmp 44) 25 25 rfl 3 Try.underlying25 HSZ.out (some ⟨w.heap.size, k, none⟩) (some ⟨w.heap.size, 0, none⟩) (m - k) (m - k) k m (by simp [Act.eval, Act.put]) (by simp [Act.eval, Act.put]) w.heap.size k cur 3 HGD.out cs HNN.out HPOS.out HFIT.out HON.out w.heap.size w HBD.out (Nat.le_refl _) ?_; intro w6 HG7 hB6)
      all_goals
        have HG8 : Hid (w6.heap[w.heap.size]? = some (.cells (List.replicate (k + E) (Value.int .i64 x) ++ List.replicate (m - (k + E)) (Value.int .i64 0)).toArray 3 (0, 0))) := by
          show _ = _
          rw [HG7.out, HCS.out, HCUR.out, splice_rep]
        clear HG7 HCS HCUR HNN HPOS HFIT HON HGD HBD
        try simp only [List.getElem_toArray, List.getElem_cons_succ, List.getElem_cons_zero]
        try simp only [Act.put, List.setIfInBounds_toArray, List.set_cons_zero, List.set_cons_succ]
        have hwr : IntKind.i64.wrap ((k : Int) + (E : Int)) = ((k + E : Nat) : Int) := by simp [IntKind.wrap, IntKind.bits, IntKind.signed]; omega
        go_wp2
        go_roundw
        case rel => exact ⟨k + E, by omega, by omega, by go_num, HG8, hB6⟩
        case measure => simp [RowKit.intOf]; omega
    · obtain rfl : k = m := by omega
      have HRow1 : Hid (Row1 wr w.heap.size k (fun _ => x)) := ⟨(Array.getElem?_eq_some_iff.1 hG.out).1, fun j hj => ⟨rep_cell hG.out hj, frozen_of_heap hG.out _⟩⟩
      clear hG
      go_wp2
      go_ret
      exact ⟨w.heap.size, rfl, Nat.le_refl _, HRow1.out, hbr⟩

end Go.Proofs.Ytckcbaegehfkoaa
