/-
  The document's Is, Same, Count and Join of layer 4.
  What is reached from a vertex: pure facts for the document's components. No program is named here.
  Paths: put together, cut off, turned round; components; what follows of routes. No program is named here.
  What follows of a route: its vertices' ways on are routes, it has no short cuts, turned round it is as long. No program is named here.
  How far off each vertex lies: what a search tells, and the least of the shortest ways by it. No program is named here.
  The program's distances: a search, one vertex behind the other.
  The small case that the laws of layer 5 begin with answers true.
  The program's table of pairs, and how long its paths are (layer 9).
-/
import Derived.Test.YtckcbaegehfkoaaA06
import Derived.Test.YtckcbaegehfkoaaA02
import Derived.Test.YtckcbaegehfkoaaA05
import Derived.Test.YtckcbaegehfkoaaA03
import Derived.Test.YtckcbaegehfkoaaA08
import Derived.Test.YtckcbaegehfkoaaA01
import Derived.Laws.CopyOwn
import Derived.Test.YtckcbaegehfkoaaA04
import Derived.Test.YtckcbaegehfkoaaA09
namespace Go.Proofs.Ytckcbaegehfkoaa
open Go.RowKit Go.Lib

theorem QAt.congr {w : World} {b g : Nat} {a : Option Addr} {n cap : Nat} {f f' : Nat → Nat} (h : QAt w b g a n cap f) (e : ∀ i, i < n → f i = f' i) : QAt w b g a n cap f' :=
  ⟨h.box, fun h0 => ⟨(h.row h0).1, (h.row h0).2.congr (fun j hj => by rw [e j hj])⟩, h.ne⟩
theorem QAt.put {w : World} {b g : Nat} {a : Option Addr} {n cap : Nat} {f : Nat → Nat} (h : QAt w b g a n cap f) {i : Nat} (hi : i < n) (x : Nat) : QAt (w.setCell ⟨g, i, none⟩ (.int .i64 x)) b g a n cap (fun j => if j = i then x else f j) := by
  refine ⟨?_, fun h0 => ⟨(h.row h0).1, ((h.row h0).2.put hi (x : Int)).congr (fun j _ => by by_cases e : j = i <;> simp [e])⟩, h.ne⟩
  rw [World.cell?_setCell_other _ _ _ _ (fun e => h.ne (congrArg Addr.block e))]
  exact h.box
end Go.Proofs.Ytckcbaegehfkoaa
namespace Go.Proofs.Ytckcbaegehfkoaa

/-- The edges of a graph as pairs of numbers. -/
def prsN (es : List (Int × Int)) : List (Nat × Nat) := es.map (fun e => (e.1.toNat, e.2.toNat))
theorem prsN_in {n : Nat} {es : List (Int × Int)} (h : RightG n es) : PairsIn n (prsN es) := fun e he => by
  obtain ⟨x, hx, rfl⟩ := List.mem_map.1 he
  have := h.2.2.2.1 x hx
  simp only
  omega
theorem mem_prsN {n : Nat} {es : List (Int × Int)} (h : RightG n es) {a b : Nat} : (a, b) ∈ prsN es ↔ ((a : Int), (b : Int)) ∈ es := by
  unfold prsN
  rw [List.mem_map]
  constructor
  · rintro ⟨x, hx, e⟩
    have := h.2.2.2.1 x hx
    simp only [Prod.mk.injEq] at e
    have e2 : x = ((a : Int), (b : Int)) := Prod.ext (by simp; omega) (by simp; omega)
    rw [← e2]; exact hx
  · intro hx; exact ⟨_, hx, by simp⟩
/-- There are classes to each row of pairs. -/
theorem tells_rev {n : Nat} : ∀ (Q : List (Nat × Nat)), PairsIn n Q.reverse → ∃ f, Pt n f ∧ Tells n f Q.reverse
  | [], _ => ⟨_, pt_new n, tells_new n⟩
  | e :: Q, h => by
    rw [List.reverse_cons] at h ⊢
    obtain ⟨f, hf, ht⟩ := tells_rev Q (fun x hx => h x (List.mem_append_left _ hx))
    have he := h e (by simp)
    exact ⟨_, hf.join he.1 he.2, tells_join ht (fun x hx => h x (List.mem_append_left _ hx)) he.1 he.2⟩
theorem tells_ex {n : Nat} (P : List (Nat × Nat)) (h : PairsIn n P) : ∃ f, Pt n f ∧ Tells n f P := by
  have := tells_rev P.reverse (by rw [List.reverse_reverse]; exact h)
  rwa [List.reverse_reverse] at this
/-- What has been reached from m. -/
structure Bfs (n : Nat) (f : Nat → Nat) (m : Nat) (ls : List Int) : Prop where
  nd : ls.Nodup
  all : ∀ x ∈ ls, ∃ u : Nat, x = u ∧ u < n ∧ f u = m
  has : (m : Int) ∈ ls
theorem Bfs.put {n : Nat} {f : Nat → Nat} {m : Nat} {ls : List Int} (h : Bfs n f m ls) {u : Nat} (hu : u < n) (hf : f u = m) (hn : (u : Int) ∉ ls) : Bfs n f m (ls ++ [(u : Int)]) := by
  refine ⟨?_, fun x hx => ?_, by simp [h.has]⟩
  · rw [List.nodup_append]
    refine ⟨h.nd, by simp, fun a ha b hb => ?_⟩
    simp at hb
    subst hb
    intro e
    subst e
    exact hn ha
  · rcases List.mem_append.1 hx with hx | hx
    · exact h.all x hx
    · simp at hx; exact ⟨u, hx, hu, hf⟩
theorem len_le_of_subI {a b : List Int} (h : a.Nodup) (hs : ∀ e ∈ a, e ∈ b) : a.length ≤ b.length := by
  induction a generalizing b with
  | nil => simp
  | cons x a ih =>
    have hx := hs x (by simp)
    have hnd := List.nodup_cons.1 h
    have := ih (b := b.erase x) hnd.2 (fun e he => by
      refine (List.mem_erase_of_ne ?_).2 (hs e (by simp [he]))
      rintro rfl
      exact hnd.1 he)
    rw [List.length_erase_of_mem hx] at this
    have : 0 < b.length := List.length_pos_of_mem hx
    simp; omega
theorem Bfs.len {n : Nat} {f : Nat → Nat} {m : Nat} {ls : List Int} (h : Bfs n f m ls) : ls.length ≤ n := by
  have := len_le_of_subI (b := upto n) h.nd (fun x hx => by
    obtain ⟨u, rfl, hu, _⟩ := h.all x hx
    unfold upto
    exact List.mem_map.2 ⟨u, by simpa using hu, rfl⟩)
  rwa [upto_len] at this
/-- The neighbours of the first i are reached. -/
def ClosedTo (es : List (Int × Int)) (ls : List Int) (i : Nat) : Prop := ∀ j (h : j < ls.length), j < i → ∀ y ∈ nbL ls[j] es, y ∈ ls
theorem ClosedTo.put {es : List (Int × Int)} {ls : List Int} {i : Nat} (h : ClosedTo es ls i) (hi : i ≤ ls.length) (x : Int) : ClosedTo es (ls ++ [x]) i := fun j hj hji y hy => by
  have hj' : j < ls.length := by omega
  have e : (ls ++ [x])[j] = ls[j] := List.getElem_append_left hj'
  rw [e] at hy
  exact List.mem_append_left _ (h j hj' hji y hy)
theorem ClosedTo.next {es : List (Int × Int)} {ls : List Int} {i : Nat} (h : ClosedTo es ls i) {x : Int} (hx : ls[i]? = some x) (hn : ∀ y ∈ nbL x es, y ∈ ls) : ClosedTo es ls (i + 1) := fun j hj hji y hy => by
  by_cases e : j < i
  · exact h j hj e y hy
  · obtain rfl : j = i := by omega
    rw [List.getElem?_eq_getElem hj] at hx
    cases hx
    exact hn y hy
end Go.Proofs.Ytckcbaegehfkoaa
namespace Go.Proofs.Ytckcbaegehfkoaa

theorem Links.take {es : List (Int × Int)} {p : List Int} (h : Links es p) (k : Nat) : Links es (p.take k) := fun i hi => by
  rw [List.length_take] at hi
  rw [List.getElem_take, List.getElem_take]
  exact h i (by omega)
theorem Links.drop {es : List (Int × Int)} {p : List Int} (h : Links es p) (k : Nat) : Links es (p.drop k) := fun i hi => by
  rw [List.length_drop] at hi
  rw [List.getElem_drop, List.getElem_drop]
  exact h (k + i) (by omega)
theorem Links.append {es : List (Int × Int)} {p q : List Int} (h : Links es p) (k : Links es q) (hj : ∀ (h1 : 0 < p.length) (h2 : 0 < q.length), Adj es (p[p.length - 1]'(by omega)) q[0]) : Links es (p ++ q) := fun i hi => by
  rw [List.length_append] at hi
  by_cases h1 : i + 1 < p.length
  · rw [List.getElem_append_left (by omega), List.getElem_append_left h1]
    exact h i h1
  · by_cases h2 : i < p.length
    · rw [List.getElem_append_left h2, List.getElem_append_right (by omega)]
      have := hj (by omega) (by omega)
      obtain rfl : i = p.length - 1 := by omega
      simp only [show p.length - 1 + 1 - p.length = 0 by omega]
      exact this
    · rw [List.getElem_append_right (by omega), List.getElem_append_right (by omega)]
      have := k (i - p.length) (by omega)
      simp only [show i + 1 - p.length = i - p.length + 1 by omega]
      exact this
theorem Links.reverse {es : List (Int × Int)} {p : List Int} (h : Links es p) : Links es p.reverse := fun i hi => by
  rw [List.length_reverse] at hi
  rw [List.getElem_reverse, List.getElem_reverse]
  have := h (p.length - 1 - (i + 1)) (by omega)
  simp only [show p.length - 1 - (i + 1) + 1 = p.length - 1 - i by omega] at this
  exact this.symm
theorem PathL.take {n : Int} {es : List (Int × Int)} {p : List Int} (h : PathL n es p) {k : Nat} (hk : 0 < k) : PathL n es (p.take k) :=
  ⟨fun e => by have h1 : (p.take k).length = 0 := by { rw [e]; rfl }; rw [List.length_take] at h1; have := h.pos; omega, List.Sublist.nodup (List.take_sublist _ _) h.nd, fun x hx => h.inn x (List.mem_of_mem_take hx), h.lk.take k⟩
theorem PathL.drop {n : Int} {es : List (Int × Int)} {p : List Int} (h : PathL n es p) {k : Nat} (hk : k < p.length) : PathL n es (p.drop k) :=
  ⟨fun e => by have := congrArg List.length e; rw [List.length_drop] at this; simp at this; omega, List.Sublist.nodup (List.drop_sublist _ _) h.nd, fun x hx => h.inn x (List.mem_of_mem_drop hx), h.lk.drop k⟩
theorem PathL.reverse {n : Int} {es : List (Int × Int)} {p : List Int} (h : PathL n es p) : PathL n es p.reverse :=
  ⟨fun e => h.ne (List.reverse_eq_nil_iff.1 e), List.pairwise_reverse.2 (List.Pairwise.imp (fun h => Ne.symm h) h.nd), fun x hx => h.inn x (List.mem_reverse.1 hx), h.lk.reverse⟩
theorem head_at {p : List Int} {x : Int} (h : p.head? = some x) : ∃ h0 : 0 < p.length, p[0] = x := by
  cases p with
  | nil => simp at h
  | cons y l => simp at h; exact ⟨by simp, h⟩
theorem last_at {p : List Int} {x : Int} (h : p.getLast? = some x) : ∃ h0 : 0 < p.length, p[p.length - 1] = x := by
  cases hp : p with
  | nil => rw [hp] at h; simp at h
  | cons y l =>
    rw [List.getLast?_eq_getElem?] at h
    have h0 : 0 < p.length := by rw [hp]; simp
    rw [List.getElem?_eq_getElem (by omega)] at h
    cases h
    subst hp
    exact ⟨h0, rfl⟩
theorem at_last {p : List Int} (h0 : 0 < p.length) : p.getLast? = some (p[p.length - 1]'(by omega)) := by
  rw [List.getLast?_eq_getElem?, List.getElem?_eq_getElem (by omega)]
/-- A path from x to y, by vertices with Q alone. -/
def Pth (n : Int) (es : List (Int × Int)) (Q : Int → Prop) (x y : Int) : Prop := ∃ p, PathL n es p ∧ p.head? = some x ∧ p.getLast? = some y ∧ ∀ z ∈ p, Q z
theorem pth_self {n : Int} {es : List (Int × Int)} {Q : Int → Prop} {x : Int} (h : 0 ≤ x ∧ x < n) (hQ : Q x) : Pth n es Q x x :=
  ⟨[x], ⟨by simp, by simp, fun z hz => by simp at hz; subst hz; exact h, fun i hi => absurd hi (by simp)⟩, rfl, rfl, fun z hz => by simp at hz; subst hz; exact hQ⟩
theorem Pth.step {n : Int} {es : List (Int × Int)} {Q : Int → Prop} {x u v : Int} (hR : RightG n es) (h : Pth n es Q x u) (ha : Adj es u v) (hQ : Q v) : Pth n es Q x v := by
  obtain ⟨p, hp, h1, h2, h3⟩ := h
  obtain ⟨_, hv, _⟩ := ha.in hR
  by_cases hm : v ∈ p
  · obtain ⟨i, hi, rfl⟩ := List.getElem_of_mem hm
    refine ⟨p.take (i + 1), hp.take (by omega), ?_, ?_, fun z hz => h3 z (List.mem_of_mem_take hz)⟩
    · rw [List.head?_take, if_neg (by omega)]; exact h1
    · have hl : (p.take (i + 1)).length = i + 1 := by rw [List.length_take]; omega
      rw [at_last (by omega)]
      simp [hl]
  · obtain ⟨h0, hl⟩ := last_at h2
    refine ⟨p ++ [v], ⟨by simp, List.nodup_append.2 ⟨hp.nd, by simp, fun a ha' b hb => by simp at hb; subst hb; exact fun e => hm (e ▸ ha')⟩, fun z hz => ?_, hp.lk.append (fun i hi => absurd hi (by simp)) (fun _ _ => ?_)⟩, ?_, by simp, fun z hz => ?_⟩
    · rcases List.mem_append.1 hz with hz | hz
      · exact hp.inn z hz
      · simp at hz; subst hz; exact hv
    · rw [hl]; exact ha
    · rw [List.head?_append, h1]; rfl
    · rcases List.mem_append.1 hz with hz | hz
      · exact h3 z hz
      · simp at hz; subst hz; exact hQ
theorem adj_same {n : Nat} {es : List (Int × Int)} {f : Nat → Nat} (hR : RightG n es) (hT : Tells n f (prsN es)) {x y : Int} (h : Adj es x y) : f x.toNat = f y.toNat := by
  have hin := h.in hR
  obtain ⟨a, rfl⟩ : ∃ a : Nat, x = a := ⟨x.toNat, by omega⟩
  obtain ⟨b, rfl⟩ : ∃ b : Nat, y = b := ⟨y.toNat, by omega⟩
  rw [Int.toNat_natCast, Int.toNat_natCast]
  refine (hT a b (by omega) (by omega)).2 ?_
  rcases h with h | h
  · exact Cl.of (e := (a, b)) ((mem_prsN hR).2 h)
  · exact (Cl.of (e := (b, a)) ((mem_prsN hR).2 h)).symm
theorem path_same {n : Nat} {es : List (Int × Int)} {f : Nat → Nat} (hR : RightG n es) (hT : Tells n f (prsN es)) {p : List Int} (hp : Links es p) : ∀ i (h : i < p.length), f (p[i]).toNat = f (p[0]'(by omega)).toNat
  | 0, _ => rfl
  | i + 1, h => (adj_same hR hT (hp i h)).symm.trans (path_same hR hT hp i (by omega))
/-- Of one class just if there is a path. -/
theorem pth_cl {n : Nat} {es : List (Int × Int)} {f : Nat → Nat} (hR : RightG n es) (hT : Tells n f (prsN es)) {a b : Nat} (ha : a < n) (hb : b < n) : f a = f b ↔ Pth n es (fun _ => True) a b := by
  constructor
  · intro e
    have hc := (hT a b ha hb).1 e
    have := hc (fun x y => ∀ s, Pth n es (fun _ => True) s (x : Int) ↔ Pth n es (fun _ => True) s (y : Int)) (fun _ _ => Iff.rfl) (fun _ _ h s => (h s).symm) (fun _ _ _ h k s => (h s).trans (k s)) (fun e he s => by
      have he' := (mem_prsN (a := e.1) (b := e.2) hR).1 he
      exact ⟨fun h => h.step hR (Or.inl he') trivial, fun h => h.step hR (Or.inr he') trivial⟩)
    exact (this a).1 (pth_self (by omega) trivial)
  · rintro ⟨p, hp, h1, h2, _⟩
    obtain ⟨h0, e1⟩ := head_at h1
    obtain ⟨_, e2⟩ := last_at h2
    have := path_same hR hT hp.lk (p.length - 1) (by omega)
    rw [e1, e2] at this
    simpa using this.symm
end Go.Proofs.Ytckcbaegehfkoaa
namespace Go.Proofs.Ytckcbaegehfkoaa

theorem Way.in {n : Int} {es : List (Int × Int)} {a b : Int} {away p : List Int} (h : Way n es a b away p) : ∀ z ∈ p, (0 ≤ z ∧ z < n) ∧ z ∉ away := fun z hz => ⟨h.path.inn z hz, h.off z hz⟩
theorem Way.reverse {n : Int} {es : List (Int × Int)} {a b : Int} {away p : List Int} (h : Way n es a b away p) : Way n es b a away p.reverse :=
  ⟨h.path.reverse, by rw [List.head?_reverse]; exact h.last, by rw [List.getLast?_reverse]; exact h.first, fun z hz => h.off z (List.mem_reverse.1 hz)⟩
end Go.Proofs.Ytckcbaegehfkoaa
namespace Go.Proofs.Ytckcbaegehfkoaa

/-- D tells how many edges lie between each vertex and b, by open vertices; -1: there is no way. -/
structure Lev (n : Int) (es : List (Int × Int)) (O : Int → Prop) (b : Int) (D : Int → Int) : Prop where
  root : D b = 0
  opn : ∀ x, 0 ≤ x → x < n → 0 ≤ D x → O x
  zero : ∀ x, 0 ≤ x → x < n → D x = 0 → x = b
  down : ∀ x, 0 ≤ x → x < n → 0 < D x → ∃ u, Adj es u x ∧ D u = D x - 1
  near : ∀ u v, Adj es u v → 0 ≤ D u → O v → 0 ≤ D v ∧ D v ≤ D u + 1
/-- A search under way: F is found, the first i of it are looked at. -/
structure Bf (n : Int) (es : List (Int × Int)) (O : Int → Prop) (b : Int) (F : List Int) (D : Int → Int) (i : Nat) : Prop where
  nd : F.Nodup
  mem : ∀ x, 0 ≤ x → x < n → (x ∈ F ∧ 0 ≤ D x) ∨ (x ∉ F ∧ D x = -1)
  inr : ∀ x ∈ F, (0 ≤ x ∧ x < n) ∧ O x
  root : b ∈ F ∧ D b = 0
  mono : ∀ j k (hjk : j ≤ k) (hk : k < F.length), D (F[j]'(by omega)) ≤ D F[k]
  top : ∀ j (hj : j < F.length) (hi : i < F.length), D F[j] ≤ D F[i] + 1
  zero : ∀ x ∈ F, D x = 0 → x = b
  down : ∀ x ∈ F, 0 < D x → ∃ u ∈ F, Adj es u x ∧ D u = D x - 1
  done : ∀ j (hj : j < F.length), j < i → ∀ v, Adj es F[j] v → O v → v ∈ F ∧ D v ≤ D F[j] + 1
  le : ∀ j (hj : j < F.length), D F[j] ≤ j
theorem getElem_snoc_lt {F : List Int} {w : Int} {j : Nat} (h : j < F.length) : (F ++ [w])[j]'(by simp; omega) = F[j] := List.getElem_append_left h
theorem getElem_snoc_last {F : List Int} {w : Int} (h : F.length < (F ++ [w]).length) : (F ++ [w])[F.length] = w := by simp
/-- One more is found. -/
theorem Bf.put {n : Int} {es : List (Int × Int)} {O : Int → Prop} {b : Int} {F : List Int} {D : Int → Int} {i : Nat} (h : Bf n es O b F D i) (hi : i < F.length) {v : Int} (ha : Adj es F[i] v) (hv : 0 ≤ v ∧ v < n) (hO : O v) (hn : v ∉ F) : Bf n es O b (F ++ [v]) (fun x => if x = v then D F[i] + 1 else D x) i := by
  have hne : ∀ x ∈ F, x ≠ v := fun x hx e => hn (e ▸ hx)
  have hD : ∀ j (hj : j < F.length), (if F[j] = v then D F[i] + 1 else D F[j]) = D F[j] := fun j hj => if_neg (hne _ (List.getElem_mem hj))
  have hpos : ∀ j (hj : j < F.length), 0 ≤ D F[j] := fun j hj => by
    have := (h.inr _ (List.getElem_mem hj)).1
    rcases h.mem F[j] this.1 this.2 with e | e
    · exact e.2
    · exact absurd (List.getElem_mem hj) e.1
  refine ⟨List.nodup_append.2 ⟨h.nd, by simp, fun y hy z hz => by simp at hz; subst hz; exact hne y hy⟩, fun x h0 h1 => ?_, fun x hx => ?_, ⟨List.mem_append_left _ h.root.1, ?_⟩, fun j k hjk hk => ?_, fun j hj hi' => ?_, fun x hx h0 => ?_, fun x hx h0 => ?_, fun j hj hji u hu hOu => ?_, fun j hj => ?_⟩
  · by_cases e : x = v
    · subst e
      refine Or.inl ⟨by simp, ?_⟩
      show 0 ≤ (if x = x then D F[i] + 1 else D x)
      rw [if_pos rfl]
      have := hpos i hi
      omega
    · show (x ∈ F ++ [v] ∧ 0 ≤ (if x = v then D F[i] + 1 else D x)) ∨ (x ∉ F ++ [v] ∧ (if x = v then D F[i] + 1 else D x) = -1)
      rw [if_neg e]
      rcases h.mem x h0 h1 with h2 | h2
      · exact Or.inl ⟨List.mem_append_left _ h2.1, h2.2⟩
      · exact Or.inr ⟨fun hm => by rcases List.mem_append.1 hm with hm | hm; exact h2.1 hm; simp at hm; exact e hm, h2.2⟩
  · rcases List.mem_append.1 hx with hx | hx
    · exact h.inr x hx
    · simp at hx; subst hx; exact ⟨hv, hO⟩
  · show (if b = v then D F[i] + 1 else D b) = 0
    rw [if_neg (hne b h.root.1)]; exact h.root.2
  · show (if (F ++ [v])[j]'(by omega) = v then D F[i] + 1 else D ((F ++ [v])[j]'(by omega))) ≤ (if (F ++ [v])[k] = v then D F[i] + 1 else D (F ++ [v])[k])
    by_cases e : k < F.length
    · rw [getElem_snoc_lt e, getElem_snoc_lt (show j < F.length by omega), hD k e, hD j (by omega)]
      exact h.mono j k hjk e
    · obtain rfl : k = F.length := by simp at hk; omega
      rw [getElem_snoc_last hk, if_pos rfl]
      by_cases e2 : j < F.length
      · rw [getElem_snoc_lt e2, hD j e2]; exact h.top j e2 hi
      · obtain rfl : j = F.length := by omega
        rw [getElem_snoc_last hk, if_pos rfl]; exact Int.le_refl _
  · show (if (F ++ [v])[j] = v then D F[i] + 1 else D (F ++ [v])[j]) ≤ (if (F ++ [v])[i] = v then D F[i] + 1 else D (F ++ [v])[i]) + 1
    rw [getElem_snoc_lt hi, hD i hi]
    by_cases e : j < F.length
    · rw [getElem_snoc_lt e, hD j e]; exact h.top j e hi
    · obtain rfl : j = F.length := by simp at hj; omega
      rw [getElem_snoc_last hj, if_pos rfl]; exact Int.le_refl _
  · rcases List.mem_append.1 hx with hx | hx
    · have h0' : (if x = v then D F[i] + 1 else D x) = 0 := h0
      rw [if_neg (hne x hx)] at h0'
      exact h.zero x hx h0'
    · simp at hx; subst hx
      have h0' : (if x = x then D F[i] + 1 else D x) = 0 := h0
      rw [if_pos rfl] at h0'
      have := hpos i hi
      omega
  · rcases List.mem_append.1 hx with hx | hx
    · have h0' : 0 < (if x = v then D F[i] + 1 else D x) := h0
      rw [if_neg (hne x hx)] at h0'
      obtain ⟨u, hu, h1, h2⟩ := h.down x hx h0'
      refine ⟨u, List.mem_append_left _ hu, h1, ?_⟩
      show (if u = v then D F[i] + 1 else D u) = (if x = v then D F[i] + 1 else D x) - 1
      rw [if_neg (hne u hu), if_neg (hne x hx)]; exact h2
    · simp at hx; subst hx
      refine ⟨F[i], List.mem_append_left _ (List.getElem_mem hi), ha, ?_⟩
      show (if F[i] = x then D F[i] + 1 else D F[i]) = (if x = x then D F[i] + 1 else D x) - 1
      rw [hD i hi, if_pos rfl]
      omega
  · have hjF : j < F.length := by omega
    rw [getElem_snoc_lt hjF] at hu
    obtain ⟨h1, h2⟩ := h.done j hjF hji u hu hOu
    refine ⟨List.mem_append_left _ h1, ?_⟩
    show (if u = v then D F[i] + 1 else D u) ≤ (if (F ++ [v])[j] = v then D F[i] + 1 else D (F ++ [v])[j]) + 1
    rw [getElem_snoc_lt hjF, hD j hjF, if_neg (hne u h1)]
    exact h2
  · show (if (F ++ [v])[j] = v then D F[i] + 1 else D (F ++ [v])[j]) ≤ j
    by_cases e : j < F.length
    · rw [getElem_snoc_lt e, hD j e]; exact h.le j e
    · obtain rfl : j = F.length := by simp at hj; omega
      rw [getElem_snoc_last hj, if_pos rfl]
      have := h.le i hi
      omega
theorem Bf.congr {n : Int} {es : List (Int × Int)} {O : Int → Prop} {b : Int} {F : List Int} {D D' : Int → Int} {i : Nat} (h : Bf n es O b F D i) (e : ∀ x, 0 ≤ x → x < n → D x = D' x) : Bf n es O b F D' i := by
  have hF : ∀ x ∈ F, D' x = D x := fun x hx => (e x (h.inr x hx).1.1 (h.inr x hx).1.2).symm
  have hA : ∀ j (hj : j < F.length), D' F[j] = D F[j] := fun j hj => hF _ (List.getElem_mem hj)
  refine ⟨h.nd, fun x h0 h1 => by rw [← e x h0 h1]; exact h.mem x h0 h1, h.inr, ⟨h.root.1, by rw [hF _ h.root.1]; exact h.root.2⟩, fun j k hjk hk => by rw [hA k hk, hA j (by omega)]; exact h.mono j k hjk hk, fun j hj hi => by rw [hA j hj, hA i hi]; exact h.top j hj hi, fun x hx h0 => h.zero x hx (by rw [← hF x hx]; exact h0), fun x hx h0 => ?_, fun j hj hji v ha hO => ?_, fun j hj => by rw [hA j hj]; exact h.le j hj⟩
  · rw [hF x hx] at h0
    obtain ⟨u, hu, h1, h2⟩ := h.down x hx h0
    exact ⟨u, hu, h1, by rw [hF u hu, hF x hx]; exact h2⟩
  · obtain ⟨h1, h2⟩ := h.done j hj hji v ha hO
    exact ⟨h1, by rw [hF v h1, hA j hj]; exact h2⟩
/-- One more is looked at. -/
theorem Bf.next {n : Int} {es : List (Int × Int)} {O : Int → Prop} {b : Int} {F : List Int} {D : Int → Int} {i : Nat} (h : Bf n es O b F D i) (hi : i < F.length) (hd : ∀ v, Adj es F[i] v → O v → v ∈ F) : Bf n es O b F D (i + 1) :=
  { h with
    top := fun j hj hi' => by
      have h1 := h.top j hj hi
      have h2 := h.mono i (i + 1) (by omega) hi'
      omega
    done := fun j hj hji v hv hO => by
      by_cases e : j < i
      · exact h.done j hj e v hv hO
      · obtain rfl : j = i := by omega
        have hm := hd v hv hO
        refine ⟨hm, ?_⟩
        obtain ⟨k, hk, rfl⟩ := List.getElem_of_mem hm
        exact h.top k hk hi }
/-- Of a search among the members of l: found is what one comes to. -/
theorem Lev.rch {n : Int} {es : List (Int × Int)} {l : List Int} {b : Int} {D : Int → Int} (hR : RightG n es) (inn : ∀ x ∈ l, 0 ≤ x ∧ x < n) (h : Lev n es (fun x => x ∈ l) b D) {x : Int} (hx : x ∈ l) : 0 ≤ D x ↔ Rch es l b x := by
  constructor
  · intro h0
    obtain ⟨k, hk⟩ : ∃ k : Nat, D x = k := ⟨(D x).toNat, by omega⟩
    clear h0
    induction k generalizing x with
    | zero =>
      have := h.zero x (inn x hx).1 (inn x hx).2 (by omega)
      subst this
      exact Rch.refl _ _ _
    | succ k ih =>
      obtain ⟨u, hu, hd⟩ := h.down x (inn x hx).1 (inn x hx).2 (by omega)
      have hur := (hu.in hR).1
      have hul := h.opn u hur.1 hur.2 (by omega)
      exact (ih hul (by omega)).step hu hx
  · intro hr
    exact hr (fun z => 0 ≤ D z) (by rw [h.root]; exact Int.le_refl _) (fun u v hu ha hv => (h.near u v ha hu hv).1)
theorem Lev.whole {n : Int} {es : List (Int × Int)} {l : List Int} {D : Int → Int} (hR : RightG n es) (nd : l.Nodup) (inn : ∀ x ∈ l, 0 ≤ x ∧ x < n) (h0 : 0 < l.length) (h : Lev n es (fun x => x ∈ l) l[0] D) : (∀ x ∈ l, 0 ≤ D x) ↔ WholeL n es l :=
  ⟨fun ha => WholeL.of_head nd inn h0 (fun y hy => (h.rch hR inn hy).1 (ha y hy)), fun hw x hx => (h.rch hR inn hx).2 (hw.one l[0] (List.getElem_mem h0) x hx)⟩

theorem Lev.congr {n : Int} {es : List (Int × Int)} {O O' : Int → Prop} {b : Int} {D : Int → Int} (hR : RightG n es) (h : Lev n es O b D) (e : ∀ x, 0 ≤ x → x < n → (O x ↔ O' x)) : Lev n es O' b D :=
  ⟨h.root, fun x h0 h1 h2 => (e x h0 h1).1 (h.opn x h0 h1 h2), h.zero, h.down, fun u v ha h0 hO => by
    obtain ⟨_, hv, _⟩ := ha.in hR
    exact h.near u v ha h0 ((e v hv.1 hv.2).2 hO)⟩
/-- Each step goes to the least neighbour that is nearer by one. -/
structure Greedy (es : List (Int × Int)) (D : Int → Int) (a : Int) (L : List Int) : Prop where
  pos : 0 < L.length
  first : L[0] = a
  step : ∀ i (h : i + 1 < L.length), Adj es (L[i]'(by omega)) L[i + 1] ∧ D L[i + 1] = D a - i - 1 ∧ ∀ w, Adj es (L[i]'(by omega)) w → D w = D a - i - 1 → L[i + 1] ≤ w
theorem Greedy.put {es : List (Int × Int)} {D : Int → Int} {a : Int} {L : List Int} (h : Greedy es D a L) {i : Nat} (hl : L.length = i + 1) {u v : Int} (hu : L[i]? = some u) (ha : Adj es u v) (hD : D v = D a - i - 1) (hmin : ∀ w, Adj es u w → D w = D a - i - 1 → v ≤ w) : Greedy es D a (L ++ [v]) := by
  have hu' : L[i]'(by omega) = u := by rw [List.getElem?_eq_getElem (by omega)] at hu; exact Option.some.inj hu
  refine ⟨by simp, by rw [List.getElem_append_left h.pos]; exact h.first, fun j hj => ?_⟩
  simp at hj
  by_cases e : j + 1 < L.length
  · rw [List.getElem_append_left (by omega), List.getElem_append_left e]; exact h.step j e
  · obtain rfl : j = i := by omega
    rw [List.getElem_append_left (by omega), hu']
    have : (L ++ [v])[j + 1]'(by simp; omega) = v := by rw [List.getElem_append_right (by omega)]; simp [hl]
    rw [this]
    exact ⟨ha, hD, hmin⟩
/-- None is found. -/
theorem Lev.none {n : Int} {es : List (Int × Int)} {D : Int → Int} {a b : Int} {away : List Int} (hl : Lev n es (fun x => x ∉ away) b D) (h : D a < 0) : RouteIs n es a b away [] := by
  refine Or.inl ⟨rfl, fun p hp => ?_⟩
  obtain ⟨hp0, e1⟩ := head_at hp.first
  obtain ⟨_, e2⟩ := last_at hp.last
  have hback : ∀ j (hj : j < p.length), 0 ≤ D (p[p.length - 1 - j]'(by omega)) := fun j => by
    induction j with
    | zero => intro hj; simp only [Nat.sub_zero, e2, hl.root]; omega
    | succ j ih =>
      intro hj
      have h1 := ih (by omega)
      have hadj := hp.path.lk (p.length - 1 - (j + 1)) (by omega)
      simp only [show p.length - 1 - (j + 1) + 1 = p.length - 1 - j by omega] at hadj
      exact (hl.near _ _ hadj.symm h1 (hp.off _ (List.getElem_mem _))).1
  have := hback (p.length - 1) (by omega)
  simp only [show p.length - 1 - (p.length - 1) = 0 by omega, e1] at this
  omega
end Go.Proofs.Ytckcbaegehfkoaa
namespace Go.Proofs.Ytckcbaegehfkoaa
open Go.RowKit Go.Lib

theorem Row1.belowW {w w' : World} {g n : Nat} {c : Nat → Int} (h : Row1 w g n c) (hb : Below w.heap.size w w') : Row1 w' g n c := h.kept (KeptBut.of_whole (fun _ => False) hb) (fun e => e)
/-- The search in memory: what is found, in a row of its own, and how far off it lies. -/
structure Srch (w : World) (m : Nat) (es : List (Int × Int)) (O : Nat → Bool) (v FB B : Nat) (fv : Value) (F : List Int) (D : Nat → Int) (i : Nat) : Prop where
  own : w.ownsRow B 3 1 fv F.length (F.map (Value.int .i64))
  far : Row1 w FB m D
  bf : Bf m es (fun x => O x.toNat = true) v F (fun x => D x.toNat) i
  lt : FB < B
theorem Srch.len {w : World} {m : Nat} {es : List (Int × Int)} {O : Nat → Bool} {v FB B : Nat} {fv : Value} {F : List Int} {D : Nat → Int} {i : Nat} (h : Srch w m es O v FB B fv F D i) : F.length ≤ m := by
  have := len_le_subI (a := F) (b := (List.range m).map (fun j : Nat => (j : Int))) h.bf.nd (fun x hx => by
    have := (h.bf.inr x hx).1
    exact List.mem_map.2 ⟨x.toNat, by simp; omega, by omega⟩)
  simpa using this
theorem own_at {w : World} {B : Nat} {fv : Value} {F : List Int} (h : w.ownsRow B 3 1 fv F.length (F.map (Value.int .i64))) {j : Nat} (hj : j < F.length) : ∃ g cap, fv = .slice (some ⟨g, 0, none⟩) F.length cap ∧ B ≤ g ∧ w.cell? ⟨g, j, none⟩ = some (.int .i64 F[j]) := by
  rcases h.2 with ⟨_, h0⟩ | ⟨g, cap, cur, hv, hg, hgb, _⟩
  · simp at h0; rw [h0] at hj; simp at hj
  · refine ⟨g, cap, hv, hg, ?_⟩
    have := h.cells (g := g) (by rw [hv]; rfl) j (.int .i64 F[j]) (by rw [List.getElem?_map, List.getElem?_eq_getElem hj]; rfl)
    rw [add_at, Nat.zero_add] at this
    exact this
theorem Srch.at {w : World} {m : Nat} {es : List (Int × Int)} {O : Nat → Bool} {v FB B : Nat} {fv : Value} {F : List Int} {D : Nat → Int} {i : Nat} (h : Srch w m es O v FB B fv F D i) {j : Nat} (hj : j < F.length) : ∃ g cap, fv = .slice (some ⟨g, 0, none⟩) F.length cap ∧ B ≤ g ∧ w.cell? ⟨g, j, none⟩ = some (.int .i64 F[j]) := by
  rcases h.own.2 with ⟨_, h0⟩ | ⟨g, cap, cur, hv, hg, hgb, _⟩
  · simp at h0; rw [h0] at hj; simp at hj
  · refine ⟨g, cap, hv, hg, ?_⟩
    have := h.own.cells (g := g) (by rw [hv]; rfl) j (.int .i64 F[j]) (by rw [List.getElem?_map, List.getElem?_eq_getElem hj]; rfl)
    rw [add_at, Nat.zero_add] at this
    exact this
/-- One more is found: its distance is set, then it goes behind the others. -/
theorem Srch.put {w : World} {m : Nat} {es : List (Int × Int)} {O : Nat → Bool} {v FB B : Nat} {fv : Value} {F : List Int} {D : Nat → Int} {i : Nat} (h : Srch w m es O v FB B fv F D i) (hi : i < F.length) {u y : Nat} (hu : F[i] = (u : Int)) (ha : Adj es u y) (hy : y < m) (hO : O y = true) (hn : D y = -1) {w4 : World} {o : Obj} {fv' : Value}
    (hown : w4.ownsRow B 3 1 fv' (F.length + 1) (F.map (Value.int .i64) ++ [.int .i64 (y : Int)])) (hg : ((w.setCell ⟨FB, y, none⟩ (.int .i64 (D u + 1))).alloc o).grownBy w4 fv.ownBlock) : Srch w4 m es O v FB B fv' (F ++ [(y : Int)]) (fun j => if j = y then D u + 1 else D j) i := by
  have hnm : (y : Int) ∉ F := by
    rcases h.bf.mem (y : Int) (by omega) (by omega) with e | e
    · have := e.2; simp at this; omega
    · exact e.1
  refine ⟨by simpa using hown, ?_, ?_, h.lt⟩
  · have h1 := (h.far.put (i := y) hy (D u + 1)).alloc o
    refine h1.kept (KeptBut.of_grown hg) (fun e => ?_)
    have := h.own.lt FB e.symm
    have := h.lt
    omega
  · have := h.bf.put hi (v := (y : Int)) (by rw [hu]; exact ha) (by omega) (by simpa using hO) hnm
    have e : (fun x : Int => if x = (y : Int) then D F[i].toNat + 1 else D x.toNat) = fun x : Int => if x = (y : Int) then D u + 1 else D x.toNat := by rw [hu]; rfl
    rw [e] at this
    exact this.congr (fun x h0 _ => by
      show (if x = (y : Int) then D u + 1 else D x.toNat) = (if x.toNat = y then D u + 1 else D x.toNat)
      by_cases e : x = (y : Int)
      · subst e; simp
      · rw [if_neg e, if_neg (by omega)])
theorem Srch.mono {w w' : World} {m : Nat} {es : List (Int × Int)} {O : Nat → Bool} {v FB B : Nat} {fv : Value} {F : List Int} {D : Nat → Int} {i i' : Nat} (h : Srch w m es O v FB B fv F D i) (hb : Below w.heap.size w w') (hbf : Bf m es (fun x => O x.toNat = true) v F (fun x => D x.toNat) i') : Srch w' m es O v FB B fv F D i' :=
  ⟨own_below h.own hb, h.far.belowW hb, hbf, h.lt⟩

end Go.Proofs.Ytckcbaegehfkoaa
namespace Go.Proofs.Ytckcbaegehfkoaa
open Go.RowKit Go.Lib

def esS : List (Int × Int) := [(0, 1), (0, 3), (1, 2), (2, 3)]
/-- What lies in memory while the small case goes on. -/
structure ShW (w W : World) (B : Nat) (a1 a2 : Option Addr) : Prop where
  gc : GC W (B + 1) 4 (some ⟨B, 0, none⟩) 4 4 esS
  r1 : IAt W a1 [0, 3, 2]
  r2 : IAt W a2 [0, 2, 1, 3]
  bel : Below B w W
  le : B ≤ W.heap.size
theorem ShW.on {w W X : World} {B : Nat} {a1 a2 : Option Addr} (h : ShW w W B a1 a2) (hb : Below W.heap.size W X) : ShW w X B a1 a2 := ⟨h.gc.on hb, h.r1.below hb, h.r2.below hb, h.bel.trans (hb.mono h.le), Nat.le_trans h.le hb.size⟩
theorem below_one (W : World) (o : Obj) : Below W.heap.size W (W.alloc o) := (Below.refl _ _).alloc (Nat.le_refl _) o

end Go.Proofs.Ytckcbaegehfkoaa
namespace Go.Proofs.Ytckcbaegehfkoaa
open Go.RowKit Go.Lib Go.Shelf

/-- How many tops a subdivision has; between which of them its paths lead. -/
def topN (k : Int) : Nat := if k = 1 then 4 else if k = 2 then 2 else 0
def prL (k : Int) : List (Int × Int) := if k = 1 then [(0, 1), (0, 2), (0, 3), (1, 2), (1, 3), (2, 3)] else if k = 2 then [(0, 1), (0, 1), (0, 1)] else []
theorem eat_newT (w : World) (es : List (Int × Int)) (cs : Array Value) (T : TypeId) (hcs : cs = (cellsE es).toArray) : EAt (w.alloc (.cells cs T)) (some ⟨w.heap.size, 0, none⟩) es :=
  eat_of_cells (by simp) (fun j u hu => by rw [cell_of_heap (heap_alloc_new w _), hcs, Nat.zero_add]; simpa using hu)

set_option maxHeartbeats 2000000 in
set_option maxRecDepth 100000 in
theorem tpat_any (k : Int) (w : World) :
    Calls Try.prog 35 #[.int .i64 k] w fun e w' => ∃ a c, e = .returned (.tuple #[.int .i64 (topN k : Nat), .slice a (prL k).length c]) ∧ EAt w' a (prL k) ∧ Below w.heap.size w w' := by
  by_cases h1 : k = 1
  · subst h1
    have HE := hid (eat_newT w (prL 1) #[.int .i64 0, .int .i64 1, .int .i64 0, .int .i64 2, .int .i64 0, .int .i64 3, .int .i64 1, .int .i64 2, .int .i64 1, .int .i64 3, .int .i64 2, .int .i64 3] 66 rfl)
    have HB := hid (below_one w (.cells #[.int .i64 0, .int .i64 1, .int .i64 0, .int .i64 2, .int .i64 0, .int .i64 3, .int .i64 1, .int .i64 2, .int .i64 1, .int .i64 3, .int .i64 2, .int .i64 3] 66))
    go_enter Try.func35, Try.ntmps35
    go_wp2
    go_ret2
    exact ⟨some ⟨w.heap.size, 0, none⟩, 6, rfl, HE.out, HB.out⟩
  · have b1 : (k == 1) = false := by simp [h1]
    by_cases h2 : k = 2
    · subst h2
      have HE := hid (eat_newT w (prL 2) #[.int .i64 0, .int .i64 1, .int .i64 0, .int .i64 1, .int .i64 0, .int .i64 1] 66 rfl)
      have HB := hid (below_one w (.cells #[.int .i64 0, .int .i64 1, .int .i64 0, .int .i64 1, .int .i64 0, .int .i64 1] 66))
      go_enter Try.func35, Try.ntmps35
      go_wp2
      go_ret2
      exact ⟨some ⟨w.heap.size, 0, none⟩, 3, rfl, HE.out, HB.out⟩
    · have b2 : (k == 2) = false := by simp [h2]
      have e1 : topN k = 0 := by unfold topN; rw [if_neg h1, if_neg h2]
      have e2 : prL k = [] := by unfold prL; rw [if_neg h1, if_neg h2]
      rw [e1, e2]
      go_enter Try.func35, Try.ntmps35
      go_wp2
      go_ret2
      exact ⟨none, 0, rfl, eat_nil _ _, Below.refl _ _⟩

set_option maxHeartbeats 1000000 in
theorem short_any (a : Option Addr) (n c bx : Nat) (least : Int) (w : World) (hb : w.cell? ⟨bx, 0, none⟩ = some (.int .i64 least)) :
    Calls Try.prog 74 #[.slice a n c, .pointer (some ⟨bx, 0, none⟩)] w fun e w' => e = .returned (.bool (decide ((n : Int) < least))) ∧ w' = w := by
  go_enter Try.func74, Try.ntmps74
  go_wp2
  go_ret
  exact ⟨rfl, rfl⟩
theorem anyShort (least : Int) (bx : Nat) (a : Option Addr) (cap : Nat) (LL : List (List Int)) (r : Bool) (w : World) (hN : LL.length ≤ 1000000) (hL : LLAt w a LL) (hb : w.cell? ⟨bx, 0, none⟩ = some (.int .i64 least)) (hr : r = true ↔ ∀ L ∈ LL, least ≤ L.length) :
    Calls Try.prog 73 #[.slice a LL.length cap, .func (.func 74) #[] #[.pointer (some ⟨bx, 0, none⟩)]] w fun e w' => e = .returned (.bool (!r)) ∧ ∃ q, w' = w.drewN q := by
  by_cases h0 : LL.length = 0
  · have e : LL = [] := List.length_eq_zero_iff.1 h0
    subst e
    have h := AnyE.slices_ContainsFunc_empty Try.containsRows a cap (.func (.func 74) #[] #[.pointer (some ⟨bx, 0, none⟩)]) w
    change Calls Try.prog 73 _ _ _ at h
    have e : r = true := hr.2 (fun _ h => by simp at h)
    subst e
    refine Calls.mono h ?_
    rintro e w' ⟨rfl, rfl⟩
    exact ⟨rfl, 0, rfl⟩
  obtain ⟨g, off, rfl, hg, hc⟩ := hL (by omega)
  have hbl := block_lt_of_cell hb
  obtain ⟨F, hF⟩ : ∃ F : Nat → Option Addr × Nat, ∀ k (hk : k < LL.length), w.cell? ⟨g, off + k, none⟩ = some (.slice (F k).1 LL[k].length (F k).2) :=
    ⟨fun k => if h : k < LL.length then ((hc k h).choose, (hc k h).choose_spec.choose) else (none, 0), fun k hk => by
      simp only [dif_pos hk]
      exact (hc k hk).choose_spec.choose_spec.1⟩
  have eg : ∀ args w, (callFunc 74 args).run Try.prog w = .ok (.enter 74 args) w := enters_of Try.func74 (by kernel_rfl) rfl
  have hp : PredAt Try.prog 74 #[.pointer (some ⟨bx, 0, none⟩)] (fun x : Option Addr × Nat × Nat => Value.slice x.1 x.2.1 x.2.2) (fun x => decide ((x.2.1 : Int) < least)) w := fun W x hW => by
    refine (short_any x.1 x.2.1 x.2.2 bx least W ((hW.cell (p := ⟨bx, 0, none⟩) hbl).trans hb)).mono ?_
    rintro e w' ⟨rfl, rfl⟩
    exact ⟨rfl, 0, rfl⟩
  have h := AnyE.slices_ContainsFunc Try.containsRows (fun x : Option Addr × Nat × Nat => Value.slice x.1 x.2.1 x.2.2) (fun x => decide ((x.2.1 : Int) < least)) 74 #[.pointer (some ⟨bx, 0, none⟩)] eg g off LL.length cap ((List.range LL.length).map (fun k => ((F k).1, (LL[k]?.getD []).length, (F k).2))) w hp (by simp) (by omega) (fun j hj => by
    have hj' : j < LL.length := by simpa using hj
    rw [hF j hj', getElem!_pos _ j hj]
    simp [hj'])
  change Calls Try.prog 73 _ _ _ at h
  have e : (((List.range LL.length).map (fun k => ((F k).1, (LL[k]?.getD []).length, (F k).2))).take LL.length).any (fun x => decide ((x.2.1 : Int) < least)) = !r := by
    rw [List.take_of_length_le (by simp)]
    cases r with
    | true =>
      have h1 := hr.1 rfl
      simp only [Bool.not_true, List.any_eq_false, List.mem_map, List.mem_range]
      rintro x ⟨k, hk, rfl⟩
      have := h1 LL[k] (List.getElem_mem hk)
      simp [hk]; omega
    | false =>
      simp only [Bool.not_false, List.any_eq_true, List.mem_map, List.mem_range]
      have h1 : ¬ ∀ L ∈ LL, least ≤ L.length := fun k => by have := hr.2 k; cases this
      obtain ⟨L, hm, hlt⟩ : ∃ L, L ∈ LL ∧ ¬ least ≤ L.length := Classical.byContradiction fun k => h1 (fun L hL => Classical.byContradiction fun k2 => k ⟨L, hL, k2⟩)
      obtain ⟨k, hk, rfl⟩ := List.getElem_of_mem hm
      exact ⟨_, ⟨k, hk, rfl⟩, by simp [hk]; omega⟩
  rw [e] at h
  exact h
set_option maxHeartbeats 1000000 in
theorem allHave_any (least : Int) (a : Option Addr) (cap : Nat) (LL : List (List Int)) (r : Bool) (w : World) (hN : LL.length ≤ 1000000) (hL : LLAt w a LL) (hr : r = true ↔ ∀ L ∈ LL, least ≤ L.length) :
    Calls Try.prog 37 #[.int .i64 least, .slice a LL.length cap] w fun e w' => e = .returned (.bool r) ∧ Below w.heap.size w w' := by
  obtain ⟨V, hV⟩ := ex_eq (w.alloc (.cells #[.int .i64 least] 3))
  have hb : Below w.heap.size w V := by rw [hV]; exact below_one _ _
  have o := heap_alloc_new w (.cells #[.int .i64 least] 3)
  rw [← hV] at o
  have C := hid (anyShort least w.heap.size a cap LL r V hN (hL.below hb) (cell_of_heap o 0) hr)
  have HB := hid hb
  have HV := hid hV
  obtain ⟨N, hNe⟩ := ex_eq LL.length
  rw [← hNe] at C ⊢
  have x0 := cell_of_heap o 0
  clear hN hL hr hb hV o hNe
  go_enter Try.func37, Try.ntmps37
  go_upto_region 1 with fail
  rw [← HV.out]
  go_wp2_with fail
  refine C.out.mono ?_
  rintro e w1 ⟨rfl, q, rfl⟩
  have HF := hid (below_drewN HB.out q)
  clear C
  go_wp2
  go_ret
  exact ⟨by simp, HF.out⟩
end Go.Proofs.Ytckcbaegehfkoaa
