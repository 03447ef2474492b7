/-
  Paths: put together, cut off, turned round; components; what follows of routes. No program is named here.
  What follows of a route: its vertices' ways on are routes, it has no short cuts, turned round it is as long. No program is named here.
  The least of the shortest ways, longer and longer ones (the document's Route): pure.
-/
import Derived.Test.YtccbheijfnodjaaB12
import Derived.Test.YtccbheijfnodjaaB07
namespace Go.Proofs.Ytccbheijfnodjaa

theorem Links.take {es : List (Int × Int)} {p : List Int} (h : Links es p) (k : Nat) : Links es (p.take k) := fun i hi => by
  rw [List.length_take] at hi
  rw [List.getElem_take, List.getElem_take]
  exact h i (by omega)
theorem Links.drop {es : List (Int × Int)} {p : List Int} (h : Links es p) (k : Nat) : Links es (p.drop k) := fun i hi => by
  rw [List.length_drop] at hi
  rw [List.getElem_drop, List.getElem_drop]
  exact h (k + i) (by omega)
theorem Links.append {es : List (Int × Int)} {p q : List Int} (h : Links es p) (k : Links es q) (hj : ∀ (h1 : 0 < p.length) (h2 : 0 < q.length), Adj es (p[p.length - 1]'(by omega)) q[0]) : Links es (p ++ q) := fun i hi => by
  rw [List.length_append] at hi
  by_cases h1 : i + 1 < p.length
  · rw [List.getElem_append_left (by omega), List.getElem_append_left h1]
    exact h i h1
  · by_cases h2 : i < p.length
    · rw [List.getElem_append_left h2, List.getElem_append_right (by omega)]
      have := hj (by omega) (by omega)
      obtain rfl : i = p.length - 1 := by omega
      simp only [show p.length - 1 + 1 - p.length = 0 by omega]
      exact this
    · rw [List.getElem_append_right (by omega), List.getElem_append_right (by omega)]
      have := k (i - p.length) (by omega)
      simp only [show i + 1 - p.length = i - p.length + 1 by omega]
      exact this
theorem Links.reverse {es : List (Int × Int)} {p : List Int} (h : Links es p) : Links es p.reverse := fun i hi => by
  rw [List.length_reverse] at hi
  rw [List.getElem_reverse, List.getElem_reverse]
  have := h (p.length - 1 - (i + 1)) (by omega)
  simp only [show p.length - 1 - (i + 1) + 1 = p.length - 1 - i by omega] at this
  exact this.symm
theorem PathL.take {n : Int} {es : List (Int × Int)} {p : List Int} (h : PathL n es p) {k : Nat} (hk : 0 < k) : PathL n es (p.take k) :=
  ⟨fun e => by have h1 : (p.take k).length = 0 := by { rw [e]; rfl }; rw [List.length_take] at h1; have := h.pos; omega, List.Sublist.nodup (List.take_sublist _ _) h.nd, fun x hx => h.inn x (List.mem_of_mem_take hx), h.lk.take k⟩
theorem PathL.drop {n : Int} {es : List (Int × Int)} {p : List Int} (h : PathL n es p) {k : Nat} (hk : k < p.length) : PathL n es (p.drop k) :=
  ⟨fun e => by have := congrArg List.length e; rw [List.length_drop] at this; simp at this; omega, List.Sublist.nodup (List.drop_sublist _ _) h.nd, fun x hx => h.inn x (List.mem_of_mem_drop hx), h.lk.drop k⟩
theorem PathL.reverse {n : Int} {es : List (Int × Int)} {p : List Int} (h : PathL n es p) : PathL n es p.reverse :=
  ⟨fun e => h.ne (List.reverse_eq_nil_iff.1 e), List.pairwise_reverse.2 (List.Pairwise.imp (fun h => Ne.symm h) h.nd), fun x hx => h.inn x (List.mem_reverse.1 hx), h.lk.reverse⟩
theorem head_at {p : List Int} {x : Int} (h : p.head? = some x) : ∃ h0 : 0 < p.length, p[0] = x := by
  cases p with
  | nil => simp at h
  | cons y l => simp at h; exact ⟨by simp, h⟩
theorem last_at {p : List Int} {x : Int} (h : p.getLast? = some x) : ∃ h0 : 0 < p.length, p[p.length - 1] = x := by
  cases hp : p with
  | nil => rw [hp] at h; simp at h
  | cons y l =>
    rw [List.getLast?_eq_getElem?] at h
    have h0 : 0 < p.length := by rw [hp]; simp
    rw [List.getElem?_eq_getElem (by omega)] at h
    cases h
    subst hp
    exact ⟨h0, rfl⟩
theorem at_head {p : List Int} (h0 : 0 < p.length) : p.head? = some p[0] := by
  cases p with
  | nil => simp at h0
  | cons y l => rfl
theorem at_last {p : List Int} (h0 : 0 < p.length) : p.getLast? = some (p[p.length - 1]'(by omega)) := by
  rw [List.getLast?_eq_getElem?, List.getElem?_eq_getElem (by omega)]
/-- A path from x to y, by vertices with Q alone. -/
def Pth (n : Int) (es : List (Int × Int)) (Q : Int → Prop) (x y : Int) : Prop := ∃ p, PathL n es p ∧ p.head? = some x ∧ p.getLast? = some y ∧ ∀ z ∈ p, Q z
theorem pth_self {n : Int} {es : List (Int × Int)} {Q : Int → Prop} {x : Int} (h : 0 ≤ x ∧ x < n) (hQ : Q x) : Pth n es Q x x :=
  ⟨[x], ⟨by simp, by simp, fun z hz => by simp at hz; subst hz; exact h, fun i hi => absurd hi (by simp)⟩, rfl, rfl, fun z hz => by simp at hz; subst hz; exact hQ⟩
theorem Pth.step {n : Int} {es : List (Int × Int)} {Q : Int → Prop} {x u v : Int} (hR : RightG n es) (h : Pth n es Q x u) (ha : Adj es u v) (hQ : Q v) : Pth n es Q x v := by
  obtain ⟨p, hp, h1, h2, h3⟩ := h
  obtain ⟨_, hv, _⟩ := ha.in hR
  by_cases hm : v ∈ p
  · obtain ⟨i, hi, rfl⟩ := List.getElem_of_mem hm
    refine ⟨p.take (i + 1), hp.take (by omega), ?_, ?_, fun z hz => h3 z (List.mem_of_mem_take hz)⟩
    · rw [List.head?_take, if_neg (by omega)]; exact h1
    · have hl : (p.take (i + 1)).length = i + 1 := by rw [List.length_take]; omega
      rw [at_last (by omega)]
      simp [hl]
  · obtain ⟨h0, hl⟩ := last_at h2
    refine ⟨p ++ [v], ⟨by simp, List.nodup_append.2 ⟨hp.nd, by simp, fun a ha' b hb => by simp at hb; subst hb; exact fun e => hm (e ▸ ha')⟩, fun z hz => ?_, hp.lk.append (fun i hi => absurd hi (by simp)) (fun _ _ => ?_)⟩, ?_, by simp, fun z hz => ?_⟩
    · rcases List.mem_append.1 hz with hz | hz
      · exact hp.inn z hz
      · simp at hz; subst hz; exact hv
    · rw [hl]; exact ha
    · rw [List.head?_append, h1]; rfl
    · rcases List.mem_append.1 hz with hz | hz
      · exact h3 z hz
      · simp at hz; subst hz; exact hQ
theorem adj_same {n : Nat} {es : List (Int × Int)} {f : Nat → Nat} (hR : RightG n es) (hT : Tells n f (prsN es)) {x y : Int} (h : Adj es x y) : f x.toNat = f y.toNat := by
  have hin := h.in hR
  obtain ⟨a, rfl⟩ : ∃ a : Nat, x = a := ⟨x.toNat, by omega⟩
  obtain ⟨b, rfl⟩ : ∃ b : Nat, y = b := ⟨y.toNat, by omega⟩
  rw [Int.toNat_natCast, Int.toNat_natCast]
  refine (hT a b (by omega) (by omega)).2 ?_
  rcases h with h | h
  · exact Cl.of (e := (a, b)) ((mem_prsN hR).2 h)
  · exact (Cl.of (e := (b, a)) ((mem_prsN hR).2 h)).symm
theorem path_same {n : Nat} {es : List (Int × Int)} {f : Nat → Nat} (hR : RightG n es) (hT : Tells n f (prsN es)) {p : List Int} (hp : Links es p) : ∀ i (h : i < p.length), f (p[i]).toNat = f (p[0]'(by omega)).toNat
  | 0, _ => rfl
  | i + 1, h => (adj_same hR hT (hp i h)).symm.trans (path_same hR hT hp i (by omega))
/-- Of one class just if there is a path. -/
theorem pth_cl {n : Nat} {es : List (Int × Int)} {f : Nat → Nat} (hR : RightG n es) (hT : Tells n f (prsN es)) {a b : Nat} (ha : a < n) (hb : b < n) : f a = f b ↔ Pth n es (fun _ => True) a b := by
  constructor
  · intro e
    have hc := (hT a b ha hb).1 e
    have := hc (fun x y => ∀ s, Pth n es (fun _ => True) s (x : Int) ↔ Pth n es (fun _ => True) s (y : Int)) (fun _ _ => Iff.rfl) (fun _ _ h s => (h s).symm) (fun _ _ _ h k s => (h s).trans (k s)) (fun e he s => by
      have he' := (mem_prsN (a := e.1) (b := e.2) hR).1 he
      exact ⟨fun h => h.step hR (Or.inl he') trivial, fun h => h.step hR (Or.inr he') trivial⟩)
    exact (this a).1 (pth_self (by omega) trivial)
  · rintro ⟨p, hp, h1, h2, _⟩
    obtain ⟨h0, e1⟩ := head_at h1
    obtain ⟨_, e2⟩ := last_at h2
    have := path_same hR hT hp.lk (p.length - 1) (by omega)
    rw [e1, e2] at this
    simpa using this.symm
theorem rch_path {es : List (Int × Int)} {l p : List Int} (hp : Links es p) (hl : ∀ z ∈ p, z ∈ l) : ∀ i (h : i < p.length), Rch es l (p[0]'(by omega)) p[i]
  | 0, _ => Rch.refl _ _ _
  | i + 1, h => (rch_path hp hl i (by omega)).step (hp i h) (hl _ (List.getElem_mem h))
/-- A component is whole. -/
theorem class_whole {n : Nat} {es : List (Int × Int)} {f : Nat → Nat} (hR : RightG n es) (hP : Pt n f) (hT : Tells n f (prsN es)) {r : Nat} (hr : r ∈ repsF n f) : WholeL n es (classF n f r) := by
  obtain ⟨rest, hh⟩ := class_head hP hr
  refine ⟨by rw [hh]; simp, class_nodup n f r, fun x hx => ?_, fun x hx y hy => ?_⟩
  · obtain ⟨k, rfl, hk, _⟩ := mem_class.1 hx
    omega
  · obtain ⟨a, rfl, ha, hfa⟩ := mem_class.1 hx
    obtain ⟨b, rfl, hb, hfb⟩ := mem_class.1 hy
    obtain ⟨p, hp, h1, h2, _⟩ := (pth_cl hR hT ha hb).1 (hfa.trans hfb.symm)
    obtain ⟨h0, e1⟩ := head_at h1
    obtain ⟨_, e2⟩ := last_at h2
    have hin : ∀ z ∈ p, z ∈ classF n f r := fun z hz => by
      obtain ⟨i, hi, rfl⟩ := List.getElem_of_mem hz
      have hs := path_same hR hT hp.lk i hi
      have hr' := hp.inn _ (List.getElem_mem hi)
      rw [e1, Int.toNat_natCast, hfa] at hs
      exact mem_class.2 ⟨(p[i]).toNat, by omega, by omega, hs⟩
    have := rch_path hp.lk hin (p.length - 1) (by omega)
    rw [e1, e2] at this
    exact this
/-- Away from what is no vertex, there is a route just if both are of one component; it has one vertex just if they are the same, two just if they are neighbours. -/
theorem route_meets {n : Nat} {es : List (Int × Int)} {f : Nat → Nat} {away L : List Int} {a b : Nat} (hR : RightG n es) (hT : Tells n f (prsN es)) (ha : a < n) (hb : b < n) (hw : ∀ z : Int, 0 ≤ z → z < n → z ∉ away) (h : RouteIs n es a b away L) :
    (0 < L.length ↔ f a = f b) ∧ (L.length = 2 ↔ Adj es a b) ∧ (L.length = 1 ↔ a = b) := by
  have hway : ∀ p, PathL n es p → p.head? = some (a : Int) → p.getLast? = some (b : Int) → Way n es a b away p := fun p hp h1 h2 => ⟨hp, h1, h2, fun z hz => hw z (hp.inn z hz).1 (hp.inn z hz).2⟩
  have hle : ∀ p, PathL n es p → p.head? = some (a : Int) → p.getLast? = some (b : Int) → 0 < L.length ∧ L.length ≤ p.length := fun p hp h1 h2 => by
    rcases h with ⟨_, h⟩ | ⟨h, h3⟩
    · exact absurd (hway p hp h1 h2) (h p)
    · refine ⟨h.path.pos, ?_⟩
      rcases h3 p (hway p hp h1 h2) with e | e
      · omega
      · omega
  have hL : 0 < L.length → Way n es a b away L := fun h0 => by
    rcases h with ⟨rfl, _⟩ | ⟨h, _⟩
    · simp at h0
    · exact h
  have h1iff : L.length = 1 ↔ a = b := by
    constructor
    · intro e
      have hW := hL (by omega)
      obtain ⟨h0, e1⟩ := head_at hW.first
      obtain ⟨_, e2⟩ := last_at hW.last
      simp only [e, Nat.sub_self] at e2
      omega
    · rintro rfl
      have := hle [(a : Int)] ⟨by simp, by simp, fun z hz => by simp at hz; subst hz; omega, fun i hi => absurd hi (by simp)⟩ rfl rfl
      simp at this
      omega
  refine ⟨⟨fun h0 => ?_, fun e => ?_⟩, ⟨fun e => ?_, fun e => ?_⟩, h1iff⟩
  · have hW := hL h0
    exact (pth_cl hR hT ha hb).2 ⟨L, hW.path, hW.first, hW.last, fun _ _ => trivial⟩
  · obtain ⟨p, hp, h1, h2, _⟩ := (pth_cl hR hT ha hb).1 e
    exact (hle p hp h1 h2).1
  · have hW := hL (by omega)
    obtain ⟨h0, e1⟩ := head_at hW.first
    obtain ⟨_, e2⟩ := last_at hW.last
    have := hW.path.lk 0 (by omega)
    have e3 : L[0 + 1]'(by omega) = (b : Int) := by
      rw [← e2]
      congr 1
      omega
    rw [e1, e3] at this
    exact this
  · have hne := (e.in hR).2.2
    have := hle [(a : Int), (b : Int)] ⟨by simp, by simp; omega, fun z hz => by simp at hz; rcases hz with rfl | rfl <;> omega, fun i hi => by
      obtain rfl : i = 0 := by simp at hi; omega
      exact e⟩ rfl rfl
    simp at this
    have h3 : L.length ≠ 1 := fun e => by have := h1iff.1 e; omega
    omega
end Go.Proofs.Ytccbheijfnodjaa
namespace Go.Proofs.Ytccbheijfnodjaa

/-- From a to each vertex of a row whose members follow each other there is a way that is no longer. -/
theorem walk_way {n : Int} {es : List (Int × Int)} {a : Int} {away r : List Int} (hR : RightG n es) (h0 : 0 < r.length) (ha : r[0] = a) (hl : Links es r) (hin : ∀ z ∈ r, (0 ≤ z ∧ z < n) ∧ z ∉ away) :
    ∀ k (hk : k < r.length), ∃ p, Way n es a r[k] away p ∧ p.length ≤ k + 1
  | 0, _ => by
    obtain ⟨h1, h2⟩ := hin r[0] (List.getElem_mem h0)
    refine ⟨[r[0]], ⟨⟨by simp, by simp, fun z hz => by simp at hz; subst hz; exact h1, fun i hi => absurd hi (by simp)⟩, by rw [ha]; rfl, rfl, fun z hz => by simp at hz; subst hz; exact h2⟩, by simp⟩
  | k + 1, hk => by
    obtain ⟨p, hp, hlen⟩ := walk_way hR h0 ha hl hin k (by omega)
    have hadj := hl k hk
    obtain ⟨h1, h2⟩ := hin r[k + 1] (List.getElem_mem hk)
    generalize r[k + 1] = v at *
    by_cases hm : v ∈ p
    · obtain ⟨i, hi, rfl⟩ := List.getElem_of_mem hm
      have hl2 : (p.take (i + 1)).length = i + 1 := by rw [List.length_take]; omega
      refine ⟨p.take (i + 1), ⟨hp.path.take (by omega), ?_, ?_, fun z hz => hp.off z (List.mem_of_mem_take hz)⟩, ?_⟩
      · rw [List.head?_take, if_neg (by omega)]; exact hp.first
      · rw [at_last (by omega)]; simp [hl2]
      · omega
    · obtain ⟨h0', hlast⟩ := last_at hp.last
      refine ⟨p ++ [v], ⟨⟨by simp, List.nodup_append.2 ⟨hp.path.nd, by simp, fun x hx y hy => by simp at hy; subst hy; exact fun e => hm (e ▸ hx)⟩, fun z hz => ?_, hp.path.lk.append (fun i hi => absurd hi (by simp)) (fun _ _ => by rw [hlast]; exact hadj)⟩, by rw [List.head?_append, hp.first]; rfl, by simp, fun z hz => ?_⟩, by simp; omega⟩
      · rcases List.mem_append.1 hz with hz | hz
        · exact hp.path.inn z hz
        · simp at hz; subst hz; exact h1
      · rcases List.mem_append.1 hz with hz | hz
        · exact hp.off z hz
        · simp at hz; subst hz; exact h2
/-- No such row from a to b is shorter than a route. -/
theorem route_short {n : Int} {es : List (Int × Int)} {a b : Int} {away L r : List Int} (hR : RightG n es) (h : RouteIs n es a b away L) (h0 : 0 < r.length) (ha : r[0] = a) (hb : r[r.length - 1] = b) (hl : Links es r) (hin : ∀ z ∈ r, (0 ≤ z ∧ z < n) ∧ z ∉ away) : 0 < L.length ∧ L.length ≤ r.length := by
  obtain ⟨p, hp, hlen⟩ := walk_way hR h0 ha hl hin (r.length - 1) (by omega)
  rw [hb] at hp
  rcases h with ⟨_, h⟩ | ⟨h, h2⟩
  · exact absurd hp (h p)
  · refine ⟨h.path.pos, ?_⟩
    rcases h2 p hp with e | e <;> omega
theorem Way.in {n : Int} {es : List (Int × Int)} {a b : Int} {away p : List Int} (h : Way n es a b away p) : ∀ z ∈ p, (0 ≤ z ∧ z < n) ∧ z ∉ away := fun z hz => ⟨h.path.inn z hz, h.off z hz⟩
theorem Way.reverse {n : Int} {es : List (Int × Int)} {a b : Int} {away p : List Int} (h : Way n es a b away p) : Way n es b a away p.reverse :=
  ⟨h.path.reverse, by rw [List.head?_reverse]; exact h.last, by rw [List.getLast?_reverse]; exact h.first, fun z hz => h.off z (List.mem_reverse.1 hz)⟩
/-- Turned round it is as long. -/
theorem route_back {n : Int} {es : List (Int × Int)} {a b : Int} {away L M : List Int} (h : RouteIs n es a b away L) (k : RouteIs n es b a away M) : L.length = M.length := by
  rcases h with ⟨rfl, h⟩ | ⟨h, h2⟩
  · rcases k with ⟨rfl, _⟩ | ⟨k, _⟩
    · rfl
    · exact absurd k.reverse (h _)
  · rcases k with ⟨rfl, k⟩ | ⟨k, k2⟩
    · exact absurd h.reverse (k _)
    · have h3 := h2 _ k.reverse
      have k3 := k2 _ h.reverse
      rw [List.length_reverse] at h3 k3
      omega
theorem lexL_pre : ∀ (p a b : List Int), lexL (p ++ a) (p ++ b) = lexL a b
  | [], _, _ => rfl
  | x :: p, a, b => by simp [lexL, lexL_pre p a b]
theorem RouteIs.way {n : Int} {es : List (Int × Int)} {a b : Int} {away L : List Int} (h : RouteIs n es a b away L) (h0 : 0 < L.length) : Way n es a b away L := by
  rcases h with ⟨rfl, _⟩ | ⟨h, _⟩
  · simp at h0
  · exact h
/-- There are no short cuts. -/
theorem route_chord {n : Int} {es : List (Int × Int)} {a b : Int} {away L : List Int} (hR : RightG n es) (h : RouteIs n es a b away L) {i k : Nat} (hik : i + 2 ≤ k) (hk : k < L.length) : ¬ Adj es (L[i]'(by omega)) L[k] := fun hadj => by
  have hW := h.way (by omega)
  obtain ⟨h0, e1⟩ := head_at hW.first
  obtain ⟨_, e2⟩ := last_at hW.last
  have hlt : (L.take (i + 1)).length = i + 1 := by rw [List.length_take]; omega
  have hld : (L.drop k).length = L.length - k := List.length_drop
  have hlen : (L.take (i + 1) ++ L.drop k).length = i + 1 + (L.length - k) := by rw [List.length_append, hlt, hld]
  have hs := route_short (r := L.take (i + 1) ++ L.drop k) hR h (by omega) (by rw [List.getElem_append_left (by omega), List.getElem_take]; exact e1) (by
      rw [List.getElem_append_right (by omega), List.getElem_drop, ← e2]
      congr 1
      omega) ((hW.path.lk.take _).append (hW.path.lk.drop _) (fun h1 h2 => by
      simp only [hlt, List.getElem_take, List.getElem_drop, Nat.add_sub_cancel, Nat.add_zero]
      exact hadj)) (fun z hz => by
      rcases List.mem_append.1 hz with hz | hz
      · exact hW.in z (List.mem_of_mem_take hz)
      · exact hW.in z (List.mem_of_mem_drop hz))
  omega
/-- Each vertex's way on is a route. -/
theorem route_on {n : Int} {es : List (Int × Int)} {a b : Int} {away L : List Int} (hR : RightG n es) (h : RouteIs n es a b away L) {i : Nat} (hi : i < L.length) : RouteIs n es L[i] b away (L.drop i) := by
  have hW := h.way (by omega)
  obtain ⟨h0, e1⟩ := head_at hW.first
  obtain ⟨_, e2⟩ := last_at hW.last
  have hld : (L.drop i).length = L.length - i := List.length_drop
  refine Or.inr ⟨⟨hW.path.drop hi, ?_, ?_, fun z hz => hW.off z (List.mem_of_mem_drop hz)⟩, fun q hq => ?_⟩
  · rw [at_head (by omega), List.getElem_drop]; simp
  · rw [at_last (by omega), List.getElem_drop, ← e2]
    congr 2
    omega
  · obtain ⟨hq0, f1⟩ := head_at hq.first
    obtain ⟨_, f2⟩ := last_at hq.last
    have hlt : (L.take i).length = i := by rw [List.length_take]; omega
    -- a walk by the first j of L, and q from place k on
    have hwalk : ∀ j k (hj : j ≤ i) (hk : k < q.length), (∀ hj0 : 0 < j, Adj es (L[j - 1]'(by omega)) q[k]) → (j = 0 → q[k] = a) → L.length ≤ j + (q.length - k) := fun j k hj hk hadj hz => by
      have hl1 : (L.take j).length = j := by rw [List.length_take]; omega
      have hl2 : (q.drop k).length = q.length - k := List.length_drop
      have hlen : (L.take j ++ q.drop k).length = j + (q.length - k) := by rw [List.length_append, hl1, hl2]
      have hs := route_short (r := L.take j ++ q.drop k) hR h (by omega) (by
          by_cases e : j = 0
          · subst e
            rw [List.getElem_append_right (by simp), List.getElem_drop]
            simp
            exact hz rfl
          · rw [List.getElem_append_left (by omega), List.getElem_take]; exact e1) (by
          rw [List.getElem_append_right (by omega), List.getElem_drop, ← f2]
          congr 1
          omega) ((hW.path.lk.take _).append (hq.path.lk.drop _) (fun h1 h2 => by
          simp only [hl1, List.getElem_take, List.getElem_drop, Nat.add_zero]
          exact hadj (by omega))) (fun z hz => by
          rcases List.mem_append.1 hz with hz | hz
          · exact hW.in z (List.mem_of_mem_take hz)
          · exact hq.in z (List.mem_of_mem_drop hz))
      omega
    have hlink : ∀ (hi0 : 0 < i), Adj es (L[i - 1]'(by omega)) q[0] := fun hi0 => by
      rw [f1]
      have := hW.path.lk (i - 1) (by omega)
      simp only [show i - 1 + 1 = i by omega] at this
      exact this
    have hmin := hwalk i 0 (Nat.le_refl _) hq0 hlink (fun e => by subst e; rw [f1]; exact e1)
    rw [hld]
    by_cases hlt2 : L.length - i < q.length
    · exact Or.inl hlt2
    · have hql : q.length = L.length - i := by omega
      refine Or.inr ⟨hql.symm, ?_⟩
      -- no vertex ahead of place i stands in q
      have hno : ∀ x ∈ L.take i, ∀ y ∈ q, x ≠ y := fun x hx y hy e => by
        subst e
        obtain ⟨j, hj, rfl⟩ := List.getElem_of_mem hx
        rw [hlt] at hj
        obtain ⟨k, hk, e⟩ := List.getElem_of_mem hy
        rw [List.getElem_take] at e
        have := hwalk j k (by omega) hk (fun hj0 => by
          rw [e]
          have := hW.path.lk (j - 1) (by omega)
          simp only [show j - 1 + 1 = j by omega] at this
          exact this) (fun e0 => by subst e0; rw [e]; exact e1)
        omega
      have hr : Way n es a b away (L.take i ++ q) := by
        have hlen : (L.take i ++ q).length = i + q.length := by rw [List.length_append, hlt]
        refine ⟨⟨fun e => hq.path.ne (List.append_eq_nil_iff.1 e).2, List.nodup_append.2 ⟨List.Sublist.nodup (List.take_sublist _ _) hW.path.nd, hq.path.nd, hno⟩, fun z hz => ?_, (hW.path.lk.take _).append hq.path.lk (fun h1 h2 => ?_)⟩, ?_, ?_, fun z hz => ?_⟩
        · rcases List.mem_append.1 hz with hz | hz
          · exact hW.path.inn z (List.mem_of_mem_take hz)
          · exact hq.path.inn z hz
        · simp only [hlt, List.getElem_take]
          exact hlink (by omega)
        · rw [at_head (by omega)]
          by_cases e : i = 0
          · subst e
            simp only [List.take_zero, List.nil_append]
            rw [f1, e1]
          · rw [List.getElem_append_left (by omega), List.getElem_take, e1]
        · rw [at_last (by omega), List.getElem_append_right (by omega), ← f2]
          congr 2
          omega
        · rcases List.mem_append.1 hz with hz | hz
          · exact hW.off z (List.mem_of_mem_take hz)
          · exact hq.off z hz
      rcases h with ⟨rfl, _⟩ | ⟨_, h2⟩
      · simp at hi
      · rcases h2 _ hr with e | ⟨_, e⟩
        · rw [List.length_append, hlt] at e; omega
        · have hL : L = L.take i ++ L.drop i := (List.take_append_drop i L).symm
          rw [← lexL_pre (L.take i), ← hL]
          exact e
end Go.Proofs.Ytccbheijfnodjaa
namespace Go.Proofs.Ytccbheijfnodjaa

/-- The least of the shortest ways from a to v of at most so many vertices. -/
def BestAt (n : Int) (es : List (Int × Int)) (a : Int) (away : List Int) (long : Nat) (v : Int) (L : List Int) : Prop :=
  (L = [] ∧ ∀ p, Way n es a v away p → long < p.length) ∨ (Way n es a v away L ∧ L.length ≤ long ∧ ∀ p, Way n es a v away p → L.length < p.length ∨ (L.length = p.length ∧ lexL p L = false))
theorem way_self {n : Int} {es : List (Int × Int)} {a : Int} {away : List Int} (ha : 0 ≤ a ∧ a < n) (ho : a ∉ away) : Way n es a a away [a] :=
  ⟨⟨by simp, by simp, fun z hz => by simp at hz; subst hz; exact ha, fun i hi => absurd hi (by simp)⟩, rfl, rfl, fun z hz => by simp at hz; subst hz; exact ho⟩
theorem best_init {n : Int} {es : List (Int × Int)} {a : Int} {away : List Int} (ha : 0 ≤ a ∧ a < n) (ho : a ∉ away) (v : Int) : BestAt n es a away 1 v (if v = a then [a] else []) := by
  by_cases e : v = a
  · subst e
    rw [if_pos rfl]
    refine Or.inr ⟨way_self ha ho, by simp, fun p hp => ?_⟩
    have h0 := hp.path.pos
    by_cases h1 : p.length = 1
    · obtain ⟨_, e1⟩ := head_at hp.first
      obtain ⟨x, rfl⟩ : ∃ x, p = [x] := List.length_eq_one_iff.1 h1
      simp at e1
      subst e1
      exact Or.inr ⟨rfl, lexL_irrefl _⟩
    · exact Or.inl (by simp; omega)
  · rw [if_neg e]
    refine Or.inl ⟨rfl, fun p hp => ?_⟩
    have h0 := hp.path.pos
    by_cases h1 : p.length = 1
    · exfalso
      obtain ⟨x, rfl⟩ : ∃ x, p = [x] := List.length_eq_one_iff.1 h1
      have h2 := hp.first
      have h3 := hp.last
      simp at h2 h3
      exact e (h3.symm.trans h2)
    · omega
/-- The last vertex but one of a way. -/
theorem way_last {n : Int} {es : List (Int × Int)} {a v : Int} {away p : List Int} (hp : Way n es a v away p) (h2 : 2 ≤ p.length) : ∃ q x, p = q ++ [v] ∧ Way n es a x away q ∧ Adj es x v ∧ q.length + 1 = p.length := by
  obtain ⟨h0, e1⟩ := head_at hp.first
  obtain ⟨_, e2⟩ := last_at hp.last
  have hl : (p.take (p.length - 1)).length = p.length - 1 := by rw [List.length_take]; omega
  have hsplit : p = p.take (p.length - 1) ++ [v] := by
    conv => lhs; rw [← List.take_append_drop (p.length - 1) p]
    congr 1
    rw [List.drop_eq_getElem_cons (by omega), e2, List.drop_eq_nil_of_le (by omega)]
  refine ⟨p.take (p.length - 1), p[p.length - 2], hsplit, ⟨hp.path.take (by omega), ?_, ?_, fun z hz => hp.off z (List.mem_of_mem_take hz)⟩, ?_, by omega⟩
  · rw [List.head?_take, if_neg (by omega)]; exact hp.first
  · rw [at_last (by omega), List.getElem_take]
    congr 2
    omega
  · have := hp.path.lk (p.length - 2) (by omega)
    have e3 : p[p.length - 2 + 1]'(by omega) = v := by
      rw [← e2]
      congr 1
      omega
    rw [e3] at this
    exact this
/-- One vertex more, or a way that is no longer. -/
theorem way_more {n : Int} {es : List (Int × Int)} {a x v : Int} {away q : List Int} (hR : RightG n es) (hq : Way n es a x away q) (ha : Adj es x v) (ho : v ∉ away) : (v ∉ q ∧ Way n es a v away (q ++ [v])) ∨ ∃ p, Way n es a v away p ∧ p.length ≤ q.length := by
  obtain ⟨_, hv, _⟩ := ha.in hR
  by_cases hm : v ∈ q
  · obtain ⟨i, hi, rfl⟩ := List.getElem_of_mem hm
    have hl2 : (q.take (i + 1)).length = i + 1 := by rw [List.length_take]; omega
    refine Or.inr ⟨q.take (i + 1), ⟨hq.path.take (by omega), ?_, ?_, fun z hz => hq.off z (List.mem_of_mem_take hz)⟩, by omega⟩
    · rw [List.head?_take, if_neg (by omega)]; exact hq.first
    · rw [at_last (by omega)]; simp [hl2]
  · obtain ⟨h0', hlast⟩ := last_at hq.last
    refine Or.inl ⟨hm, ⟨by simp, List.nodup_append.2 ⟨hq.path.nd, by simp, fun y hy z hz => by simp at hz; subst hz; exact fun e => hm (e ▸ hy)⟩, fun z hz => ?_, hq.path.lk.append (fun i hi => absurd hi (by simp)) (fun _ _ => by rw [hlast]; exact ha)⟩, by rw [List.head?_append, hq.first]; rfl, by simp, fun z hz => ?_⟩
    · rcases List.mem_append.1 hz with hz | hz
      · exact hq.path.inn z hz
      · simp at hz; subst hz; exact hv
    · rcases List.mem_append.1 hz with hz | hz
      · exact hq.off z hz
      · simp at hz; subst hz; exact ho
theorem lexL_snoc : ∀ {a b : List Int} (v : Int), a.length = b.length → lexL (a ++ [v]) (b ++ [v]) = lexL a b
  | [], [], v, _ => lexL_irrefl [v]
  | [], _ :: _, _, h => by simp at h
  | _ :: _, [], _, h => by simp at h
  | x :: a, y :: b, v, h => by
    have := lexL_snoc v (a := a) (b := b) (by simpa using h)
    simp [lexL, this]
theorem lex_low' {M A B : List Int} (h : lexL M B = false) (k : A = B ∨ lexL A B = true) : lexL M A = false := by
  rcases k with rfl | k
  · exact h
  · cases h2 : lexL M A with
    | false => rfl
    | true => rw [lexL_trans h2 k] at h; cases h
/-- What a vertex may be reached by, a vertex farther. -/
def Cand (B : Int → List Int) (long : Nat) (away : List Int) (x v : Int) : Prop := (B x).length = long ∧ B v = [] ∧ v ∉ away
/-- What was found for v, by the pairs in D. -/
def FoundBy (B : Int → List Int) (long : Nat) (away : List Int) (D : List (Int × Int)) (v : Int) (F : List Int) : Prop :=
  (F = [] ∧ ∀ x, (x, v) ∈ D → ¬ Cand B long away x v) ∨ ∃ x, (x, v) ∈ D ∧ Cand B long away x v ∧ F = B x ++ [v] ∧ ∀ y, (y, v) ∈ D → Cand B long away y v → lexL (B y ++ [v]) F = false
/-- Each edge, both ways. -/
def dirs (es : List (Int × Int)) : List (Int × Int) := es.flatMap (fun e => [e, (e.2, e.1)])
theorem mem_dirs {es : List (Int × Int)} {x y : Int} : (x, y) ∈ dirs es ↔ Adj es x y := by
  unfold dirs Adj
  rw [List.mem_flatMap]
  constructor
  · rintro ⟨e, he, h⟩
    simp at h
    rcases h with h | h
    · subst h; exact Or.inl he
    · obtain ⟨rfl, rfl⟩ := h; exact Or.inr he
  · rintro (h | h)
    · exact ⟨(x, y), h, by simp⟩
    · exact ⟨(y, x), h, by simp⟩
theorem dirs_len (es : List (Int × Int)) : (dirs es).length = 2 * es.length := by
  unfold dirs
  induction es with
  | nil => rfl
  | cons e es ih => simp [ih]; omega
theorem dirs_at : ∀ {es : List (Int × Int)} {k : Nat} (h : k < es.length), (dirs es)[2 * k]? = some es[k] ∧ (dirs es)[2 * k + 1]? = some (es[k].2, es[k].1)
  | e :: es, 0, _ => ⟨rfl, rfl⟩
  | e :: es, k + 1, h => by
    have h' : k < es.length := by simpa using h
    have := dirs_at h'
    unfold dirs at *
    simp only [List.flatMap_cons, List.getElem_cons_succ]
    rw [show 2 * (k + 1) = 2 * k + 2 by omega]
    exact this
/-- Longer by one. -/
theorem best_step {n : Int} {es : List (Int × Int)} {a : Int} {away : List Int} {long : Nat} {B F : Int → List Int} (hR : RightG n es) (hlong : 1 ≤ long) (hB : ∀ v, 0 ≤ v → v < n → BestAt n es a away long v (B v)) (hF : ∀ v, 0 ≤ v → v < n → FoundBy B long away (dirs es) v (F v)) :
    ∀ v, 0 ≤ v → v < n → BestAt n es a away (long + 1) v (if F v = [] then B v else F v) := fun v h0 h1 => by
  -- of a way to v of long + 1 vertices, where there is no shorter one
  have key : B v = [] → (∀ p, Way n es a v away p → long < p.length) → ∀ p, Way n es a v away p → p.length = long + 1 → ∃ q x, p = q ++ [v] ∧ (x, v) ∈ dirs es ∧ Cand B long away x v ∧ q.length = long ∧ lexL q (B x) = false := fun hv hno p hp hl => by
    obtain ⟨q, x, rfl, hq, hadj, hql⟩ := way_last hp (by omega)
    have hx := (hadj.in hR).1
    have hvo : v ∉ away := hp.off v (by simp)
    have hq1 : q.length = long := by simp at hl; exact hl
    rcases hB x hx.1 hx.2 with ⟨_, h⟩ | ⟨hW, hle, hmin⟩
    · have := h q hq; omega
    · have hlen : (B x).length = long := by
        by_cases e : (B x).length = long
        · exact e
        · exfalso
          rcases way_more hR hW hadj hvo with ⟨_, h⟩ | ⟨p, h, h3⟩
          · have := hno _ h; simp at this; omega
          · have := hno _ h; omega
      refine ⟨q, x, rfl, mem_dirs.2 hadj, ⟨hlen, hv, hvo⟩, hq1, ?_⟩
      rcases hmin q hq with h | h
      · omega
      · exact h.2
  rcases hB v h0 h1 with ⟨hv, hno⟩ | ⟨hW, hle, hmin⟩
  · rcases hF v h0 h1 with ⟨hf, hnc⟩ | ⟨x, hx, hc, hf, hmin⟩
    · rw [if_pos hf, hv]
      refine Or.inl ⟨rfl, fun p hp => ?_⟩
      have h2 := hno p hp
      by_cases e : p.length = long + 1
      · obtain ⟨q, x, _, hx, hc, _⟩ := key hv hno p hp e
        exact absurd hc (hnc x hx)
      · omega
    · have hne : F v ≠ [] := by rw [hf]; simp
      rw [if_neg hne]
      have hadj := mem_dirs.1 hx
      have hxr := (hadj.in hR).1
      have hWx : Way n es a x away (B x) := by
        rcases hB x hxr.1 hxr.2 with ⟨h, _⟩ | ⟨h, _⟩
        · have := hc.1; rw [h] at this; simp at this; omega
        · exact h
      have hWv : Way n es a v away (F v) := by
        rw [hf]
        rcases way_more hR hWx hadj hc.2.2 with ⟨_, h⟩ | ⟨p, h, h3⟩
        · exact h
        · have := hno p h; have := hc.1; omega
      have hFl : (F v).length = long + 1 := by rw [hf, List.length_append, hc.1]; rfl
      refine Or.inr ⟨hWv, by omega, fun p hp => ?_⟩
      have h2 := hno p hp
      by_cases e : p.length = long + 1
      · refine Or.inr ⟨by omega, ?_⟩
        obtain ⟨q, y, rfl, hy, hcy, hql, hlex⟩ := key hv hno p hp e
        have h4 := hmin y hy hcy
        have h5 : lexL (q ++ [v]) (B y ++ [v]) = false := by rw [lexL_snoc v (by rw [hql, hcy.1])]; exact hlex
        refine lex_low' h5 ?_
        cases h6 : lexL (F v) (B y ++ [v]) with
        | true => exact Or.inr rfl
        | false => exact Or.inl (lexL_tri h6 h4)
      · exact Or.inl (by omega)
  · have hf : F v = [] := by
      rcases hF v h0 h1 with ⟨h, _⟩ | ⟨x, _, hc, _⟩
      · exact h
      · have := hc.2.1
        rw [this] at hW
        exact absurd rfl hW.path.ne
    rw [if_pos hf]
    exact Or.inr ⟨hW, by omega, hmin⟩
/-- When all lengths are done. -/
theorem best_all {n : Nat} {es : List (Int × Int)} {a b : Int} {away L : List Int} {long : Nat} (h : BestAt n es a away long b L) (hl : n ≤ long) : RouteIs n es a b away L := by
  rcases h with ⟨h, hno⟩ | ⟨h, _, hm⟩
  · refine Or.inl ⟨h, fun p hp => ?_⟩
    have h1 := len_le_subI (a := p) (b := (List.range n).map (fun i : Nat => (i : Int))) hp.path.nd (fun z hz => by
      have := hp.path.inn z hz
      exact List.mem_map.2 ⟨z.toNat, by simp; omega, by omega⟩)
    have h2 := hno p hp
    simp at h1
    omega
  · exact Or.inr ⟨h, hm⟩
end Go.Proofs.Ytccbheijfnodjaa
