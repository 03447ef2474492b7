/-
  Who leads to whom in a part of the program's. No program is named here.
  The document's Same, SameEdges, SameGraph: are two rows, two graphs the same?
  Lists of rows in memory; the document's SameRows.
  The document's Classes of layer 4.
  What is reached from a vertex: pure facts for the document's components. No program is named here.
  What the laws of layer 4 ask of the program's parts: a row of contracts over any way in which a part may lie in memory.
  The program's parts in memory; who stands for a class (has, head).
-/
import Derived.Test.YtccbheijfnodjaaB06
import Derived.Test.YtccbheijfnodjaaB03
import Derived.Test.YtccbheijfnodjaaB02
import Derived.Test.YtccbheijfnodjaaB05
import Derived.Test.YtccbheijfnodjaaB04
import Derived.BigRegion
namespace Go.Proofs.Ytccbheijfnodjaa

/-- Each number below n leads to one of its class, and rk falls on the way; of each class just one leads to itself. -/
structure Leads (n : Nat) (f L rk : Nat → Nat) : Prop where
  lt : ∀ a, a < n → L a < n
  cls : ∀ a, a < n → f (L a) = f a
  down : ∀ a, a < n → L a ≠ a → rk (L a) < rk a
  one : ∀ a b, a < n → b < n → L a = a → L b = b → f a = f b → a = b
theorem leads_new (n : Nat) : Leads n (fun i => i) (fun i => i) (fun _ => 0) := ⟨fun _ h => h, fun _ _ => rfl, fun _ _ h => absurd rfl h, fun _ _ _ _ _ _ h => h⟩
theorem Leads.top {n : Nat} {f L rk : Nat → Nat} (h : Leads n f L rk) : ∀ k a, rk a ≤ k → a < n → ∃ t, t < n ∧ L t = t ∧ f t = f a
  | 0, a, hk, ha => by
    by_cases e : L a = a
    · exact ⟨a, ha, e, rfl⟩
    · have := h.down a ha e; omega
  | k + 1, a, hk, ha => by
    by_cases e : L a = a
    · exact ⟨a, ha, e, rfl⟩
    · have := h.down a ha e
      obtain ⟨t, h1, h2, h3⟩ := h.top k (L a) (by omega) (h.lt a ha)
      exact ⟨t, h1, h2, h3.trans (h.cls a ha)⟩
/-- rt tells who stands for each one's class. -/
def Tops (n : Nat) (f L rt : Nat → Nat) : Prop := ∀ a, a < n → rt a < n ∧ L (rt a) = rt a ∧ f (rt a) = f a
theorem Leads.tops {n : Nat} {f L rk : Nat → Nat} (h : Leads n f L rk) : ∃ rt, Tops n f L rt := by
  have := Classical.axiomOfChoice (r := fun a t => a < n → t < n ∧ L t = t ∧ f t = f a) (fun a => by
    by_cases ha : a < n
    · obtain ⟨t, ht⟩ := h.top (rk a) a (Nat.le_refl _) ha; exact ⟨t, fun _ => ht⟩
    · exact ⟨0, fun h => absurd h ha⟩)
  exact this
theorem Tops.at {n : Nat} {f L rk rt : Nat → Nat} (h : Tops n f L rt) (hl : Leads n f L rk) {a t : Nat} (ha : a < n) (ht : t < n) (h1 : L t = t) (h2 : f t = f a) : t = rt a :=
  hl.one _ _ ht (h a ha).1 h1 (h a ha).2.1 (h2.trans (h a ha).2.2.symm)
theorem Tops.same {n : Nat} {f L rk rt : Nat → Nat} (h : Tops n f L rt) (hl : Leads n f L rk) {a b : Nat} (ha : a < n) (hb : b < n) : rt a = rt b ↔ f a = f b :=
  ⟨fun e => by rw [← (h a ha).2.2, ← (h b hb).2.2, e], fun e => h.at hl hb (h a ha).1 (h a ha).2.1 ((h a ha).2.2.trans e)⟩
/-- The way made shorter. -/
theorem Leads.halve {n : Nat} {f L rk : Nat → Nat} (h : Leads n f L rk) {a : Nat} (ha : a < n) (hne : L a ≠ a) : Leads n f (fun j => if j = a then L (L a) else L j) rk ∧ ∀ t, L t = t → (if t = a then L (L a) else L t) = t := by
  have hd := h.down a ha hne
  have hl := h.lt a ha
  have hll := h.lt _ hl
  have hrk : rk (L (L a)) < rk a := by
    by_cases e : L (L a) = L a
    · rw [e]; exact hd
    · exact Nat.lt_trans (h.down _ hl e) hd
  refine ⟨⟨fun j hj => ?_, fun j hj => ?_, fun j hj => ?_, fun i j hi hj => ?_⟩, fun t ht => ?_⟩
  · by_cases e : j = a
    · simp only [e, if_true]; exact hll
    · simp only [e, if_false]; exact h.lt j hj
  · by_cases e : j = a
    · simp only [e, if_true]; rw [h.cls _ hl, h.cls a ha]
    · simp only [e, if_false]; exact h.cls j hj
  · by_cases e : j = a
    · simp only [e, if_true]; intro _; exact hrk
    · simp only [e, if_false]; exact h.down j hj
  · by_cases e : i = a
    · subst e
      simp only [if_true]
      intro h1
      rw [h1] at hrk; omega
    · by_cases e2 : j = a
      · subst e2
        simp only [if_true, e, if_false]
        intro _ h1
        rw [h1] at hrk; omega
      · simp only [e, e2, if_false]; exact h.one i j hi hj
  · by_cases e : t = a
    · subst e; exact absurd ht hne
    · rw [if_neg e]; exact ht
/-- Two classes made one. -/
theorem Leads.join {n : Nat} {f L rk : Nat → Nat} (h : Leads n f L rk) {a b s t : Nat} (hs : s < n) (ht : t < n) (lt : L t = t) (fs : f s = f a) (ft : f t = f b) (hne : f a ≠ f b) :
    Leads n (joinF f a b) (fun j => if j = t then s else L j) (fun j => if f j = f t then rk j + rk s + 1 else rk j) := by
  have hst : s ≠ t := fun e => hne (by rw [← fs, ← ft, e])
  have hfst : f s ≠ f t := by rw [fs, ft]; exact hne
  refine ⟨fun j hj => ?_, fun j hj => ?_, fun j hj => ?_, fun i j hi hj => ?_⟩
  · by_cases e : j = t
    · simp only [e, if_true]; exact hs
    · simp only [e, if_false]; exact h.lt j hj
  · by_cases e : j = t
    · simp only [e, if_true]
      exact (joinF_same _ _ _ _ _).2 (Or.inr (Or.inl ⟨fs, ft⟩))
    · simp only [e, if_false]
      exact (joinF_same _ _ _ _ _).2 (Or.inl (h.cls j hj))
  · by_cases e : j = t
    · subst e
      simp only [if_true, hfst, if_false]
      intro _; omega
    · simp only [e, if_false]
      intro hlj
      have hd := h.down j hj hlj
      have hc := h.cls j hj
      rw [hc]
      by_cases e2 : f j = f t
      · simp only [e2, if_true]; omega
      · simp only [e2, if_false]; exact hd
  · by_cases e : i = t
    · simp only [e, if_true]; intro h1; exact absurd h1 hst
    · by_cases e2 : j = t
      · simp only [e2, if_true]; intro _ h1; exact absurd h1 hst
      · simp only [e, e2, if_false]
        intro h1 h2 h3
        rcases (joinF_same _ _ _ _ _).1 h3 with h4 | ⟨h4, h5⟩ | ⟨h4, h5⟩
        · exact h.one i j hi hj h1 h2 h4
        · exact absurd (h.one j t hj ht h2 lt (h5.trans ft.symm)) e2
        · exact absurd (h.one i t hi ht h1 lt (h4.trans ft.symm)) e
theorem cntF_join {n : Nat} {f : Nat → Nat} (h : Pt n f) {a b : Nat} (ha : a < n) (hb : b < n) (hne : f a ≠ f b) : cntF f n = cntF (joinF f a b) n + 1 := reps_join h ha hb hne
theorem cntF_new (n : Nat) : cntF (fun i => i) n = n := by
  unfold cntF
  rw [List.filter_eq_self.2 (fun i _ => by simp)]
  simp
end Go.Proofs.Ytccbheijfnodjaa
namespace Go.Proofs.Ytccbheijfnodjaa
open Go.RowKit Go.Lib

theorem same_upto {α : Type} {xs ys : List α} (hl : xs.length = ys.length) (h : ∀ j (h1 : j < xs.length) (h2 : j < ys.length), xs[j] = ys[j]) : xs = ys := List.ext_getElem hl h

set_option maxHeartbeats 1000000 in
set_option maxRecDepth 100000 in
theorem same_any (a1 a2 : Option Addr) (c1 c2 : Nat) (xs ys : List Int) (r : Bool) (w : World) (hN : xs.length ≤ 1000000) (h1 : IAt w a1 xs) (h2 : IAt w a2 ys) (hr : r = true ↔ xs = ys) :
    Calls Try.prog 19 #[.slice a1 xs.length c1, .slice a2 ys.length c2] w fun e w' => e = .returned (.bool r) ∧ Below w.heap.size w w' := by
  have H1 : Hid (IAt w a1 xs) := h1
  have H2 : Hid (IAt w a2 ys) := h2
  have HR : Hid (r = true ↔ xs = ys) := hr
  obtain ⟨N, hNe⟩ := ex_eq xs.length
  obtain ⟨M, hMe⟩ := ex_eq ys.length
  have HN : Hid (N = xs.length) := hNe
  have HM : Hid (M = ys.length) := hMe
  rw [← hNe] at hN ⊢
  rw [← hMe]
  clear h1 h2 hr hNe hMe
  by_cases hl : N = M
  · subst hl
    go_enter Try.func19, Try.ntmps19
    go_wp2
    go_loopw [5] (fun i wr => ∃ k : Nat, k ≤ N ∧ i = .int .i64 k ∧ Hid (∀ j (h1 : j < xs.length) (h2 : j < ys.length), j < k → xs[j] = ys[j]) ∧ Below w.heap.size w wr) (fun i _ => N - (RowKit.intOf i).toNat)
    case atStart => exact ⟨0, Nat.zero_le _, rfl, fun j _ _ h => absurd h (by omega), Below.refl _ _⟩
    case round =>
      obtain ⟨k, hk, rfl, heq, hbr⟩ := hrel
      by_cases hlt : k < N
      · have k1 : k < xs.length := by rw [← HN.out]; exact hlt
        have k2 : k < ys.length := by rw [← HM.out]; exact hlt
        obtain ⟨g1, o1, rfl, hg1, hc1⟩ := H1.out (by omega)
        obtain ⟨g2, o2, rfl, hg2, hc2⟩ := H2.out (by omega)
        have d1 := (hbr.cell (p := ⟨g1, o1 + k, none⟩) hg1).trans (hc1 k k1)
        have d2 := (hbr.cell (p := ⟨g2, o2 + k, none⟩) hg2).trans (hc2 k k2)
        obtain ⟨x, hx⟩ := ex_eq xs[k]
        obtain ⟨y, hy⟩ := ex_eq ys[k]
        rw [← hx] at d1
        rw [← hy] at d2
        have HXY : Hid (x = xs[k] ∧ y = ys[k]) := ⟨hx, hy⟩
        have q1 : (k : Int) < (N : Int) := by omega
        clear hc1 hc2 hx hy
        by_cases hxy : x = y
        · subst hxy
          have HEQ : Hid (∀ j (h1 : j < xs.length) (h2 : j < ys.length), j < k + 1 → xs[j] = ys[j]) := fun j h1 h2 hj => by
            by_cases e : j < k
            · exact heq.out j h1 h2 e
            · obtain rfl : j = k := by omega
              rw [← HXY.out.1, ← HXY.out.2]
          go_wp2
          go_quiet (fail)
          go_wp2
          go_roundw
          case rel => exact ⟨k + 1, by omega, by go_num, HEQ, below_drewN hbr _⟩
          case measure => simp [RowKit.intOf]; omega
        · obtain rfl : r = false := b_false HR.out (fun e => hxy (by rw [HXY.out.1, HXY.out.2]; simp only [e]))
          have hq : (x == y) = false := beq_eq_false_iff_ne.2 hxy
          clear hxy HR
          go_wp2
          go_quiet (fail)
          go_wp2
          go_ret
          exact ⟨rfl, below_drewN hbr _⟩
      · obtain rfl : k = N := by omega
        obtain rfl : r = true := HR.out.2 (same_upto (by rw [← HN.out, ← HM.out]) (fun j h1 h2 => heq.out j h1 h2 (by rw [HN.out]; exact h1)))
        clear HR
        go_wp2
        go_ret
        exact ⟨rfl, hbr⟩
  · obtain rfl : r = false := b_false HR.out (fun e => hl (by rw [HN.out, HM.out, e]))
    have hq : ((N : Int) == (M : Int)) = false := beq_eq_false_iff_ne.2 (by omega)
    clear HR hl
    go_enter Try.func19, Try.ntmps19
    go_wp2
    go_ret
    exact ⟨rfl, Below.refl _ _⟩

end Go.Proofs.Ytccbheijfnodjaa
namespace Go.Proofs.Ytccbheijfnodjaa
open Go.RowKit Go.Lib

theorem KeptBut.of_grown {w w' : World} {row : Option Nat} (hg : w.grownBy w' row) : KeptBut (fun k => some k = row) w w' := ⟨hg.os, hg.tape, hg.output, hg.size, fun k hk hn => hg.block k hk hn⟩
theorem kept_alloc (w : World) (o : Obj) (S : Nat → Prop) : KeptBut S w (w.alloc o) := (KeptBut.of_below ((Below.refl w.heap.size w).alloc (Nat.le_refl _) o)).mono (fun k hk hs => absurd hs (by omega))
theorem KeptBut.of_whole {w w' : World} (S : Nat → Prop) (h : Below w.heap.size w w') : KeptBut S w w' := (KeptBut.of_below h).mono (fun k hk hs => absurd hs (by omega))
theorem IAt.kept {S : Nat → Prop} {w w' : World} {a : Option Addr} {xs : List Int} (h : IAt w a xs) (hk : KeptBut S w w') (hs : ∀ g off, a = some ⟨g, off, none⟩ → 0 < xs.length → ¬ S g) : IAt w' a xs := fun h0 => by
  obtain ⟨g, off, ha, hg, hc⟩ := h h0
  exact ⟨g, off, ha, Nat.lt_of_lt_of_le hg hk.size, fun k hk' => (hk.cell (p := ⟨g, off + k, none⟩) hg (hs g off ha h0)).trans (hc k hk')⟩
theorem own_kept {S : Nat → Prop} {w w' : World} {base : Nat} {e : TypeId} {size : Nat} {v : Value} {n : Nat} {xs : List Value} (h : w.ownsRow base e size v n xs) (hk : KeptBut S w w') (hs : ∀ g, v.ownBlock = some g → ¬ S g) : w'.ownsRow base e size v n xs := by
  refine ⟨h.1, ?_⟩
  rcases h.2 with h2 | ⟨g, cap, cur, hv, hg, hgc, r⟩
  · exact Or.inl h2
  · exact Or.inr ⟨g, cap, cur, hv, hg, (hk.block g (Array.getElem?_eq_some_iff.1 hgc).1 (hs g (by rw [hv]; rfl))).trans hgc, r⟩

/-- A list of rows in memory. -/
def LLAt (w : World) (a : Option Addr) (LL : List (List Int)) : Prop :=
  0 < LL.length → ∃ g off, a = some ⟨g, off, none⟩ ∧ g < w.heap.size ∧ ∀ k (hk : k < LL.length), ∃ ak ck, w.cell? ⟨g, off + k, none⟩ = some (.slice ak LL[k].length ck) ∧ IAt w ak LL[k]
theorem LLAt.below {w w' : World} {a : Option Addr} {LL : List (List Int)} (h : LLAt w a LL) (hb : Below w.heap.size w w') : LLAt w' a LL := fun h0 => by
  obtain ⟨g, off, ha, hg, hc⟩ := h h0
  refine ⟨g, off, ha, Nat.lt_of_lt_of_le hg hb.size, fun k hk => ?_⟩
  obtain ⟨ak, ck, h1, h2⟩ := hc k hk
  exact ⟨ak, ck, (hb.cell (p := ⟨g, off + k, none⟩) hg).trans h1, h2.below hb⟩
theorem LLAt.at {w : World} {a : Option Addr} {LL : List (List Int)} (h : LLAt w a LL) {k : Nat} (hk : k < LL.length) : ∃ g off ak ck, a = some ⟨g, off, none⟩ ∧ w.cell? ⟨g, off + k, none⟩ = some (.slice ak LL[k].length ck) ∧ IAt w ak LL[k] := by
  obtain ⟨g, off, ha, hg, hc⟩ := h (by omega)
  obtain ⟨ak, ck, h1, h2⟩ := hc k hk
  exact ⟨g, off, ak, ck, ha, h1, h2⟩

/-- A list of rows of the call's own: the headers in one block, the rows in others, all of them in blocks of A. -/
def LLOwn (w : World) (base : Nat) (A : Nat → Prop) (v : Value) (us : List Value) (LL : List (List Int)) : Prop :=
  w.ownsRow base 25 1 v LL.length us ∧ us.length = LL.length ∧ (∀ g, v.ownBlock = some g → A g) ∧
    ∀ k (hk : k < LL.length), ∃ ak ck, us[k]? = some (.slice ak LL[k].length ck) ∧ IAt w ak LL[k] ∧ ∀ g off, ak = some ⟨g, off, none⟩ → 0 < LL[k].length → A g ∧ v.ownBlock ≠ some g
theorem LLOwn.kept {S A : Nat → Prop} {w w' : World} {base : Nat} {v : Value} {us : List Value} {LL : List (List Int)} (h : LLOwn w base A v us LL) (hk : KeptBut S w w') (hs : ∀ k, A k → k < w.heap.size → ¬ S k) : LLOwn w' base A v us LL := by
  refine ⟨own_kept h.1 hk (fun g hg => hs g (h.2.2.1 g hg) (h.1.lt g hg).2), h.2.1, h.2.2.1, fun k hk' => ?_⟩
  obtain ⟨ak, ck, h1, h2, h3⟩ := h.2.2.2 k hk'
  exact ⟨ak, ck, h1, h2.kept hk (fun g off ha h0 => hs g (h3 g off ha h0).1 (by
    obtain ⟨g', off', ha', hg', _⟩ := h2 h0
    rw [ha] at ha'
    cases ha'
    exact hg')), h3⟩
theorem LLOwn.below {A : Nat → Prop} {w w' : World} {base : Nat} {v : Value} {us : List Value} {LL : List (List Int)} (h : LLOwn w base A v us LL) (hb : Below w.heap.size w w') : LLOwn w' base A v us LL :=
  h.kept (KeptBut.of_whole (fun _ => False) hb) (fun _ _ _ e => e)
theorem LLOwn.put {A : Nat → Prop} {w w4 : World} {base : Nat} {v v4 : Value} {us : List Value} {LL : List (List Int)} {L : List Int} {ar : Option Addr} {cr : Nat} {X : Obj} (h : LLOwn w base A v us LL) (hI : IAt w ar L)
    (hA : ∀ g off, ar = some ⟨g, off, none⟩ → 0 < L.length → A g ∧ v.ownBlock ≠ some g) (hnew : A (w.alloc X).heap.size)
    (ho : w4.ownsRow base 25 1 v4 (LL.length + 1) (us ++ [.slice ar L.length cr])) (hg : (w.alloc X).grownBy w4 v.ownBlock) (hat : v4.ownBlock = v.ownBlock ∨ v4.ownBlock = some (w.alloc X).heap.size) :
    LLOwn w4 base A v4 (us ++ [.slice ar L.length cr]) (LL ++ [L]) := by
  have hk : KeptBut (fun k => some k = v.ownBlock) w w4 := (kept_alloc w X _).trans (KeptBut.of_grown hg)
  have hs : (w.alloc X).heap.size = w.heap.size + 1 := by simp
  have hne : ∀ g, g < w.heap.size → v.ownBlock ≠ some g → v4.ownBlock ≠ some g := fun g h1 h2 e => by
    rcases hat with h3 | h3
    · exact h2 (h3.symm.trans e)
    · rw [h3, hs] at e; simp only [Option.some.injEq] at e; omega
  refine ⟨by rw [List.length_append]; exact ho, by simp [h.2.1], fun g e => ?_, fun k hk' => ?_⟩
  · rcases hat with h3 | h3
    · exact h.2.2.1 g (h3.symm.trans e)
    · rw [h3] at e; simp only [Option.some.injEq] at e; rw [← e]; exact hnew
  · by_cases hlt : k < LL.length
    · obtain ⟨ak, ck, h1, h2, h3⟩ := h.2.2.2 k hlt
      have e1 : (LL ++ [L])[k] = LL[k] := List.getElem_append_left hlt
      rw [e1]
      refine ⟨ak, ck, by rw [List.getElem?_append_left (by rw [h.2.1]; exact hlt)]; exact h1, h2.kept hk (fun g off ha h0 e => (h3 g off ha h0).2 e.symm), fun g off ha h0 => ⟨(h3 g off ha h0).1, hne g ?_ (h3 g off ha h0).2⟩⟩
      obtain ⟨g', off', ha', hg', _⟩ := h2 h0
      rw [ha] at ha'
      cases ha'
      exact hg'
    · obtain rfl : k = LL.length := by simp at hk'; omega
      have e1 : (LL ++ [L])[LL.length] = L := by simp
      rw [e1]
      refine ⟨ar, cr, by rw [← h.2.1]; simp, hI.kept hk (fun g off ha h0 e => (hA g off ha h0).2 e.symm), fun g off ha h0 => ⟨(hA g off ha h0).1, hne g ?_ (hA g off ha h0).2⟩⟩
      obtain ⟨g', off', ha', hg', _⟩ := hI h0
      rw [ha] at ha'
      cases ha'
      exact hg'
theorem LLOwn.at {A : Nat → Prop} {w : World} {base : Nat} {v : Value} {us : List Value} {LL : List (List Int)} (h : LLOwn w base A v us LL) : ∃ a cap, v = .slice a LL.length cap ∧ Sl a cap LL.length ∧ LLAt w a LL := by
  obtain ⟨a, cap, hv, hsl⟩ := sl_own h.1
  refine ⟨a, cap, hv, hsl, fun h0 => ?_⟩
  obtain ⟨g, cap', hv', hb, hg, hc, hcs⟩ := own_row h.1 h0
  rw [hv] at hv'
  simp only [Value.slice.injEq, true_and] at hv'
  refine ⟨g, 0, hv'.1, hg, fun k hk => ?_⟩
  obtain ⟨ak, ck, h1, h2, _⟩ := h.2.2.2 k hk
  exact ⟨ak, ck, by rw [Nat.zero_add]; exact hcs k _ h1, h2⟩

theorem boolR_of (p : Prop) : ∃ r : Bool, r = true ↔ p := by
  by_cases h : p
  · exact ⟨true, ⟨fun _ => h, fun _ => rfl⟩⟩
  · exact ⟨false, ⟨fun h' => (by cases h'), fun h' => absurd h' h⟩⟩
end Go.Proofs.Ytccbheijfnodjaa
namespace Go.Proofs.Ytccbheijfnodjaa
open Go.RowKit Go.Lib

def partTo (f : Nat → Nat) (i k : Nat) : List Int := ((List.range k).filter (fun j => f j == i)).map (fun j : Nat => (j : Int))
theorem partTo_yes {f : Nat → Nat} {i k : Nat} (h : f k = i) : partTo f i (k + 1) = partTo f i k ++ [(k : Int)] := by unfold partTo; rw [List.range_succ, List.filter_append, List.map_append]; simp [h]
theorem partTo_no {f : Nat → Nat} {i k : Nat} (h : ¬ f k = i) : partTo f i (k + 1) = partTo f i k := by unfold partTo; rw [List.range_succ, List.filter_append, List.map_append]; simp [h]
theorem news_one {w : World} {x : Value} {T : TypeId} (n : Nat × Nat) : ∀ p, some (⟨w.heap.size, 0, none⟩ : Addr) = some p → ∀ j u, [x][j]? = some u → (w.alloc (.cells #[x] T n)).cell? (p.add j) = some u := fun p hp => by
  cases hp
  intro j u hu
  match j, hu with
  | 0, hu => cases hu; rw [add_at]; exact cell_of_heap (heap_alloc_new w _) 0
  | j + 1, hu => simp at hu
end Go.Proofs.Ytccbheijfnodjaa
namespace Go.Proofs.Ytccbheijfnodjaa

/-- The edges of a graph as pairs of numbers. -/
def prsN (es : List (Int × Int)) : List (Nat × Nat) := es.map (fun e => (e.1.toNat, e.2.toNat))
theorem prsN_in {n : Nat} {es : List (Int × Int)} (h : RightG n es) : PairsIn n (prsN es) := fun e he => by
  obtain ⟨x, hx, rfl⟩ := List.mem_map.1 he
  have := h.2.2.2.1 x hx
  simp only
  omega
theorem mem_prsN {n : Nat} {es : List (Int × Int)} (h : RightG n es) {a b : Nat} : (a, b) ∈ prsN es ↔ ((a : Int), (b : Int)) ∈ es := by
  unfold prsN
  rw [List.mem_map]
  constructor
  · rintro ⟨x, hx, e⟩
    have := h.2.2.2.1 x hx
    simp only [Prod.mk.injEq] at e
    have e2 : x = ((a : Int), (b : Int)) := Prod.ext (by simp; omega) (by simp; omega)
    rw [← e2]; exact hx
  · intro hx; exact ⟨_, hx, by simp⟩
/-- There are classes to each row of pairs. -/
theorem tells_rev {n : Nat} : ∀ (Q : List (Nat × Nat)), PairsIn n Q.reverse → ∃ f, Pt n f ∧ Tells n f Q.reverse
  | [], _ => ⟨_, pt_new n, tells_new n⟩
  | e :: Q, h => by
    rw [List.reverse_cons] at h ⊢
    obtain ⟨f, hf, ht⟩ := tells_rev Q (fun x hx => h x (List.mem_append_left _ hx))
    have he := h e (by simp)
    exact ⟨_, hf.join he.1 he.2, tells_join ht (fun x hx => h x (List.mem_append_left _ hx)) he.1 he.2⟩
theorem tells_ex {n : Nat} (P : List (Nat × Nat)) (h : PairsIn n P) : ∃ f, Pt n f ∧ Tells n f P := by
  have := tells_rev P.reverse (by rw [List.reverse_reverse]; exact h)
  rwa [List.reverse_reverse] at this
/-- What has been reached from m. -/
structure Bfs (n : Nat) (f : Nat → Nat) (m : Nat) (ls : List Int) : Prop where
  nd : ls.Nodup
  all : ∀ x ∈ ls, ∃ u : Nat, x = u ∧ u < n ∧ f u = m
  has : (m : Int) ∈ ls
theorem Bfs.put {n : Nat} {f : Nat → Nat} {m : Nat} {ls : List Int} (h : Bfs n f m ls) {u : Nat} (hu : u < n) (hf : f u = m) (hn : (u : Int) ∉ ls) : Bfs n f m (ls ++ [(u : Int)]) := by
  refine ⟨?_, fun x hx => ?_, by simp [h.has]⟩
  · rw [List.nodup_append]
    refine ⟨h.nd, by simp, fun a ha b hb => ?_⟩
    simp at hb
    subst hb
    intro e
    subst e
    exact hn ha
  · rcases List.mem_append.1 hx with hx | hx
    · exact h.all x hx
    · simp at hx; exact ⟨u, hx, hu, hf⟩
theorem len_le_of_subI {a b : List Int} (h : a.Nodup) (hs : ∀ e ∈ a, e ∈ b) : a.length ≤ b.length := by
  induction a generalizing b with
  | nil => simp
  | cons x a ih =>
    have hx := hs x (by simp)
    have hnd := List.nodup_cons.1 h
    have := ih (b := b.erase x) hnd.2 (fun e he => by
      refine (List.mem_erase_of_ne ?_).2 (hs e (by simp [he]))
      rintro rfl
      exact hnd.1 he)
    rw [List.length_erase_of_mem hx] at this
    have : 0 < b.length := List.length_pos_of_mem hx
    simp; omega
theorem Bfs.len {n : Nat} {f : Nat → Nat} {m : Nat} {ls : List Int} (h : Bfs n f m ls) : ls.length ≤ n := by
  have := len_le_of_subI (b := upto n) h.nd (fun x hx => by
    obtain ⟨u, rfl, hu, _⟩ := h.all x hx
    unfold upto
    exact List.mem_map.2 ⟨u, by simpa using hu, rfl⟩)
  rwa [upto_len] at this
/-- The neighbours of the first i are reached. -/
def ClosedTo (es : List (Int × Int)) (ls : List Int) (i : Nat) : Prop := ∀ j (h : j < ls.length), j < i → ∀ y ∈ nbL ls[j] es, y ∈ ls
theorem ClosedTo.put {es : List (Int × Int)} {ls : List Int} {i : Nat} (h : ClosedTo es ls i) (hi : i ≤ ls.length) (x : Int) : ClosedTo es (ls ++ [x]) i := fun j hj hji y hy => by
  have hj' : j < ls.length := by omega
  have e : (ls ++ [x])[j] = ls[j] := List.getElem_append_left hj'
  rw [e] at hy
  exact List.mem_append_left _ (h j hj' hji y hy)
theorem ClosedTo.next {es : List (Int × Int)} {ls : List Int} {i : Nat} (h : ClosedTo es ls i) {x : Int} (hx : ls[i]? = some x) (hn : ∀ y ∈ nbL x es, y ∈ ls) : ClosedTo es ls (i + 1) := fun j hj hji y hy => by
  by_cases e : j < i
  · exact h j hj e y hy
  · obtain rfl : j = i := by omega
    rw [List.getElem?_eq_getElem hj] at hx
    cases hx
    exact hn y hy
end Go.Proofs.Ytccbheijfnodjaa
namespace Go.Proofs.Ytccbheijfnodjaa
open Go.RowKit Go.Lib

/-- A list of rows in memory, all of them in blocks of A. -/
def LLIn (w : World) (A : Nat → Prop) (a : Option Addr) (LL : List (List Int)) : Prop :=
  0 < LL.length → ∃ g off, a = some ⟨g, off, none⟩ ∧ g < w.heap.size ∧ A g ∧ ∀ k (hk : k < LL.length), ∃ ak ck, w.cell? ⟨g, off + k, none⟩ = some (.slice ak LL[k].length ck) ∧ IAt w ak LL[k] ∧ ∀ g off, ak = some ⟨g, off, none⟩ → 0 < LL[k].length → A g
theorem LLIn.at {w : World} {A : Nat → Prop} {a : Option Addr} {LL : List (List Int)} (h : LLIn w A a LL) : LLAt w a LL := fun h0 => by
  obtain ⟨g, off, ha, hg, _, hc⟩ := h h0
  exact ⟨g, off, ha, hg, fun k hk => by obtain ⟨ak, ck, h1, h2, _⟩ := hc k hk; exact ⟨ak, ck, h1, h2⟩⟩
theorem LLIn.kept {w w' : World} {A T : Nat → Prop} {a : Option Addr} {LL : List (List Int)} (h : LLIn w A a LL) (hk : KeptBut T w w') (hs : ∀ k, A k → k < w.heap.size → ¬ T k) : LLIn w' A a LL := fun h0 => by
  obtain ⟨g, off, ha, hg, hA, hc⟩ := h h0
  refine ⟨g, off, ha, Nat.lt_of_lt_of_le hg hk.size, hA, fun k hk' => ?_⟩
  obtain ⟨ak, ck, h1, h2, h3⟩ := hc k hk'
  refine ⟨ak, ck, (hk.cell (p := ⟨g, off + k, none⟩) hg (hs g hA hg)).trans h1, h2.kept hk (fun g' off' e h0' => hs g' (h3 g' off' e h0') ?_), h3⟩
  obtain ⟨g2, off2, e2, hg2, _⟩ := h2 h0'
  rw [e] at e2
  cases e2
  exact hg2
theorem LLIn.below {w w' : World} {A : Nat → Prop} {a : Option Addr} {LL : List (List Int)} (h : LLIn w A a LL) (hb : Below w.heap.size w w') : LLIn w' A a LL := h.kept (KeptBut.of_whole (fun _ => False) hb) (fun _ _ _ e => e)
theorem LLIn.mono {w : World} {A A' : Nat → Prop} {a : Option Addr} {LL : List (List Int)} (h : LLIn w A a LL) (hA : ∀ k, A k → A' k) : LLIn w A' a LL := fun h0 => by
  obtain ⟨g, off, ha, hg, hAg, hc⟩ := h h0
  refine ⟨g, off, ha, hg, hA g hAg, fun k hk => ?_⟩
  obtain ⟨ak, ck, h1, h2, h3⟩ := hc k hk
  exact ⟨ak, ck, h1, h2, fun g off e h0 => hA g (h3 g off e h0)⟩
theorem LLOwn.in {w : World} {base : Nat} {A : Nat → Prop} {v : Value} {us : List Value} {LL : List (List Int)} (h : LLOwn w base A v us LL) : ∃ a cap, v = .slice a LL.length cap ∧ LLIn w A a LL := by
  obtain ⟨a, cap, hv, hsl⟩ := sl_own h.1
  refine ⟨a, cap, hv, fun h0 => ?_⟩
  obtain ⟨g, cap', hv', hb, hg, hc, hcs⟩ := own_row h.1 h0
  rw [hv] at hv'
  simp only [Value.slice.injEq, true_and] at hv'
  refine ⟨g, 0, hv'.1, hg, h.2.2.1 g (by rw [hv, hv'.1]; rfl), fun k hk => ?_⟩
  obtain ⟨ak, ck, h1, h2, h3⟩ := h.2.2.2 k hk
  exact ⟨ak, ck, by rw [Nat.zero_add]; exact hcs k _ h1, h2, fun g off e h0 => (h3 g off e h0).1⟩

/-- What a call on a part leaves: the part with its classes f, in blocks that it had or that are new; all else as it was. -/
def PNext (PA : World → Addr → Nat → (Nat → Nat) → (Nat → Prop) → Prop) (S : Nat → Prop) (w w' : World) (p : Addr) (n : Nat) (f : Nat → Nat) : Prop :=
  ∃ S', PA w' p n f S' ∧ (∀ k, S' k → S k ∨ w.heap.size ≤ k) ∧ KeptBut S w w'
/-- What New leaves. -/
def PNew (PA : World → Addr → Nat → (Nat → Nat) → (Nat → Prop) → Prop) (w w' : World) (p : Addr) (n : Int) : Prop :=
  ∃ (m : Nat) (S : Nat → Prop), (m : Int) = max 0 (min n 1000) ∧ PA w' p m (fun i => i) S ∧ (∀ k, S k → w.heap.size ≤ k) ∧ Below w.heap.size w w'
def joinI (n : Nat) (f : Nat → Nat) (x y : Int) : Prop := (0 ≤ x ∧ x < n) ∧ (0 ≤ y ∧ y < n) ∧ f x.toNat ≠ f y.toNat

theorem LLIn.cell {w : World} {A : Nat → Prop} {a : Option Addr} {LL : List (List Int)} (h : LLIn w A a LL) {k : Nat} (hk : k < LL.length) : ∃ g off ak ck, a = some ⟨g, off, none⟩ ∧ w.cell? ⟨g, off + k, none⟩ = some (.slice ak LL[k].length ck) ∧ IAt w ak LL[k] := h.at.at hk
/-- What a call on a part leaves, over the world of the law. -/
theorem PNext.step {PA : World → Addr → Nat → (Nat → Nat) → (Nat → Prop) → Prop} {S : Nat → Prop} {u w w' : World} {p : Addr} {n b0 : Nat} {f : Nat → Nat} (h : PNext PA S w w' p n f) (hS : ∀ k, S k → b0 ≤ k) (hb : Below b0 u w) (h0 : b0 ≤ w.heap.size) :
    ∃ S', PA w' p n f S' ∧ (∀ k, S' k → b0 ≤ k) ∧ Below b0 u w' ∧ KeptBut S w w' ∧ (∀ k, S' k → S k ∨ w.heap.size ≤ k) := by
  obtain ⟨S', h1, h2, h3⟩ := h
  exact ⟨S', h1, fun k hk => (h2 k hk).elim (hS k) (fun e => by omega), hb.trans (h3.below h0 (fun k _ e => hS k e)), h3, h2⟩

end Go.Proofs.Ytccbheijfnodjaa
namespace Go.Proofs.Ytccbheijfnodjaa
open Go.RowKit Go.Lib

/-- A part of the program's: a variable with a row of leads, and how many classes there are. -/
structure LAt (w : World) (b g n : Nat) (L : Nat → Nat) (c : Nat) : Prop where
  box : w.cell? ⟨b, 0, none⟩ = some (.slice (some ⟨g, 0, none⟩) n n)
  cnt : w.cell? ⟨b, 1, none⟩ = some (.int .i64 c) ∧ w.frozen? ⟨b, 1, none⟩ = false
  row : Row1 w g n (fun i => (L i : Int))
  ne : g ≠ b
theorem LAt.kept {S : Nat → Prop} {w w' : World} {b g n : Nat} {L : Nat → Nat} {c : Nat} (h : LAt w b g n L c) (hk : KeptBut S w w') (hb : ¬ S b) (hg : ¬ S g) : LAt w' b g n L c := by
  have hlt := block_lt_of_cell h.box
  refine ⟨(hk.cell (p := ⟨b, 0, none⟩) hlt hb).trans h.box, ⟨(hk.cell (p := ⟨b, 1, none⟩) hlt hb).trans h.cnt.1, (hk.frozen (p := ⟨b, 1, none⟩) hlt hb).trans h.cnt.2⟩, ?_, h.ne⟩
  exact ⟨Nat.lt_of_lt_of_le h.row.1 hk.size, fun j hj => ⟨(hk.cell (p := ⟨g, j, none⟩) h.row.1 hg).trans (h.row.2 j hj).1, (hk.frozen (p := ⟨g, j, none⟩) h.row.1 hg).trans (h.row.2 j hj).2⟩⟩
theorem LAt.put {w : World} {b g n : Nat} {L : Nat → Nat} {c : Nat} (h : LAt w b g n L c) {i : Nat} (hi : i < n) (x : Nat) : LAt (w.setCell ⟨g, i, none⟩ (.int .i64 x)) b g n (fun j => if j = i then x else L j) c := by
  have ho : ∀ q, (w.setCell ⟨g, i, none⟩ (.int .i64 x)).cell? ⟨b, q, none⟩ = w.cell? ⟨b, q, none⟩ := fun q => World.cell?_setCell_other _ _ _ _ (fun e => h.ne (congrArg Addr.block e))
  exact ⟨(ho 0).trans h.box, ⟨(ho 1).trans h.cnt.1, by rw [World.frozen?_setCell]; exact h.cnt.2⟩, (h.row.put hi (x : Int)).congr (fun j _ => by by_cases e : j = i <;> simp [e]), h.ne⟩
theorem LAt.congr {w : World} {b g n : Nat} {L L' : Nat → Nat} {c : Nat} (h : LAt w b g n L c) (e : ∀ j, j < n → L j = L' j) : LAt w b g n L' c := ⟨h.box, h.cnt, h.row.congr (fun j hj => by rw [e j hj]), h.ne⟩
theorem LAt.at {w : World} {b g n : Nat} {L : Nat → Nat} {c : Nat} (h : LAt w b g n L c) {k : Nat} (hk : k < n) : w.cell? ⟨g, k, none⟩ = some (.int .i64 (L k)) ∧ w.frozen? ⟨g, k, none⟩ = false := h.row.2 k hk
theorem LAt.drew {w : World} {b g n : Nat} {L : Nat → Nat} {c : Nat} (h : LAt w b g n L c) : LAt w.drew b g n L c := ⟨h.box, h.cnt, h.row, h.ne⟩

/-- A part of the program's with its classes f, and who stands for each. -/
def PX (w : World) (b g n : Nat) (f rt : Nat → Nat) (c : Nat) : Prop := ∃ L rk, LAt w b g n L c ∧ Leads n f L rk ∧ Tops n f L rt
theorem PX.kept {S : Nat → Prop} {w w' : World} {b g n : Nat} {f rt : Nat → Nat} {c : Nat} (h : PX w b g n f rt c) (hk : KeptBut S w w') (hb : ¬ S b) (hg : ¬ S g) : PX w' b g n f rt c := by
  obtain ⟨L, rk, h1, h2, h3⟩ := h
  exact ⟨L, rk, h1.kept hk hb hg, h2, h3⟩
/-- What head leaves. -/
def HeadIs (b g n : Nat) (f rt : Nat → Nat) (c : Nat) (w w' : World) : Prop := PX w' b g n f rt c ∧ KeptBut (fun k => k = g) w w' ∧ w'.heap.size = w.heap.size

set_option maxHeartbeats 400000 in
theorem has_p (b : Nat) (a : Option Addr) (n cap : Nat) (x : Int) (r : Bool) (w : World) (c0 : w.cell? ⟨b, 0, none⟩ = some (.slice a n cap)) (hr : r = decide (0 ≤ x ∧ x < n)) :
    Calls Try.prog 66 #[.pointer (some ⟨b, 0, none⟩), .int .i64 x] w fun e w' => e = .returned (.bool r) ∧ w' = w := by
  by_cases h : 0 ≤ x
  · by_cases h2 : x < n
    · rw [decide_eq_true (by omega)] at hr
      subst hr
      go_enter Try.func66, Try.ntmps66
      go_wp2
      go_ret
      exact ⟨rfl, rfl⟩
    · rw [decide_eq_false (by omega)] at hr
      subst hr
      go_enter Try.func66, Try.ntmps66
      go_wp2
      go_ret
      exact ⟨rfl, rfl⟩
  · rw [decide_eq_false (by omega)] at hr
    subst hr
    go_enter Try.func66, Try.ntmps66
    go_wp2
    go_ret
    exact ⟨rfl, rfl⟩

set_option maxHeartbeats 2000000 in
set_option maxRecDepth 100000 in
theorem head_any (b g n : Nat) (f rt : Nat → Nat) (c a : Nat) (w : World) (ha : a < n) (h : PX w b g n f rt c) :
    Calls Try.prog 67 #[.pointer (some ⟨b, 0, none⟩), .int .i64 a] w fun e w' => e = .returned (.int .i64 (rt a)) ∧ HeadIs b g n f rt c w w' := by
  obtain ⟨L0, rk, hL0, hl0, ht0⟩ := h
  have H0 := hid (show LAt w b g n L0 c ∧ Leads n f L0 rk ∧ Tops n f L0 rt from ⟨hL0, hl0, ht0⟩)
  clear hL0 hl0 ht0
  go_enter Try.func67, Try.ntmps67
  go_wp2
  go_loopg [1] (rk a) (fun G i wz => ∃ (k : Nat) (L : Nat → Nat), k < n ∧ i = .int .i64 k ∧ Hid (rk k ≤ G) ∧ Hid (f k = f a) ∧ Hid (LAt wz b g n L c ∧ Leads n f L rk ∧ Tops n f L rt) ∧ Hid (KeptBut (fun k => k = g) w wz ∧ wz.heap.size = w.heap.size))
  case atStart => exact ⟨a, L0, ha, rfl, Nat.le_refl _, rfl, H0, KeptBut.refl _ _, rfl⟩
  case round =>
    obtain ⟨k, L, hk, rfl, hG, hf, hL, hkp⟩ := hrel
    have c0 := hL.out.1.box
    obtain ⟨ck, fk⟩ := hL.out.1.at hk
    obtain ⟨l, hl⟩ := ex_eq (L k)
    rw [← hl] at ck
    have hln : l < n := by rw [hl]; exact hL.out.2.1.lt k hk
    have q1 : (k : Int) < (n : Int) := by omega
    have q2 : (l : Int) < (n : Int) := by omega
    by_cases he : l = k
    · have HT : Hid ((k : Int) = (rt a : Nat)) := by
        show (k : Int) = (rt a : Nat)
        rw [hL.out.2.2.at hL.out.2.1 ha hk (hl.symm.trans he) hf.out]
      subst he
      have HX : Hid (HeadIs b g n f rt c w wr) := ⟨⟨L, rk, hL.out⟩, hkp.out.1, hkp.out.2⟩
      clear hl hG hf hL hkp
      go_wp2
      go_ret
      exact ⟨by rw [HT.out]; rfl, HX.out⟩
    · have he2 : ((l : Int) == (k : Int)) = false := beq_eq_false_iff_ne.2 (by omega)
      obtain ⟨m, hm⟩ := ex_eq (L l)
      have cl := (hL.out.1.at hln).1
      rw [← hm] at cl
      have hmn : m < n := by rw [hm]; exact hL.out.2.1.lt l hln
      have hdn := hL.out.2.1.down k hk (by rw [← hl]; exact he)
      have hh := hL.out.2.1.halve hk (by rw [← hl]; exact he)
      rw [← hl, ← hm] at hh
      have hrk : Hid (rk m < rk k) := by
        show rk m < rk k
        by_cases e : m = l
        · rw [e, hl]; exact hdn
        · have := hL.out.2.1.down l hln (by rw [← hm]; exact e); rw [← hm] at this; rw [← hl] at hdn; omega
      obtain ⟨W, hW⟩ := ex_eq (wr.setCell ⟨g, k, none⟩ (.int .i64 m)).drew
      have HNX : Hid (LAt W b g n (fun j => if j = k then m else L j) c ∧ Leads n f (fun j => if j = k then m else L j) rk ∧ Tops n f (fun j => if j = k then m else L j) rt) := by
        refine ⟨by rw [hW]; exact (hL.out.1.put hk m).drew, hh.1, fun x hx => ⟨(hL.out.2.2 x hx).1, hh.2 _ (hL.out.2.2 x hx).2.1, (hL.out.2.2 x hx).2.2⟩⟩
      have HFX : Hid (f m = f a) := by show f m = f a; rw [hm, hL.out.2.1.cls l hln, hl, hL.out.2.1.cls k hk, hf.out]
      have HKX : Hid (KeptBut (fun k => k = g) w W ∧ W.heap.size = w.heap.size) := by
        refine ⟨(hkp.out.1.trans (kept_set wr ⟨g, k, none⟩ (.int .i64 m))).trans (by rw [hW]; exact KeptBut.of_whole _ (Below.refl _ _).drew), ?_⟩
        rw [hW]; exact (by simp : (wr.setCell ⟨g, k, none⟩ (.int .i64 m)).heap.size = wr.heap.size).trans hkp.out.2
      have HW := hid hW
      have d0 := HNX.out.1.box
      have dk : W.cell? ⟨g, k, none⟩ = some (.int .i64 m) := by
        have := (HNX.out.1.at hk).1
        rw [if_pos rfl] at this
        exact this
      clear hl hm hf hL hkp hh hdn hW
      go_wp2_with fail
      go_region
      all_goals
        rw [← HW.out]
        go_wp2
        go_roundg (rk m)
        case measure => exact Nat.lt_of_lt_of_le hrk.out hG.out
        case rel => exact ⟨m, _, hmn, rfl, Nat.le_refl _, HFX, HNX, HKX⟩
end Go.Proofs.Ytccbheijfnodjaa
