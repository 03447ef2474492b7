/-
  append onto a row of the call's own, of a slice that may be nil: as a step of a region that draws its order, and in a plain one.
  A step through a region that draws its order, its guards decided ahead.
  Numbers that belong to classes: each number has the least one of its class. No program is named here.
  The document's parts (layer 4) in memory: New, Is, Same, Count, Join.
  Lists of rows in memory; the document's SameRows.
  The document's Induced (layer 6).
  Rings: the ways round, and the least of them. No program is named here.
  What the laws of layer 5 ask of the program's walks: a row of contracts.
-/
import Derived.Test.YtagigeieoijciaaB04
import Derived.Test.YtagigeieoijciaaB06
import Derived.Laws.AppendOwnNone
import Derived.Deep.RegionHeld3
import Derived.Test.YtagigeieoijciaaRows
import Derived.Test.YtagigeieoijciaaB05
import Derived.Deep.LoopGhost
import Derived.BigQuiet
namespace Go.Proofs.Ytagigeieoijciaa
open Go.RowKit Go.Lib

theorem grown_refl (w : World) (r : Option Nat) : w.grownBy w r := ⟨rfl, rfl, rfl, Nat.le_refl _, fun _ _ _ => rfl⟩

theorem wp_append_any {P : Program} (w : World) {o : Oper} {a : Act} {K : Act → World → Prop} {Q : Exit → Act → World → Prop} (s x : Operand) (t : TypeId)
    (ho : o.op = .call { callee := .builtin .append, args := #[s, x], argTypes := #[t, t] })
    (base : Nat) (e : TypeId) (i : TypeInfo) (z : Value) (size bytes : Nat) (ht : P.underlying t = some (.slice e)) (hi : P.info? e = some i) (hz : i.zero = some z)
    (hsize : i.size = size) (hby : i.bytes = bytes) (hzs : z.cells.size = size) (hsz : 0 < size)
    (v : Value) (n : Nat) (xs : List Value) (hs : a.eval s = v) (hown : w.ownsRow base e size v n xs)
    (ad : Option Addr) (m c : Nat) (news : List Value) (hx : a.eval x = .slice ad m c) (hnil : ad = none → m = 0 ∧ c = 0) (hl : news.length = m * size) (hnews : ∀ p, ad = some p → ∀ j u, news[j]? = some u → w.cell? (p.add j) = some u) (h1 : ∀ u ∈ news, u.oneCell' = true)
    (h63 : n + m ≤ maxLen) (hbytes : (n + m) * bytes ≤ 140737488355328) (hbase : base ≤ w.heap.size)
    (h : ∀ v' w', w'.ownsRow base e size v' (n + m) (xs ++ news) → w.grownBy w' v.ownBlock → (v'.ownBlock = v.ownBlock ∨ v'.ownBlock = some w.heap.size) → K (a.put o.dst v') w') : o.wp P a w K Q := by
  cases ad with
  | none =>
    obtain ⟨rfl, rfl⟩ := hnil rfl
    obtain rfl : news = [] := List.eq_nil_of_length_eq_zero (by omega)
    have hrun := run_append_owned_none (P := P) (w := w) base t o.type e i size ht hi v n xs hown
    unfold Oper.wp
    simp [execOp, ho, resolve, invoke, builtin, hs, hx, hrun, Result.andThen]
    exact h v w (by simpa using hown) (grown_refl _ _) (Or.inl rfl)
  | some p =>
    obtain ⟨v', w', hr, h2, h3, _, h5⟩ := run_append_own_at (P := P) w base t o.type e i z size bytes ht hi hz hsize hby hzs hsz v n xs hown p m c news hl (hnews p rfl) h1 h63 hbytes hbase
    unfold Oper.wp execOp
    simp only [ho, resolve, invoke, builtin, Sem.run_bind, Sem.run_pure, Result.andThen_ok, List.map_toArray, List.map_cons, List.map_nil, hs, hx, hr]
    exact h v' w' h2 h3 h5

theorem step_append_any {P : Program} (w : World) {ops : Array Oper} {o : Oper} {a : Act} {K : Act → World → Prop} {Q : Exit → Act → World → Prop} {E : Prop} (hgd : o.guard = none) (s x : Operand) (t : TypeId)
    (ho : o.op = .call { callee := .builtin .append, args := #[s, x], argTypes := #[t, t] })
    (base : Nat) (e : TypeId) (i : TypeInfo) (z : Value) (size bytes : Nat) (ht : P.underlying t = some (.slice e)) (hi : P.info? e = some i) (hz : i.zero = some z)
    (hsize : i.size = size) (hby : i.bytes = bytes) (hzs : z.cells.size = size) (hsz : 0 < size)
    (v : Value) (n : Nat) (xs : List Value) (hs : a.eval s = v) (hown : w.ownsRow base e size v n xs)
    (ad : Option Addr) (m c : Nat) (news : List Value) (hx : a.eval x = .slice ad m c) (hnil : ad = none → m = 0 ∧ c = 0) (hl : news.length = m * size) (hnews : ∀ p, ad = some p → ∀ j u, news[j]? = some u → w.cell? (p.add j) = some u) (h1 : ∀ u ∈ news, u.oneCell' = true)
    (h63 : n + m ≤ maxLen) (hbytes : (n + m) * bytes ≤ 140737488355328) (hbase : base ≤ w.heap.size)
    (h : ∀ v' w', w'.ownsRow base e size v' (n + m) (xs ++ news) → w.grownBy w' v.ownBlock → (v'.ownBlock = v.ownBlock ∨ v'.ownBlock = some w.heap.size) → K (a.put o.dst v') w') :
    if Region.wanted o (yielded ops a.tmps) = true then Oper.wp P o a w K Q else E := by
  have hw : Region.wanted o (yielded ops a.tmps) = true := by simp [Region.wanted, hgd]
  rw [if_pos hw]
  exact wp_append_any w s x t ho base e i z size bytes ht hi hz hsize hby hzs hsz v n xs hs hown ad m c news hx hnil hl hnews h1 h63 hbytes hbase h

theorem EAt.newsO {w : World} {a : Option Addr} {es : List (Int × Int)} (h : EAt w a es) : ∀ p, a = some p → ∀ j u, (cellsE es)[j]? = some u → w.cell? (p.add j) = some u := fun p hp => by
  subst hp; exact h.news
/-- Edges do not lie in a graph's own variable. -/
theorem eat_off_box {w : World} {B : Nat} {n : Int} {sa : Option Addr} {sl sc : Nat} {T : TypeId} {fr : Nat × Nat} {a : Option Addr} {ys : List (Int × Int)} (hB : w.heap[B]? = some (.cells #[.int .i64 n, .slice sa sl sc] T fr)) (h : EAt w a ys) : ∀ g off, 0 < ys.length → a = some ⟨g, off, none⟩ → g ≠ B := fun g off h0 ha e => by
  subst e
  obtain ⟨g', off', ha', _, hc⟩ := h h0
  rw [ha] at ha'
  simp only [Option.some.injEq, Addr.mk.injEq, and_true] at ha'
  obtain ⟨rfl, rfl⟩ := ha'
  have h1 := (hc 0 h0).1
  have h2 := (hc 0 h0).2
  rw [cell_of_heap hB] at h1 h2
  match off, h1, h2 with
  | 0, h1, h2 => simp at h2
  | 1, h1, h2 => simp at h1
  | k + 2, h1, h2 => simp at h1
theorem hid2 {p q : Prop} (h : p) (h' : q) : p ∧ q := ⟨h, h'⟩
end Go.Proofs.Ytagigeieoijciaa
namespace Go.Proofs.Ytagigeieoijciaa
open Go.RowKit Go.Lib

theorem takeW {P : Program} {ops : Array Oper} {Q : Exit → Act → World → Prop} {md : Region.Mode} {S : World → Prop} {i : Nat} {oi : Oper} {dst : Option Tmp} {v : Value} {fuel : Nat} {listed : Array Bool} {a : Act} {w : World} (hi : ops[i]? = some oi) (hd : oi.dst = dst)
    (hs : Region.noSelect ops = true) (hf : Region.free md ops listed i = true) (hr : (Region.ready md ops listed).contains i = true)
    (hQ : ∀ c a w, Q (.panic c) (a.put dst v) w → Q (.panic c) a w) (hy : YieldsIf P ops S oi v a) (hS : S w)
    (h : wpAnyH P md ops Q S fuel (listed.setIfInBounds i true) (a.put dst v) w) : wpAnyH P md ops Q S (fuel + 1) listed a w := by
  subst hd
  exact wpAnyH_take hi hs hf hr hQ hy hS h
end Go.Proofs.Ytagigeieoijciaa
namespace Go.Proofs.Ytagigeieoijciaa

/-- Each of the numbers below n has the least one of its class. -/
structure Pt (n : Nat) (f : Nat → Nat) : Prop where
  le : ∀ i, i < n → f i ≤ i
  idem : ∀ i, i < n → f (f i) = f i
theorem Pt.lt {n : Nat} {f : Nat → Nat} (h : Pt n f) {i : Nat} (hi : i < n) : f i < n := Nat.lt_of_le_of_lt (h.le i hi) hi
theorem Pt.congr {n : Nat} {f g : Nat → Nat} (h : Pt n f) (e : ∀ i, i < n → f i = g i) : Pt n g :=
  ⟨fun i hi => by rw [← e i hi]; exact h.le i hi, fun i hi => by rw [← e i hi, ← e (f i) (h.lt hi)]; exact h.idem i hi⟩
/-- Belonging together by pairs: the least relation of that kind. -/
def Cl (P : List (Nat × Nat)) (a b : Nat) : Prop :=
  ∀ R : Nat → Nat → Prop, (∀ x, R x x) → (∀ x y, R x y → R y x) → (∀ x y z, R x y → R y z → R x z) → (∀ e ∈ P, R e.1 e.2) → R a b
theorem Cl.refl (P : List (Nat × Nat)) (a : Nat) : Cl P a a := fun _ h _ _ _ => h a
theorem Cl.symm {P : List (Nat × Nat)} {a b : Nat} (h : Cl P a b) : Cl P b a := fun R r s t p => s _ _ (h R r s t p)
theorem Cl.trans {P : List (Nat × Nat)} {a b c : Nat} (h : Cl P a b) (k : Cl P b c) : Cl P a c := fun R r s t p => t _ _ _ (h R r s t p) (k R r s t p)
theorem Cl.of {P : List (Nat × Nat)} {e : Nat × Nat} (h : e ∈ P) : Cl P e.1 e.2 := fun _ _ _ _ p => p e h
theorem Cl.mono {P Q : List (Nat × Nat)} {a b : Nat} (h : Cl P a b) (hs : ∀ e ∈ P, Cl Q e.1 e.2) : Cl Q a b :=
  h (Cl Q) (Cl.refl Q) (fun _ _ => Cl.symm) (fun _ _ _ => Cl.trans) hs
end Go.Proofs.Ytagigeieoijciaa
namespace Go.Proofs.Ytagigeieoijciaa
open Go.RowKit Go.Lib

/-- All blocks that were there are as they were, but for some. -/
structure KeptBut (S : Nat → Prop) (w w' : World) : Prop where
  os : w'.os = w.os
  tape : w'.tape = w.tape
  output : w'.output = w.output
  size : w.heap.size ≤ w'.heap.size
  block : ∀ k, k < w.heap.size → ¬ S k → w'.heap[k]? = w.heap[k]?
theorem KeptBut.refl (S : Nat → Prop) (w : World) : KeptBut S w w := ⟨rfl, rfl, rfl, Nat.le_refl _, fun _ _ _ => rfl⟩
theorem KeptBut.trans {S : Nat → Prop} {a b c : World} (h : KeptBut S a b) (k : KeptBut S b c) : KeptBut S a c :=
  ⟨k.os.trans h.os, k.tape.trans h.tape, k.output.trans h.output, Nat.le_trans h.size k.size, fun i hi hs => (k.block i (Nat.lt_of_lt_of_le hi h.size) hs).trans (h.block i hi hs)⟩
theorem KeptBut.mono {S S' : Nat → Prop} {a b : World} (h : KeptBut S a b) (hs : ∀ k, k < a.heap.size → S k → S' k) : KeptBut S' a b := ⟨h.os, h.tape, h.output, h.size, fun k hk hn => h.block k hk (fun e => hn (hs k hk e))⟩
theorem KeptBut.of_below {B : Nat} {a b : World} (h : Below B a b) : KeptBut (fun k => B ≤ k) a b := ⟨h.os, h.tape, h.output, h.size, fun k _ hn => h.block k (by omega)⟩
theorem KeptBut.below {S : Nat → Prop} {B : Nat} {a b : World} (h : KeptBut S a b) (hB : B ≤ a.heap.size) (hs : ∀ k, k < a.heap.size → S k → B ≤ k) : Below B a b := ⟨h.os, h.tape, h.output, h.size, fun k hk => h.block k (by omega) (fun e => by have := hs k (by omega) e; omega)⟩
theorem KeptBut.cell {S : Nat → Prop} {w w' : World} (h : KeptBut S w w') {p : Addr} (hp : p.block < w.heap.size) (hs : ¬ S p.block) : w'.cell? p = w.cell? p := World.cell?_of_block (w := w) (h.block p.block hp hs)
theorem KeptBut.frozen {S : Nat → Prop} {w w' : World} (h : KeptBut S w w') {p : Addr} (hp : p.block < w.heap.size) (hs : ¬ S p.block) : w'.frozen? p = w.frozen? p := World.frozen?_of_block (w := w) (h.block p.block hp hs)

/-- The numbers 0 to n-1, as cells. -/
def upto (n : Nat) : List Int := (List.range n).map (fun i : Nat => (i : Int))
theorem upto_len (n : Nat) : (upto n).length = n := by simp [upto]
theorem sl_own {w : World} {base : Nat} {e : TypeId} {size : Nat} {v : Value} {n : Nat} {xs : List Value} (h : w.ownsRow base e size v n xs) : ∃ a cap, v = .slice a n cap ∧ Sl a cap n := by
  rcases h.2 with ⟨hv, h0⟩ | ⟨g, cap, cur, hv, _, _, hc, _⟩
  · exact ⟨none, 0, by rw [hv, h0], by rw [h0]; exact sl_nil⟩
  · exact ⟨_, cap, hv, sl_some hc⟩
/-- A part of the document's: a variable with a row of the least numbers. -/
structure QAt (w : World) (b g : Nat) (a : Option Addr) (n cap : Nat) (f : Nat → Nat) : Prop where
  box : w.cell? ⟨b, 0, none⟩ = some (.slice a n cap)
  row : 0 < n → a = some ⟨g, 0, none⟩ ∧ Row1 w g n (fun i => (f i : Int))
  ne : g ≠ b
theorem QAt.kept {S : Nat → Prop} {w w' : World} {b g : Nat} {a : Option Addr} {n cap : Nat} {f : Nat → Nat} (h : QAt w b g a n cap f) (hk : KeptBut S w w') (hb : ¬ S b) (hg : 0 < n → ¬ S g) : QAt w' b g a n cap f := by
  refine ⟨(hk.cell (p := ⟨b, 0, none⟩) (block_lt_of_cell h.box) hb).trans h.box, fun h0 => ?_, h.ne⟩
  obtain ⟨ha, hr⟩ := h.row h0
  exact ⟨ha, Nat.lt_of_lt_of_le hr.1 hk.size, fun j hj => ⟨(hk.cell (p := ⟨g, j, none⟩) hr.1 (hg h0)).trans (hr.2 j hj).1, (hk.frozen (p := ⟨g, j, none⟩) hr.1 (hg h0)).trans (hr.2 j hj).2⟩⟩
theorem QAt.below {w w' : World} {b g : Nat} {a : Option Addr} {n cap : Nat} {f : Nat → Nat} (h : QAt w b g a n cap f) (hk : Below w.heap.size w w') : QAt w' b g a n cap f := by
  refine ⟨(hk.cell (p := ⟨b, 0, none⟩) (block_lt_of_cell h.box)).trans h.box, fun h0 => ?_, h.ne⟩
  obtain ⟨ha, hr⟩ := h.row h0
  exact ⟨ha, Nat.lt_of_lt_of_le hr.1 hk.size, fun j hj => ⟨(hk.cell (p := ⟨g, j, none⟩) hr.1).trans (hr.2 j hj).1, (hk.frozen (p := ⟨g, j, none⟩) hr.1).trans (hr.2 j hj).2⟩⟩
theorem QAt.iat {w : World} {b g : Nat} {a : Option Addr} {n cap : Nat} {f : Nat → Nat} (h : QAt w b g a n cap f) {i : Nat} (hi : i < n) : a = some ⟨g, 0, none⟩ ∧ w.cell? ⟨g, i, none⟩ = some (.int .i64 (f i)) ∧ w.frozen? ⟨g, i, none⟩ = false :=
  ⟨(h.row (by omega)).1, ((h.row (by omega)).2.2 i hi).1, ((h.row (by omega)).2.2 i hi).2⟩

end Go.Proofs.Ytagigeieoijciaa
namespace Go.Proofs.Ytagigeieoijciaa
open Go.RowKit Go.Lib

theorem KeptBut.of_grown {w w' : World} {row : Option Nat} (hg : w.grownBy w' row) : KeptBut (fun k => some k = row) w w' := ⟨hg.os, hg.tape, hg.output, hg.size, fun k hk hn => hg.block k hk hn⟩
theorem kept_alloc (w : World) (o : Obj) (S : Nat → Prop) : KeptBut S w (w.alloc o) := (KeptBut.of_below ((Below.refl w.heap.size w).alloc (Nat.le_refl _) o)).mono (fun k hk hs => absurd hs (by omega))
theorem KeptBut.of_whole {w w' : World} (S : Nat → Prop) (h : Below w.heap.size w w') : KeptBut S w w' := (KeptBut.of_below h).mono (fun k hk hs => absurd hs (by omega))
theorem IAt.kept {S : Nat → Prop} {w w' : World} {a : Option Addr} {xs : List Int} (h : IAt w a xs) (hk : KeptBut S w w') (hs : ∀ g off, a = some ⟨g, off, none⟩ → 0 < xs.length → ¬ S g) : IAt w' a xs := fun h0 => by
  obtain ⟨g, off, ha, hg, hc⟩ := h h0
  exact ⟨g, off, ha, Nat.lt_of_lt_of_le hg hk.size, fun k hk' => (hk.cell (p := ⟨g, off + k, none⟩) hg (hs g off ha h0)).trans (hc k hk')⟩
theorem own_kept {S : Nat → Prop} {w w' : World} {base : Nat} {e : TypeId} {size : Nat} {v : Value} {n : Nat} {xs : List Value} (h : w.ownsRow base e size v n xs) (hk : KeptBut S w w') (hs : ∀ g, v.ownBlock = some g → ¬ S g) : w'.ownsRow base e size v n xs := by
  refine ⟨h.1, ?_⟩
  rcases h.2 with h2 | ⟨g, cap, cur, hv, hg, hgc, r⟩
  · exact Or.inl h2
  · exact Or.inr ⟨g, cap, cur, hv, hg, (hk.block g (Array.getElem?_eq_some_iff.1 hgc).1 (hs g (by rw [hv]; rfl))).trans hgc, r⟩

/-- A list of rows in memory. -/
def LLAt (w : World) (a : Option Addr) (LL : List (List Int)) : Prop :=
  0 < LL.length → ∃ g off, a = some ⟨g, off, none⟩ ∧ g < w.heap.size ∧ ∀ k (hk : k < LL.length), ∃ ak ck, w.cell? ⟨g, off + k, none⟩ = some (.slice ak LL[k].length ck) ∧ IAt w ak LL[k]
theorem LLAt.below {w w' : World} {a : Option Addr} {LL : List (List Int)} (h : LLAt w a LL) (hb : Below w.heap.size w w') : LLAt w' a LL := fun h0 => by
  obtain ⟨g, off, ha, hg, hc⟩ := h h0
  refine ⟨g, off, ha, Nat.lt_of_lt_of_le hg hb.size, fun k hk => ?_⟩
  obtain ⟨ak, ck, h1, h2⟩ := hc k hk
  exact ⟨ak, ck, (hb.cell (p := ⟨g, off + k, none⟩) hg).trans h1, h2.below hb⟩
theorem LLAt.at {w : World} {a : Option Addr} {LL : List (List Int)} (h : LLAt w a LL) {k : Nat} (hk : k < LL.length) : ∃ g off ak ck, a = some ⟨g, off, none⟩ ∧ w.cell? ⟨g, off + k, none⟩ = some (.slice ak LL[k].length ck) ∧ IAt w ak LL[k] := by
  obtain ⟨g, off, ha, hg, hc⟩ := h (by omega)
  obtain ⟨ak, ck, h1, h2⟩ := hc k hk
  exact ⟨g, off, ak, ck, ha, h1, h2⟩

/-- A list of rows of the call's own: the headers in one block, the rows in others, all of them in blocks of A. -/
def LLOwn (w : World) (base : Nat) (A : Nat → Prop) (v : Value) (us : List Value) (LL : List (List Int)) : Prop :=
  w.ownsRow base 25 1 v LL.length us ∧ us.length = LL.length ∧ (∀ g, v.ownBlock = some g → A g) ∧
    ∀ k (hk : k < LL.length), ∃ ak ck, us[k]? = some (.slice ak LL[k].length ck) ∧ IAt w ak LL[k] ∧ ∀ g off, ak = some ⟨g, off, none⟩ → 0 < LL[k].length → A g ∧ v.ownBlock ≠ some g
theorem LLOwn.kept {S A : Nat → Prop} {w w' : World} {base : Nat} {v : Value} {us : List Value} {LL : List (List Int)} (h : LLOwn w base A v us LL) (hk : KeptBut S w w') (hs : ∀ k, A k → k < w.heap.size → ¬ S k) : LLOwn w' base A v us LL := by
  refine ⟨own_kept h.1 hk (fun g hg => hs g (h.2.2.1 g hg) (h.1.lt g hg).2), h.2.1, h.2.2.1, fun k hk' => ?_⟩
  obtain ⟨ak, ck, h1, h2, h3⟩ := h.2.2.2 k hk'
  exact ⟨ak, ck, h1, h2.kept hk (fun g off ha h0 => hs g (h3 g off ha h0).1 (by
    obtain ⟨g', off', ha', hg', _⟩ := h2 h0
    rw [ha] at ha'
    cases ha'
    exact hg')), h3⟩
theorem LLOwn.below {A : Nat → Prop} {w w' : World} {base : Nat} {v : Value} {us : List Value} {LL : List (List Int)} (h : LLOwn w base A v us LL) (hb : Below w.heap.size w w') : LLOwn w' base A v us LL :=
  h.kept (KeptBut.of_whole (fun _ => False) hb) (fun _ _ _ e => e)
theorem LLOwn.put {A : Nat → Prop} {w w4 : World} {base : Nat} {v v4 : Value} {us : List Value} {LL : List (List Int)} {L : List Int} {ar : Option Addr} {cr : Nat} {X : Obj} (h : LLOwn w base A v us LL) (hI : IAt w ar L)
    (hA : ∀ g off, ar = some ⟨g, off, none⟩ → 0 < L.length → A g ∧ v.ownBlock ≠ some g) (hnew : A (w.alloc X).heap.size)
    (ho : w4.ownsRow base 25 1 v4 (LL.length + 1) (us ++ [.slice ar L.length cr])) (hg : (w.alloc X).grownBy w4 v.ownBlock) (hat : v4.ownBlock = v.ownBlock ∨ v4.ownBlock = some (w.alloc X).heap.size) :
    LLOwn w4 base A v4 (us ++ [.slice ar L.length cr]) (LL ++ [L]) := by
  have hk : KeptBut (fun k => some k = v.ownBlock) w w4 := (kept_alloc w X _).trans (KeptBut.of_grown hg)
  have hs : (w.alloc X).heap.size = w.heap.size + 1 := by simp
  have hne : ∀ g, g < w.heap.size → v.ownBlock ≠ some g → v4.ownBlock ≠ some g := fun g h1 h2 e => by
    rcases hat with h3 | h3
    · exact h2 (h3.symm.trans e)
    · rw [h3, hs] at e; simp only [Option.some.injEq] at e; omega
  refine ⟨by rw [List.length_append]; exact ho, by simp [h.2.1], fun g e => ?_, fun k hk' => ?_⟩
  · rcases hat with h3 | h3
    · exact h.2.2.1 g (h3.symm.trans e)
    · rw [h3] at e; simp only [Option.some.injEq] at e; rw [← e]; exact hnew
  · by_cases hlt : k < LL.length
    · obtain ⟨ak, ck, h1, h2, h3⟩ := h.2.2.2 k hlt
      have e1 : (LL ++ [L])[k] = LL[k] := List.getElem_append_left hlt
      rw [e1]
      refine ⟨ak, ck, by rw [List.getElem?_append_left (by rw [h.2.1]; exact hlt)]; exact h1, h2.kept hk (fun g off ha h0 e => (h3 g off ha h0).2 e.symm), fun g off ha h0 => ⟨(h3 g off ha h0).1, hne g ?_ (h3 g off ha h0).2⟩⟩
      obtain ⟨g', off', ha', hg', _⟩ := h2 h0
      rw [ha] at ha'
      cases ha'
      exact hg'
    · obtain rfl : k = LL.length := by simp at hk'; omega
      have e1 : (LL ++ [L])[LL.length] = L := by simp
      rw [e1]
      refine ⟨ar, cr, by rw [← h.2.1]; simp, hI.kept hk (fun g off ha h0 e => (hA g off ha h0).2 e.symm), fun g off ha h0 => ⟨(hA g off ha h0).1, hne g ?_ (hA g off ha h0).2⟩⟩
      obtain ⟨g', off', ha', hg', _⟩ := hI h0
      rw [ha] at ha'
      cases ha'
      exact hg'
theorem LLOwn.at {A : Nat → Prop} {w : World} {base : Nat} {v : Value} {us : List Value} {LL : List (List Int)} (h : LLOwn w base A v us LL) : ∃ a cap, v = .slice a LL.length cap ∧ Sl a cap LL.length ∧ LLAt w a LL := by
  obtain ⟨a, cap, hv, hsl⟩ := sl_own h.1
  refine ⟨a, cap, hv, hsl, fun h0 => ?_⟩
  obtain ⟨g, cap', hv', hb, hg, hc, hcs⟩ := own_row h.1 h0
  rw [hv] at hv'
  simp only [Value.slice.injEq, true_and] at hv'
  refine ⟨g, 0, hv'.1, hg, fun k hk => ?_⟩
  obtain ⟨ak, ck, h1, h2, _⟩ := h.2.2.2 k hk
  exact ⟨ak, ck, by rw [Nat.zero_add]; exact hcs k _ h1, h2⟩

theorem boolR_of (p : Prop) : ∃ r : Bool, r = true ↔ p := by
  by_cases h : p
  · exact ⟨true, ⟨fun _ => h, fun _ => rfl⟩⟩
  · exact ⟨false, ⟨fun h' => (by cases h'), fun h' => absurd h' h⟩⟩
end Go.Proofs.Ytagigeieoijciaa
namespace Go.Proofs.Ytagigeieoijciaa
open Go.RowKit Go.Lib

/-- What a call of layer 6 tells. -/
def SubTold (S : Int → Int → List (Int × Int) → Prop) (w w' : World) (v : Value) : Prop := ∃ er N E a' cap', v = .tuple #[.agg #[.int .i64 N, .slice a' E.length cap'], .int .i64 er] ∧ S er N E ∧ Sl a' cap' E.length ∧ EAt w' a' E ∧ Below w.heap.size w w'
theorem subTold_none {S : Int → Int → List (Int × Int) → Prop} {w w' : World} {er : Int} (h : S er 0 []) (hb : Below w.heap.size w w') : SubTold S w w' (.tuple #[.agg #[.int .i64 0, .slice none 0 0], .int .i64 er]) := ⟨er, 0, [], none, 0, rfl, h, sl_nil, eat_nil _ _, hb⟩
/-- A graph's edges are put behind each other in its variable. -/
structure EAcc (w : World) (B : Nat) (m : Int) (sv : Value) (es : List (Int × Int)) : Prop where
  box : w.heap[B]? = some (.cells #[.int .i64 m, sv] 27 (0, 0))
  own : w.ownsRow (B + 1) 40 2 sv es.length (cellsE es)
theorem EAcc.below {w w' : World} {B : Nat} {m : Int} {sv : Value} {es : List (Int × Int)} (h : EAcc w B m sv es) (hb : Below w.heap.size w w') : EAcc w' B m sv es :=
  ⟨(hb.block B (Array.getElem?_eq_some_iff.1 h.box).1).trans h.box, own_below h.own hb⟩
theorem EAcc.put {w w4 : World} {B : Nat} {m p q : Int} {sv sv' : Value} {es : List (Int × Int)} {o : Obj} (h : EAcc w B m sv es) (hg : (w.alloc o).grownBy w4 sv.ownBlock) (hown : w4.ownsRow (B + 1) 40 2 sv' (es.length + 1) (cellsE es ++ [.int .i64 p, .int .i64 q])) : EAcc (w4.setCell ⟨B, 1, none⟩ sv') B m sv' (es ++ [(p, q)]) ∧ w4.cell? ⟨B, 1, none⟩ = some sv ∧ w4.frozen? ⟨B, 1, none⟩ = false := by
  have hB : B < w.heap.size := (Array.getElem?_eq_some_iff.1 h.box).1
  have hb4 : w4.heap[B]? = some (.cells #[.int .i64 m, sv] 27 (0, 0)) := by
    rw [hg.block B (by simp; omega) (fun e => by have := (h.own.lt B e.symm).1; omega), Below.heap_alloc w _ _ hB]
    exact h.box
  refine ⟨⟨box_put hb4, ?_⟩, cell_of_heap hb4 1, frozen_of_heap hb4 1⟩
  refine own_set ?_ (by simp) _
  rw [cellsE_append, List.length_append]
  exact hown

end Go.Proofs.Ytagigeieoijciaa
namespace Go.Proofs.Ytagigeieoijciaa

/-- A ring (E3). -/
def Ring (c : List Int) : Prop := 3 ≤ c.length ∧ c.Nodup
/-- From place s on, the one way round; and the other. -/
def oneL (c : List Int) (s : Nat) : List Int := (List.range c.length).map (fun i => c.getD ((s + i) % c.length) 0)
def twoL (c : List Int) (s : Nat) : List Int := (List.range c.length).map (fun i => c.getD ((s + c.length - i) % c.length) 0)
theorem oneL_len (c : List Int) (s : Nat) : (oneL c s).length = c.length := by simp [oneL]
theorem twoL_len (c : List Int) (s : Nat) : (twoL c s).length = c.length := by simp [twoL]
theorem oneL_at {c : List Int} {s i : Nat} (h : i < (oneL c s).length) : (oneL c s)[i] = c.getD ((s + i) % c.length) 0 := by simp [oneL]
theorem twoL_at {c : List Int} {s i : Nat} (h : i < (twoL c s).length) : (twoL c s)[i] = c.getD ((s + c.length - i) % c.length) 0 := by simp [twoL]
theorem oneL_zero (c : List Int) : oneL c 0 = c := List.ext_getElem (oneL_len c 0) (fun i h1 h2 => by
  rw [oneL_at h1, Nat.zero_add, Nat.mod_eq_of_lt h2]; simp [List.getD, h2])
/-- A way round. -/
def Round (c L : List Int) : Prop := ∃ s, s < c.length ∧ (L = oneL c s ∨ L = twoL c s)
theorem Round.len {c L : List Int} (h : Round c L) : L.length = c.length := by
  obtain ⟨s, _, rfl | rfl⟩ := h
  · exact oneL_len c s
  · exact twoL_len c s
/-- Turn (E3): the least of the ways round. -/
def TurnIs (c L : List Int) : Prop := (¬ Ring c ∧ L = c) ∨ (Ring c ∧ Round c L ∧ ∀ M, Round c M → lexL M L = false)
theorem TurnIs.one {c L M : List Int} (h : TurnIs c L) (k : TurnIs c M) : L = M := by
  rcases h with ⟨h, rfl⟩ | ⟨h, h1, h2⟩
  · rcases k with ⟨_, rfl⟩ | ⟨k, _⟩
    · rfl
    · exact absurd k h
  · rcases k with ⟨k, _⟩ | ⟨_, k1, k2⟩
    · exact absurd h k
    · exact lexL_tri (k2 L h1) (h2 M k1)
theorem TurnIs.len {c L : List Int} (h : TurnIs c L) : L.length = c.length := by
  rcases h with ⟨_, rfl⟩ | ⟨_, h, _⟩
  · rfl
  · exact h.len
/-- The best so far, of the ways from the first k places on. -/
def BestTo (c B : List Int) (k : Nat) : Prop := Round c B ∧ ∀ s, s < k → lexL (oneL c s) B = false ∧ lexL (twoL c s) B = false
theorem lex_low {M A B : List Int} (h : lexL M B = false) (k : A = B ∨ lexL A B = true) : lexL M A = false := by
  rcases k with rfl | k
  · exact h
  · cases h2 : lexL M A with
    | false => rfl
    | true => rw [lexL_trans h2 k] at h; cases h
theorem BestTo.low {c A B : List Int} {k : Nat} (h : BestTo c B k) (hA : Round c A) (hk : lexL A B = true) : BestTo c A k :=
  ⟨hA, fun s hs => ⟨lex_low (h.2 s hs).1 (Or.inr hk), lex_low (h.2 s hs).2 (Or.inr hk)⟩⟩
theorem BestTo.put {c B B1 B2 : List Int} {k : Nat} (h : BestTo c B k) (hk : k < c.length) (h1 : B1 = if lexL (oneL c k) B = true then oneL c k else B) (h2 : B2 = if lexL (twoL c k) B1 = true then twoL c k else B1) : BestTo c B2 (k + 1) := by
  have a1 : BestTo c B1 k ∧ lexL (oneL c k) B1 = false := by
    by_cases e : lexL (oneL c k) B = true
    · rw [if_pos e] at h1; subst h1; exact ⟨h.low ⟨k, hk, Or.inl rfl⟩ e, lexL_irrefl _⟩
    · rw [if_neg e] at h1; subst h1; exact ⟨h, by simpa using e⟩
  have a2 : BestTo c B2 k ∧ lexL (oneL c k) B2 = false ∧ lexL (twoL c k) B2 = false := by
    by_cases e : lexL (twoL c k) B1 = true
    · rw [if_pos e] at h2; subst h2; exact ⟨a1.1.low ⟨k, hk, Or.inr rfl⟩ e, lex_low a1.2 (Or.inr e), lexL_irrefl _⟩
    · rw [if_neg e] at h2; subst h2; exact ⟨a1.1, a1.2, by simpa using e⟩
  refine ⟨a2.1.1, fun s hs => ?_⟩
  by_cases e : s < k
  · exact a2.1.2 s e
  · obtain rfl : s = k := by omega
    exact a2.2
theorem mod_sub_self {n p : Nat} : (p + n - p) % n = 0 := by
  rw [Nat.add_sub_cancel_left]; exact Nat.mod_self n
/-- A way round of a way round is a way round. -/
theorem getD_mod {c : List Int} {n : Nat} {f : Nat → Nat} (L : List Int) (hL : L = (List.range c.length).map (fun i => c.getD (f i % c.length) 0)) (hn : n = c.length) (i : Nat) (hi : i < n) : L.getD i 0 = c.getD (f i % c.length) 0 := by
  subst hL
  subst hn
  simp [List.getD, hi]
theorem one_one {c : List Int} (hc : 0 < c.length) (s t : Nat) : oneL (oneL c s) t = oneL c ((s + t) % c.length) := by
  refine List.ext_getElem (by rw [oneL_len, oneL_len, oneL_len]) (fun i h1 h2 => ?_)
  rw [oneL_at h1, oneL_at h2, oneL_len]
  rw [getD_mod (f := fun i => s + i) (oneL c s) rfl rfl _ (Nat.mod_lt _ hc)]
  congr 1
  simp only [Nat.add_mod_mod, Nat.mod_add_mod, Nat.add_assoc]
theorem sub_mod' {n a b : Nat} (hb : b ≤ n) : (a + n - b) % n = (a % n + n - b) % n := by
  have h : a + n - b = a % n + n - b + n * (a / n) := by
    have := Nat.mod_add_div a n
    omega
  rw [h, Nat.add_mul_mod_self_left]
theorem two_one {c : List Int} (hc : 0 < c.length) (s t : Nat) : oneL (twoL c s) t = twoL c ((s + c.length - t % c.length) % c.length) := by
  refine List.ext_getElem (by rw [oneL_len, twoL_len, twoL_len]) (fun i h1 h2 => ?_)
  rw [oneL_at h1, twoL_at h2, twoL_len]
  have hlt := Nat.mod_lt (t + i) hc
  rw [getD_mod (f := fun i => s + c.length - i) (twoL c s) rfl rfl _ hlt]
  have hi : i < c.length := by rw [twoL_len] at h2; exact h2
  congr 1
  have ht := Nat.mod_lt t hc
  show (s + c.length - (t + i) % c.length) % c.length = ((s + c.length - t % c.length) % c.length + c.length - i) % c.length
  rw [← sub_mod' (Nat.le_of_lt hi)]
  have e : (t + i) % c.length = (t % c.length + i) % c.length := by rw [Nat.mod_add_mod]
  rw [e]
  by_cases h : t % c.length + i < c.length
  · rw [Nat.mod_eq_of_lt h]
    have : s + c.length - t % c.length + c.length - i = s + c.length - (t % c.length + i) + c.length := by omega
    rw [this, Nat.add_mod_right]
  · have e2 : (t % c.length + i) % c.length = t % c.length + i - c.length := by
      rw [Nat.mod_eq_sub_mod (by omega), Nat.mod_eq_of_lt (by omega)]
    rw [e2]
    congr 1
    omega
theorem one_two {c : List Int} (hc : 0 < c.length) (s t : Nat) : twoL (oneL c s) t = twoL c ((s + t) % c.length) := by
  refine List.ext_getElem (by rw [twoL_len, oneL_len, twoL_len]) (fun i h1 h2 => ?_)
  rw [twoL_at h1, twoL_at h2, oneL_len]
  have hi : i < c.length := by rw [twoL_len] at h2; exact h2
  rw [getD_mod (f := fun i => s + i) (oneL c s) rfl rfl _ (Nat.mod_lt _ hc)]
  congr 1
  show (s + (t + c.length - i) % c.length) % c.length = ((s + t) % c.length + c.length - i) % c.length
  rw [Nat.add_mod_mod, ← sub_mod' (Nat.le_of_lt hi)]
  congr 1
  omega
theorem two_two {c : List Int} (hc : 0 < c.length) (s t : Nat) : twoL (twoL c s) t = oneL c ((s + c.length - t % c.length) % c.length) := by
  refine List.ext_getElem (by rw [twoL_len, twoL_len, oneL_len]) (fun i h1 h2 => ?_)
  rw [twoL_at h1, oneL_at h2, twoL_len]
  have hi : i < c.length := by rw [oneL_len] at h2; exact h2
  have hlt := Nat.mod_lt (t + c.length - i) hc
  rw [getD_mod (f := fun i => s + c.length - i) (twoL c s) rfl rfl _ hlt]
  congr 1
  show (s + c.length - (t + c.length - i) % c.length) % c.length = ((s + c.length - t % c.length) % c.length + i) % c.length
  have ht := Nat.mod_lt t hc
  rw [Nat.mod_add_mod, sub_mod' (a := t) (Nat.le_of_lt hi)]
  by_cases h : t % c.length < i
  · rw [Nat.mod_eq_of_lt (a := t % c.length + c.length - i) (by omega), show s + c.length - t % c.length + i = s + c.length - (t % c.length + c.length - i) + c.length by omega, Nat.add_mod_right]
  · have e2 : (t % c.length + c.length - i) % c.length = t % c.length - i := by
      rw [show t % c.length + c.length - i = t % c.length - i + c.length by omega, Nat.add_mod_right, Nat.mod_eq_of_lt (by omega)]
    rw [e2]
    congr 1
    omega
/-- The ways round of a way round are those of the ring. -/
theorem Round.trans {c L M : List Int} (h : Round c L) (k : Round L M) : Round c M := by
  have hl := h.len
  obtain ⟨t, ht, hM⟩ := k
  have hc : 0 < c.length := by omega
  obtain ⟨s, hs, rfl | rfl⟩ := h
  · rcases hM with rfl | rfl
    · exact ⟨_, Nat.mod_lt _ hc, Or.inl (one_one hc s t)⟩
    · exact ⟨_, Nat.mod_lt _ hc, Or.inr (one_two hc s t)⟩
  · rcases hM with rfl | rfl
    · exact ⟨_, Nat.mod_lt _ hc, Or.inr (two_one hc s t)⟩
    · exact ⟨_, Nat.mod_lt _ hc, Or.inl (two_two hc s t)⟩
theorem Round.symm {c L : List Int} (h : Round c L) : Round L c := by
  have hl := h.len
  obtain ⟨s, hs, rfl | rfl⟩ := h
  · refine ⟨(c.length - s) % c.length, by rw [hl]; exact Nat.mod_lt _ (by omega), Or.inl ?_⟩
    rw [one_one (by omega), Nat.add_mod_mod, show s + (c.length - s) = c.length by omega, Nat.mod_self, oneL_zero]
  · refine ⟨s, by rw [hl]; exact hs, Or.inr ?_⟩
    rw [two_two (by omega), Nat.mod_eq_of_lt hs, mod_sub_self, oneL_zero]
theorem Round.mem {c L : List Int} (h : Round c L) {x : Int} (hx : x ∈ L) : x ∈ c := by
  have hl := h.len
  have hp := List.length_pos_of_mem hx
  have hc : 0 < c.length := by omega
  obtain ⟨s, hs, rfl | rfl⟩ := h
  · obtain ⟨i, _, rfl⟩ := List.mem_map.1 hx
    have := Nat.mod_lt (s + i) hc
    simp [List.getD, this]
  · obtain ⟨i, _, rfl⟩ := List.mem_map.1 hx
    have := Nat.mod_lt (s + c.length - i) hc
    simp [List.getD, this]
theorem nodup_of_sub {a b : List Int} (h : a.Nodup) (hl : b.length = a.length) (hs : ∀ x ∈ a, x ∈ b) : b.Nodup := by
  induction a generalizing b with
  | nil => simp at hl; subst hl; simp
  | cons x a ih =>
    have hx : x ∈ b := hs x (by simp)
    obtain ⟨h1, h2⟩ := List.nodup_cons.1 h
    have hle : (b.erase x).length = a.length := by rw [List.length_erase_of_mem hx]; simp at hl; omega
    have hsub : ∀ e ∈ a, e ∈ b.erase x := fun e he => (List.mem_erase_of_ne (fun e' => h1 (by rw [← e']; exact he))).2 (hs e (List.mem_cons_of_mem _ he))
    have hn := ih h2 hle hsub
    have hxn : x ∉ b.erase x := fun hm => by
      have := len_le_subI (a := x :: a) (b := b.erase x) h (fun e he => by
        rcases List.mem_cons.1 he with rfl | he
        · exact hm
        · exact hsub e he)
      simp at this
      omega
    exact (List.perm_cons_erase hx).nodup_iff.2 (List.nodup_cons.2 ⟨hxn, hn⟩)
theorem Round.ring {c L : List Int} (h : Round c L) (hc : Ring c) : Ring L := ⟨by rw [h.len]; exact hc.1, nodup_of_sub hc.2 h.len (fun _ hx => h.symm.mem hx)⟩
/-- A ring's Turn is the Turn of each of its ways round. -/
theorem TurnIs.round {c d L : List Int} (h : TurnIs c L) (hd : Round c d) (hc : Ring c) : TurnIs d L := by
  rcases h with ⟨h, _⟩ | ⟨_, h1, h2⟩
  · exact absurd hc h
  · exact Or.inr ⟨hd.ring hc, hd.symm.trans h1, fun M hM => h2 M (hd.trans hM)⟩
theorem TurnIs.again {c L : List Int} (h : TurnIs c L) : TurnIs L L := by
  by_cases hc : Ring c
  · have h' := h
    rcases h with ⟨h, _⟩ | ⟨_, h1, _⟩
    · exact absurd hc h
    · exact h'.round h1 hc
  · rcases h with ⟨_, rfl⟩ | ⟨h, _⟩
    · exact Or.inl ⟨hc, rfl⟩
    · exact absurd h hc
/-- The way back from the same place. -/
theorem two_back {c : List Int} (hc : 0 < c.length) : twoL c 0 = (c.headD 0) :: c.tail.reverse := by
  obtain ⟨x, l, rfl⟩ : ∃ x l, c = x :: l := by
    cases c with
    | nil => simp at hc
    | cons x l => exact ⟨x, l, rfl⟩
  refine List.ext_getElem (by rw [twoL_len]; simp) (fun i h1 h2 => ?_)
  rw [twoL_at h1]
  cases i with
  | zero => simp
  | succ j =>
    have hj : j < l.length := by rw [twoL_len] at h1; simpa using h1
    simp only [List.headD_cons, List.tail_cons, List.getElem_cons_succ, List.getElem_reverse, List.length_cons, Nat.zero_add]
    rw [Nat.mod_eq_of_lt (by omega), show l.length + 1 - (j + 1) = (l.length - 1 - j) + 1 by omega]
    simp [List.getD]
    rw [List.getElem?_eq_getElem (by omega)]
    rfl
/-- The Turn of a ring begins with its least number and goes on to the lesser neighbour. -/
theorem TurnIs.first {c L : List Int} (h : TurnIs c L) (hc : Ring c) : ∀ (h1 : 1 < L.length), L[1] < L[L.length - 1] := by
  intro h1
  have hr : Ring L := by
    rcases h with ⟨h, _⟩ | ⟨_, h2, _⟩
    · exact absurd hc h
    · exact h2.ring hc
  have hself := h.again
  rcases hself with ⟨h2, _⟩ | ⟨_, _, h2⟩
  · exact absurd hr h2
  · have h3 := h2 (twoL L 0) ⟨0, by omega, Or.inr rfl⟩
    rw [two_back (by omega)] at h3
    have hl := hr.1
    match L, h1, hr, h3, hl with
    | x :: z :: w :: l, h1, hr, h3, hl =>
      have hne : (x :: z :: w :: l).tail.reverse ≠ [] := by simp
      obtain ⟨u, t, ht⟩ := List.exists_cons_of_ne_nil hne
      have hu : u = (x :: z :: w :: l)[(x :: z :: w :: l).length - 1]'(by simp) := by
        have : ((x :: z :: w :: l).tail.reverse)[0]'(by rw [ht]; simp) = u := by rw [List.getElem_of_eq ht]; rfl
        rw [← this, List.getElem_reverse, List.getElem_tail]
        congr 1
      rw [ht] at h3
      simp only [List.headD_cons, lexL, Int.lt_irrefl, decide_false, beq_self_eq_true, Bool.true_and, Bool.false_or] at h3
      rw [Bool.or_eq_false_iff, decide_eq_false_iff_not] at h3
      have hz : z ≠ u := by
        intro e
        have := List.pairwise_iff_getElem.1 hr.2 1 ((x :: z :: w :: l).length - 1) (by simp) (by simp) (by simp)
        apply this
        rw [← hu, ← e]
        rfl
      rw [← hu]
      show z < u
      have := h3.1
      omega
end Go.Proofs.Ytagigeieoijciaa
namespace Go.Proofs.Ytagigeieoijciaa
open Go.RowKit Go.Lib

/-- What is known of a slice that came in, beside its cells. -/
def Slw (a : Option Addr) (cap n : Nat) : Prop := n ≤ cap ∧ (a = none → cap = 0)
theorem Sl.w {a : Option Addr} {cap n : Nat} (h : Sl a cap n) : Slw a cap n := ⟨h.1, h.2.1⟩
/-- Rows in memory, with what is known of their slices. -/
def LLS (w : World) (a : Option Addr) (LL : List (List Int)) : Prop :=
  0 < LL.length → ∃ g off, a = some ⟨g, off, none⟩ ∧ g < w.heap.size ∧ ∀ k (hk : k < LL.length), ∃ ak ck, w.cell? ⟨g, off + k, none⟩ = some (.slice ak LL[k].length ck) ∧ IAt w ak LL[k] ∧ Slw ak ck LL[k].length
theorem LLS.below {w w' : World} {a : Option Addr} {LL : List (List Int)} (h : LLS w a LL) (hb : Below w.heap.size w w') : LLS w' a LL := fun h0 => by
  obtain ⟨g, off, ha, hg, hc⟩ := h h0
  refine ⟨g, off, ha, Nat.lt_of_lt_of_le hg hb.size, fun k hk => ?_⟩
  obtain ⟨ak, ck, h1, h2, h3⟩ := hc k hk
  exact ⟨ak, ck, (hb.cell (p := ⟨g, off + k, none⟩) hg).trans h1, h2.below hb, h3⟩
theorem LLS.at {w : World} {a : Option Addr} {LL : List (List Int)} (h : LLS w a LL) {k : Nat} (hk : k < LL.length) : ∃ g off ak ck, a = some ⟨g, off, none⟩ ∧ w.cell? ⟨g, off + k, none⟩ = some (.slice ak LL[k].length ck) ∧ IAt w ak LL[k] ∧ Slw ak ck LL[k].length := by
  obtain ⟨g, off, ha, hg, hc⟩ := h (by omega)
  obtain ⟨ak, ck, h1, h2, h3⟩ := hc k hk
  exact ⟨g, off, ak, ck, ha, h1, h2, h3⟩
/-- A row that was just made. -/
theorem iat_new (w : World) (xs : List Int) (arr : Array Value) (fr : Nat × Nat) (h : arr = (xs.map (Value.int .i64)).toArray) : IAt (w.alloc (.cells arr 3 fr)) (some ⟨w.heap.size, 0, none⟩) xs := fun _ => by
  refine ⟨w.heap.size, 0, rfl, by simp, fun k hk => ?_⟩
  rw [Nat.zero_add, cell_of_heap (heap_alloc_new w _), h]
  simp [hk]
end Go.Proofs.Ytagigeieoijciaa
