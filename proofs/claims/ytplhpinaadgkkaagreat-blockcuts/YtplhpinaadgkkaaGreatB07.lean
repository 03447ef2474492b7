/-
  append onto a row of the call's own, of a slice that may be nil: as a step of a region that draws its order, and in a plain one.
  The document's parts (layer 4) in memory: New, Is, Same, Count, Join.
  The document's Is, Same, Count and Join of layer 4.
  Lists of rows in memory; the document's SameRows.
  The document's Classes of layer 4.
  What is reached from a vertex: pure facts for the document's components. No program is named here.
  Paths: put together, cut off, turned round; components; what follows of routes. No program is named here.
-/
import Derived.Test.YtplhpinaadgkkaaGreatB04
import Derived.Test.YtplhpinaadgkkaaGreatB06
import Derived.Laws.AppendOwnNone
import Derived.Test.YtplhpinaadgkkaaGreatB05
import Derived.Deep.LoopGhost
import Derived.Deep.RegionHeld3
import Derived.BigQuiet
import Derived.Test.YtplhpinaadgkkaaGreatB02
namespace Go.Proofs.YtplhpinaadgkkaaGreat
open Go.RowKit Go.Lib

theorem grown_refl (w : World) (r : Option Nat) : w.grownBy w r := ⟨rfl, rfl, rfl, Nat.le_refl _, fun _ _ _ => rfl⟩

theorem wp_append_any {P : Program} (w : World) {o : Oper} {a : Act} {K : Act → World → Prop} {Q : Exit → Act → World → Prop} (s x : Operand) (t : TypeId)
    (ho : o.op = .call { callee := .builtin .append, args := #[s, x], argTypes := #[t, t] })
    (base : Nat) (e : TypeId) (i : TypeInfo) (z : Value) (size bytes : Nat) (ht : P.underlying t = some (.slice e)) (hi : P.info? e = some i) (hz : i.zero = some z)
    (hsize : i.size = size) (hby : i.bytes = bytes) (hzs : z.cells.size = size) (hsz : 0 < size)
    (v : Value) (n : Nat) (xs : List Value) (hs : a.eval s = v) (hown : w.ownsRow base e size v n xs)
    (ad : Option Addr) (m c : Nat) (news : List Value) (hx : a.eval x = .slice ad m c) (hnil : ad = none → m = 0 ∧ c = 0) (hl : news.length = m * size) (hnews : ∀ p, ad = some p → ∀ j u, news[j]? = some u → w.cell? (p.add j) = some u) (h1 : ∀ u ∈ news, u.oneCell' = true)
    (h63 : n + m ≤ maxLen) (hbytes : (n + m) * bytes ≤ 140737488355328) (hbase : base ≤ w.heap.size)
    (h : ∀ v' w', w'.ownsRow base e size v' (n + m) (xs ++ news) → w.grownBy w' v.ownBlock → (v'.ownBlock = v.ownBlock ∨ v'.ownBlock = some w.heap.size) → K (a.put o.dst v') w') : o.wp P a w K Q := by
  cases ad with
  | none =>
    obtain ⟨rfl, rfl⟩ := hnil rfl
    obtain rfl : news = [] := List.eq_nil_of_length_eq_zero (by omega)
    have hrun := run_append_owned_none (P := P) (w := w) base t o.type e i size ht hi v n xs hown
    unfold Oper.wp
    simp [execOp, ho, resolve, invoke, builtin, hs, hx, hrun, Result.andThen]
    exact h v w (by simpa using hown) (grown_refl _ _) (Or.inl rfl)
  | some p =>
    obtain ⟨v', w', hr, h2, h3, _, h5⟩ := run_append_own_at (P := P) w base t o.type e i z size bytes ht hi hz hsize hby hzs hsz v n xs hown p m c news hl (hnews p rfl) h1 h63 hbytes hbase
    unfold Oper.wp execOp
    simp only [ho, resolve, invoke, builtin, Sem.run_bind, Sem.run_pure, Result.andThen_ok, List.map_toArray, List.map_cons, List.map_nil, hs, hx, hr]
    exact h v' w' h2 h3 h5

theorem step_append_any {P : Program} (w : World) {ops : Array Oper} {o : Oper} {a : Act} {K : Act → World → Prop} {Q : Exit → Act → World → Prop} {E : Prop} (hgd : o.guard = none) (s x : Operand) (t : TypeId)
    (ho : o.op = .call { callee := .builtin .append, args := #[s, x], argTypes := #[t, t] })
    (base : Nat) (e : TypeId) (i : TypeInfo) (z : Value) (size bytes : Nat) (ht : P.underlying t = some (.slice e)) (hi : P.info? e = some i) (hz : i.zero = some z)
    (hsize : i.size = size) (hby : i.bytes = bytes) (hzs : z.cells.size = size) (hsz : 0 < size)
    (v : Value) (n : Nat) (xs : List Value) (hs : a.eval s = v) (hown : w.ownsRow base e size v n xs)
    (ad : Option Addr) (m c : Nat) (news : List Value) (hx : a.eval x = .slice ad m c) (hnil : ad = none → m = 0 ∧ c = 0) (hl : news.length = m * size) (hnews : ∀ p, ad = some p → ∀ j u, news[j]? = some u → w.cell? (p.add j) = some u) (h1 : ∀ u ∈ news, u.oneCell' = true)
    (h63 : n + m ≤ maxLen) (hbytes : (n + m) * bytes ≤ 140737488355328) (hbase : base ≤ w.heap.size)
    (h : ∀ v' w', w'.ownsRow base e size v' (n + m) (xs ++ news) → w.grownBy w' v.ownBlock → (v'.ownBlock = v.ownBlock ∨ v'.ownBlock = some w.heap.size) → K (a.put o.dst v') w') :
    if Region.wanted o (yielded ops a.tmps) = true then Oper.wp P o a w K Q else E := by
  have hw : Region.wanted o (yielded ops a.tmps) = true := by simp [Region.wanted, hgd]
  rw [if_pos hw]
  exact wp_append_any w s x t ho base e i z size bytes ht hi hz hsize hby hzs hsz v n xs hs hown ad m c news hx hnil hl hnews h1 h63 hbytes hbase h

theorem wpList_append_any {P : Program} (w : World) {ops : Array Oper} {rest : List Oper} {o : Oper} {a : Act} {Q : Exit → Act → World → Prop} (hgd : o.guard = none) (s x : Operand) (t : TypeId)
    (ho : o.op = .call { callee := .builtin .append, args := #[s, x], argTypes := #[t, t] })
    (base : Nat) (e : TypeId) (i : TypeInfo) (z : Value) (size bytes : Nat) (ht : P.underlying t = some (.slice e)) (hi : P.info? e = some i) (hz : i.zero = some z)
    (hsize : i.size = size) (hby : i.bytes = bytes) (hzs : z.cells.size = size) (hsz : 0 < size)
    (v : Value) (n : Nat) (xs : List Value) (hs : a.eval s = v) (hown : w.ownsRow base e size v n xs)
    (ad : Option Addr) (m c : Nat) (news : List Value) (hx : a.eval x = .slice ad m c) (hnil : ad = none → m = 0 ∧ c = 0) (hl : news.length = m * size) (hnews : ∀ p, ad = some p → ∀ j u, news[j]? = some u → w.cell? (p.add j) = some u) (h1 : ∀ u ∈ news, u.oneCell' = true)
    (h63 : n + m ≤ maxLen) (hbytes : (n + m) * bytes ≤ 140737488355328) (hbase : base ≤ w.heap.size)
    (h : ∀ v' w', w'.ownsRow base e size v' (n + m) (xs ++ news) → w.grownBy w' v.ownBlock → (v'.ownBlock = v.ownBlock ∨ v'.ownBlock = some w.heap.size) → wpList P ops Q rest (a.put o.dst v') w') : wpList P ops Q (o :: rest) a w :=
  wpList_plain hgd fun _ hK => wp_append_any w s x t ho base e i z size bytes ht hi hz hsize hby hzs hsz v n xs hs hown ad m c news hx hnil hl hnews h1 h63 hbytes hbase fun v' w' h2 h3 h4 => hK _ _ (h v' w' h2 h3 h4)

/-- Edges do not lie in a graph's own variable. -/
theorem eat_off_box {w : World} {B : Nat} {n : Int} {sa : Option Addr} {sl sc : Nat} {T : TypeId} {fr : Nat × Nat} {a : Option Addr} {ys : List (Int × Int)} (hB : w.heap[B]? = some (.cells #[.int .i64 n, .slice sa sl sc] T fr)) (h : EAt w a ys) : ∀ g off, 0 < ys.length → a = some ⟨g, off, none⟩ → g ≠ B := fun g off h0 ha e => by
  subst e
  obtain ⟨g', off', ha', _, hc⟩ := h h0
  rw [ha] at ha'
  simp only [Option.some.injEq, Addr.mk.injEq, and_true] at ha'
  obtain ⟨rfl, rfl⟩ := ha'
  have h1 := (hc 0 h0).1
  have h2 := (hc 0 h0).2
  rw [cell_of_heap hB] at h1 h2
  match off, h1, h2 with
  | 0, h1, h2 => simp at h2
  | 1, h1, h2 => simp at h1
  | k + 2, h1, h2 => simp at h1
theorem hid2 {p q : Prop} (h : p) (h' : q) : p ∧ q := ⟨h, h'⟩
end Go.Proofs.YtplhpinaadgkkaaGreat
namespace Go.Proofs.YtplhpinaadgkkaaGreat
open Go.RowKit Go.Lib

/-- All blocks that were there are as they were, but for some. -/
structure KeptBut (S : Nat → Prop) (w w' : World) : Prop where
  os : w'.os = w.os
  tape : w'.tape = w.tape
  output : w'.output = w.output
  size : w.heap.size ≤ w'.heap.size
  block : ∀ k, k < w.heap.size → ¬ S k → w'.heap[k]? = w.heap[k]?
theorem KeptBut.refl (S : Nat → Prop) (w : World) : KeptBut S w w := ⟨rfl, rfl, rfl, Nat.le_refl _, fun _ _ _ => rfl⟩
theorem KeptBut.trans {S : Nat → Prop} {a b c : World} (h : KeptBut S a b) (k : KeptBut S b c) : KeptBut S a c :=
  ⟨k.os.trans h.os, k.tape.trans h.tape, k.output.trans h.output, Nat.le_trans h.size k.size, fun i hi hs => (k.block i (Nat.lt_of_lt_of_le hi h.size) hs).trans (h.block i hi hs)⟩
theorem KeptBut.mono {S S' : Nat → Prop} {a b : World} (h : KeptBut S a b) (hs : ∀ k, k < a.heap.size → S k → S' k) : KeptBut S' a b := ⟨h.os, h.tape, h.output, h.size, fun k hk hn => h.block k hk (fun e => hn (hs k hk e))⟩
theorem KeptBut.of_below {B : Nat} {a b : World} (h : Below B a b) : KeptBut (fun k => B ≤ k) a b := ⟨h.os, h.tape, h.output, h.size, fun k _ hn => h.block k (by omega)⟩
theorem KeptBut.below {S : Nat → Prop} {B : Nat} {a b : World} (h : KeptBut S a b) (hB : B ≤ a.heap.size) (hs : ∀ k, k < a.heap.size → S k → B ≤ k) : Below B a b := ⟨h.os, h.tape, h.output, h.size, fun k hk => h.block k (by omega) (fun e => by have := hs k (by omega) e; omega)⟩
theorem kept_set (w : World) (p : Addr) (v : Value) : KeptBut (fun k => k = p.block) w (w.setCell p v) :=
  ⟨rfl, rfl, rfl, by simp, fun _ _ hn => Below.heap_setCell _ _ _ _ hn⟩
theorem KeptBut.cell {S : Nat → Prop} {w w' : World} (h : KeptBut S w w') {p : Addr} (hp : p.block < w.heap.size) (hs : ¬ S p.block) : w'.cell? p = w.cell? p := World.cell?_of_block (w := w) (h.block p.block hp hs)
theorem KeptBut.frozen {S : Nat → Prop} {w w' : World} (h : KeptBut S w w') {p : Addr} (hp : p.block < w.heap.size) (hs : ¬ S p.block) : w'.frozen? p = w.frozen? p := World.frozen?_of_block (w := w) (h.block p.block hp hs)

/-- The numbers 0 to n-1, as cells. -/
def upto (n : Nat) : List Int := (List.range n).map (fun i : Nat => (i : Int))
theorem upto_len (n : Nat) : (upto n).length = n := by simp [upto]
theorem sl_own {w : World} {base : Nat} {e : TypeId} {size : Nat} {v : Value} {n : Nat} {xs : List Value} (h : w.ownsRow base e size v n xs) : ∃ a cap, v = .slice a n cap ∧ Sl a cap n := by
  rcases h.2 with ⟨hv, h0⟩ | ⟨g, cap, cur, hv, _, _, hc, _⟩
  · exact ⟨none, 0, by rw [hv, h0], by rw [h0]; exact sl_nil⟩
  · exact ⟨_, cap, hv, sl_some hc⟩
/-- A row of the call's own, place by place. -/
theorem row1_own {w : World} {base g n cap : Nat} {e : TypeId} {xs : List Int} (h : w.ownsRow base e 1 (.slice (some ⟨g, 0, none⟩) n cap) n (xs.map (Value.int .i64))) (hx : xs.length = n) : Row1 w g n (fun j => xs[j]?.getD 0) := by
  have hg : g < w.heap.size := (h.lt g rfl).2
  refine ⟨hg, fun j hj => ?_⟩
  rcases h.2 with ⟨hv, _⟩ | ⟨g', cap, cur, hv, _, hgb, _⟩
  · simp at hv
  · simp only [Value.slice.injEq, Option.some.injEq, Addr.mk.injEq, and_true, true_and] at hv
    obtain ⟨rfl, _⟩ := hv
    have hj' : j < xs.length := by omega
    have := h.cells (g := g) rfl j (.int .i64 xs[j]) (by simp [hj'])
    rw [add_at, Nat.zero_add] at this
    refine ⟨?_, frozen_of_heap hgb _⟩
    rw [this]; simp [hj']

/-- A part of the document's: a variable with a row of the least numbers. -/
structure QAt (w : World) (b g : Nat) (a : Option Addr) (n cap : Nat) (f : Nat → Nat) : Prop where
  box : w.cell? ⟨b, 0, none⟩ = some (.slice a n cap)
  row : 0 < n → a = some ⟨g, 0, none⟩ ∧ Row1 w g n (fun i => (f i : Int))
  ne : g ≠ b
theorem QAt.kept {S : Nat → Prop} {w w' : World} {b g : Nat} {a : Option Addr} {n cap : Nat} {f : Nat → Nat} (h : QAt w b g a n cap f) (hk : KeptBut S w w') (hb : ¬ S b) (hg : 0 < n → ¬ S g) : QAt w' b g a n cap f := by
  refine ⟨(hk.cell (p := ⟨b, 0, none⟩) (block_lt_of_cell h.box) hb).trans h.box, fun h0 => ?_, h.ne⟩
  obtain ⟨ha, hr⟩ := h.row h0
  exact ⟨ha, Nat.lt_of_lt_of_le hr.1 hk.size, fun j hj => ⟨(hk.cell (p := ⟨g, j, none⟩) hr.1 (hg h0)).trans (hr.2 j hj).1, (hk.frozen (p := ⟨g, j, none⟩) hr.1 (hg h0)).trans (hr.2 j hj).2⟩⟩
theorem QAt.below {w w' : World} {b g : Nat} {a : Option Addr} {n cap : Nat} {f : Nat → Nat} (h : QAt w b g a n cap f) (hk : Below w.heap.size w w') : QAt w' b g a n cap f := by
  refine ⟨(hk.cell (p := ⟨b, 0, none⟩) (block_lt_of_cell h.box)).trans h.box, fun h0 => ?_, h.ne⟩
  obtain ⟨ha, hr⟩ := h.row h0
  exact ⟨ha, Nat.lt_of_lt_of_le hr.1 hk.size, fun j hj => ⟨(hk.cell (p := ⟨g, j, none⟩) hr.1).trans (hr.2 j hj).1, (hk.frozen (p := ⟨g, j, none⟩) hr.1).trans (hr.2 j hj).2⟩⟩
theorem QAt.iat {w : World} {b g : Nat} {a : Option Addr} {n cap : Nat} {f : Nat → Nat} (h : QAt w b g a n cap f) {i : Nat} (hi : i < n) : a = some ⟨g, 0, none⟩ ∧ w.cell? ⟨g, i, none⟩ = some (.int .i64 (f i)) ∧ w.frozen? ⟨g, i, none⟩ = false :=
  ⟨(h.row (by omega)).1, ((h.row (by omega)).2.2 i hi).1, ((h.row (by omega)).2.2 i hi).2⟩

end Go.Proofs.YtplhpinaadgkkaaGreat
namespace Go.Proofs.YtplhpinaadgkkaaGreat
open Go.RowKit Go.Lib

/-- How many least numbers there are below k. -/
def cntF (f : Nat → Nat) (k : Nat) : Nat := ((List.range k).filter (fun i => f i == i)).length
theorem cntF_le (f : Nat → Nat) (k : Nat) : cntF f k ≤ k := Nat.le_trans (List.length_filter_le _ _) (by simp)

/-- What Join makes of the classes, whatever it is handed. -/
def joinR (n : Nat) (f : Nat → Nat) (x y : Int) : Nat → Nat := if (0 ≤ x ∧ x < n) ∧ (0 ≤ y ∧ y < n) then joinF f x.toNat y.toNat else f
theorem QAt.congr {w : World} {b g : Nat} {a : Option Addr} {n cap : Nat} {f f' : Nat → Nat} (h : QAt w b g a n cap f) (e : ∀ i, i < n → f i = f' i) : QAt w b g a n cap f' :=
  ⟨h.box, fun h0 => ⟨(h.row h0).1, (h.row h0).2.congr (fun j hj => by rw [e j hj])⟩, h.ne⟩
theorem QAt.put {w : World} {b g : Nat} {a : Option Addr} {n cap : Nat} {f : Nat → Nat} (h : QAt w b g a n cap f) {i : Nat} (hi : i < n) (x : Nat) : QAt (w.setCell ⟨g, i, none⟩ (.int .i64 x)) b g a n cap (fun j => if j = i then x else f j) := by
  refine ⟨?_, fun h0 => ⟨(h.row h0).1, ((h.row h0).2.put hi (x : Int)).congr (fun j _ => by by_cases e : j = i <;> simp [e])⟩, h.ne⟩
  rw [World.cell?_setCell_other _ _ _ _ (fun e => h.ne (congrArg Addr.block e))]
  exact h.box
end Go.Proofs.YtplhpinaadgkkaaGreat
namespace Go.Proofs.YtplhpinaadgkkaaGreat
open Go.RowKit Go.Lib

theorem KeptBut.of_grown {w w' : World} {row : Option Nat} (hg : w.grownBy w' row) : KeptBut (fun k => some k = row) w w' := ⟨hg.os, hg.tape, hg.output, hg.size, fun k hk hn => hg.block k hk hn⟩
theorem kept_alloc (w : World) (o : Obj) (S : Nat → Prop) : KeptBut S w (w.alloc o) := (KeptBut.of_below ((Below.refl w.heap.size w).alloc (Nat.le_refl _) o)).mono (fun k hk hs => absurd hs (by omega))
theorem KeptBut.of_whole {w w' : World} (S : Nat → Prop) (h : Below w.heap.size w w') : KeptBut S w w' := (KeptBut.of_below h).mono (fun k hk hs => absurd hs (by omega))
theorem IAt.kept {S : Nat → Prop} {w w' : World} {a : Option Addr} {xs : List Int} (h : IAt w a xs) (hk : KeptBut S w w') (hs : ∀ g off, a = some ⟨g, off, none⟩ → 0 < xs.length → ¬ S g) : IAt w' a xs := fun h0 => by
  obtain ⟨g, off, ha, hg, hc⟩ := h h0
  exact ⟨g, off, ha, Nat.lt_of_lt_of_le hg hk.size, fun k hk' => (hk.cell (p := ⟨g, off + k, none⟩) hg (hs g off ha h0)).trans (hc k hk')⟩
theorem own_kept {S : Nat → Prop} {w w' : World} {base : Nat} {e : TypeId} {size : Nat} {v : Value} {n : Nat} {xs : List Value} (h : w.ownsRow base e size v n xs) (hk : KeptBut S w w') (hs : ∀ g, v.ownBlock = some g → ¬ S g) : w'.ownsRow base e size v n xs := by
  refine ⟨h.1, ?_⟩
  rcases h.2 with h2 | ⟨g, cap, cur, hv, hg, hgc, r⟩
  · exact Or.inl h2
  · exact Or.inr ⟨g, cap, cur, hv, hg, (hk.block g (Array.getElem?_eq_some_iff.1 hgc).1 (hs g (by rw [hv]; rfl))).trans hgc, r⟩

/-- A list of rows in memory. -/
def LLAt (w : World) (a : Option Addr) (LL : List (List Int)) : Prop :=
  0 < LL.length → ∃ g off, a = some ⟨g, off, none⟩ ∧ g < w.heap.size ∧ ∀ k (hk : k < LL.length), ∃ ak ck, w.cell? ⟨g, off + k, none⟩ = some (.slice ak LL[k].length ck) ∧ IAt w ak LL[k]
theorem llat_nil (w : World) (a : Option Addr) : LLAt w a [] := fun h => absurd h (by simp)
theorem LLAt.below {w w' : World} {a : Option Addr} {LL : List (List Int)} (h : LLAt w a LL) (hb : Below w.heap.size w w') : LLAt w' a LL := fun h0 => by
  obtain ⟨g, off, ha, hg, hc⟩ := h h0
  refine ⟨g, off, ha, Nat.lt_of_lt_of_le hg hb.size, fun k hk => ?_⟩
  obtain ⟨ak, ck, h1, h2⟩ := hc k hk
  exact ⟨ak, ck, (hb.cell (p := ⟨g, off + k, none⟩) hg).trans h1, h2.below hb⟩
theorem LLAt.at {w : World} {a : Option Addr} {LL : List (List Int)} (h : LLAt w a LL) {k : Nat} (hk : k < LL.length) : ∃ g off ak ck, a = some ⟨g, off, none⟩ ∧ w.cell? ⟨g, off + k, none⟩ = some (.slice ak LL[k].length ck) ∧ IAt w ak LL[k] := by
  obtain ⟨g, off, ha, hg, hc⟩ := h (by omega)
  obtain ⟨ak, ck, h1, h2⟩ := hc k hk
  exact ⟨g, off, ak, ck, ha, h1, h2⟩

/-- A list of rows of the call's own: the headers in one block, the rows in others, all of them in blocks of A. -/
def LLOwn (w : World) (base : Nat) (A : Nat → Prop) (v : Value) (us : List Value) (LL : List (List Int)) : Prop :=
  w.ownsRow base 33 1 v LL.length us ∧ us.length = LL.length ∧ (∀ g, v.ownBlock = some g → A g) ∧
    ∀ k (hk : k < LL.length), ∃ ak ck, us[k]? = some (.slice ak LL[k].length ck) ∧ IAt w ak LL[k] ∧ ∀ g off, ak = some ⟨g, off, none⟩ → 0 < LL[k].length → A g ∧ v.ownBlock ≠ some g
theorem LLOwn.kept {S A : Nat → Prop} {w w' : World} {base : Nat} {v : Value} {us : List Value} {LL : List (List Int)} (h : LLOwn w base A v us LL) (hk : KeptBut S w w') (hs : ∀ k, A k → k < w.heap.size → ¬ S k) : LLOwn w' base A v us LL := by
  refine ⟨own_kept h.1 hk (fun g hg => hs g (h.2.2.1 g hg) (h.1.lt g hg).2), h.2.1, h.2.2.1, fun k hk' => ?_⟩
  obtain ⟨ak, ck, h1, h2, h3⟩ := h.2.2.2 k hk'
  exact ⟨ak, ck, h1, h2.kept hk (fun g off ha h0 => hs g (h3 g off ha h0).1 (by
    obtain ⟨g', off', ha', hg', _⟩ := h2 h0
    rw [ha] at ha'
    cases ha'
    exact hg')), h3⟩
theorem LLOwn.below {A : Nat → Prop} {w w' : World} {base : Nat} {v : Value} {us : List Value} {LL : List (List Int)} (h : LLOwn w base A v us LL) (hb : Below w.heap.size w w') : LLOwn w' base A v us LL :=
  h.kept (KeptBut.of_whole (fun _ => False) hb) (fun _ _ _ e => e)
theorem LLOwn.put {A : Nat → Prop} {w w4 : World} {base : Nat} {v v4 : Value} {us : List Value} {LL : List (List Int)} {L : List Int} {ar : Option Addr} {cr : Nat} {X : Obj} (h : LLOwn w base A v us LL) (hI : IAt w ar L)
    (hA : ∀ g off, ar = some ⟨g, off, none⟩ → 0 < L.length → A g ∧ v.ownBlock ≠ some g) (hnew : A (w.alloc X).heap.size)
    (ho : w4.ownsRow base 33 1 v4 (LL.length + 1) (us ++ [.slice ar L.length cr])) (hg : (w.alloc X).grownBy w4 v.ownBlock) (hat : v4.ownBlock = v.ownBlock ∨ v4.ownBlock = some (w.alloc X).heap.size) :
    LLOwn w4 base A v4 (us ++ [.slice ar L.length cr]) (LL ++ [L]) := by
  have hk : KeptBut (fun k => some k = v.ownBlock) w w4 := (kept_alloc w X _).trans (KeptBut.of_grown hg)
  have hs : (w.alloc X).heap.size = w.heap.size + 1 := by simp
  have hne : ∀ g, g < w.heap.size → v.ownBlock ≠ some g → v4.ownBlock ≠ some g := fun g h1 h2 e => by
    rcases hat with h3 | h3
    · exact h2 (h3.symm.trans e)
    · rw [h3, hs] at e; simp only [Option.some.injEq] at e; omega
  refine ⟨by rw [List.length_append]; exact ho, by simp [h.2.1], fun g e => ?_, fun k hk' => ?_⟩
  · rcases hat with h3 | h3
    · exact h.2.2.1 g (h3.symm.trans e)
    · rw [h3] at e; simp only [Option.some.injEq] at e; rw [← e]; exact hnew
  · by_cases hlt : k < LL.length
    · obtain ⟨ak, ck, h1, h2, h3⟩ := h.2.2.2 k hlt
      have e1 : (LL ++ [L])[k] = LL[k] := List.getElem_append_left hlt
      rw [e1]
      refine ⟨ak, ck, by rw [List.getElem?_append_left (by rw [h.2.1]; exact hlt)]; exact h1, h2.kept hk (fun g off ha h0 e => (h3 g off ha h0).2 e.symm), fun g off ha h0 => ⟨(h3 g off ha h0).1, hne g ?_ (h3 g off ha h0).2⟩⟩
      obtain ⟨g', off', ha', hg', _⟩ := h2 h0
      rw [ha] at ha'
      cases ha'
      exact hg'
    · obtain rfl : k = LL.length := by simp at hk'; omega
      have e1 : (LL ++ [L])[LL.length] = L := by simp
      rw [e1]
      refine ⟨ar, cr, by rw [← h.2.1]; simp, hI.kept hk (fun g off ha h0 e => (hA g off ha h0).2 e.symm), fun g off ha h0 => ⟨(hA g off ha h0).1, hne g ?_ (hA g off ha h0).2⟩⟩
      obtain ⟨g', off', ha', hg', _⟩ := hI h0
      rw [ha] at ha'
      cases ha'
      exact hg'
theorem LLOwn.at {A : Nat → Prop} {w : World} {base : Nat} {v : Value} {us : List Value} {LL : List (List Int)} (h : LLOwn w base A v us LL) : ∃ a cap, v = .slice a LL.length cap ∧ Sl a cap LL.length ∧ LLAt w a LL := by
  obtain ⟨a, cap, hv, hsl⟩ := sl_own h.1
  refine ⟨a, cap, hv, hsl, fun h0 => ?_⟩
  obtain ⟨g, cap', hv', hb, hg, hc, hcs⟩ := own_row h.1 h0
  rw [hv] at hv'
  simp only [Value.slice.injEq, true_and] at hv'
  refine ⟨g, 0, hv'.1, hg, fun k hk => ?_⟩
  obtain ⟨ak, ck, h1, h2, _⟩ := h.2.2.2 k hk
  exact ⟨ak, ck, by rw [Nat.zero_add]; exact hcs k _ h1, h2⟩

theorem boolR_of (p : Prop) : ∃ r : Bool, r = true ↔ p := by
  by_cases h : p
  · exact ⟨true, ⟨fun _ => h, fun _ => rfl⟩⟩
  · exact ⟨false, ⟨fun h' => (by cases h'), fun h' => absurd h' h⟩⟩
end Go.Proofs.YtplhpinaadgkkaaGreat
namespace Go.Proofs.YtplhpinaadgkkaaGreat
open Go.RowKit Go.Lib

def partTo (f : Nat → Nat) (i k : Nat) : List Int := ((List.range k).filter (fun j => f j == i)).map (fun j : Nat => (j : Int))
theorem partTo_yes {f : Nat → Nat} {i k : Nat} (h : f k = i) : partTo f i (k + 1) = partTo f i k ++ [(k : Int)] := by unfold partTo; rw [List.range_succ, List.filter_append, List.map_append]; simp [h]
theorem partTo_no {f : Nat → Nat} {i k : Nat} (h : ¬ f k = i) : partTo f i (k + 1) = partTo f i k := by unfold partTo; rw [List.range_succ, List.filter_append, List.map_append]; simp [h]
end Go.Proofs.YtplhpinaadgkkaaGreat
namespace Go.Proofs.YtplhpinaadgkkaaGreat

/-- The edges of a graph as pairs of numbers. -/
def prsN (es : List (Int × Int)) : List (Nat × Nat) := es.map (fun e => (e.1.toNat, e.2.toNat))
theorem prsN_in {n : Nat} {es : List (Int × Int)} (h : RightG n es) : PairsIn n (prsN es) := fun e he => by
  obtain ⟨x, hx, rfl⟩ := List.mem_map.1 he
  have := h.2.2.2.1 x hx
  simp only
  omega
theorem mem_prsN {n : Nat} {es : List (Int × Int)} (h : RightG n es) {a b : Nat} : (a, b) ∈ prsN es ↔ ((a : Int), (b : Int)) ∈ es := by
  unfold prsN
  rw [List.mem_map]
  constructor
  · rintro ⟨x, hx, e⟩
    have := h.2.2.2.1 x hx
    simp only [Prod.mk.injEq] at e
    have e2 : x = ((a : Int), (b : Int)) := Prod.ext (by simp; omega) (by simp; omega)
    rw [← e2]; exact hx
  · intro hx; exact ⟨_, hx, by simp⟩
/-- There are classes to each row of pairs. -/
theorem tells_rev {n : Nat} : ∀ (Q : List (Nat × Nat)), PairsIn n Q.reverse → ∃ f, Pt n f ∧ Tells n f Q.reverse
  | [], _ => ⟨_, pt_new n, tells_new n⟩
  | e :: Q, h => by
    rw [List.reverse_cons] at h ⊢
    obtain ⟨f, hf, ht⟩ := tells_rev Q (fun x hx => h x (List.mem_append_left _ hx))
    have he := h e (by simp)
    exact ⟨_, hf.join he.1 he.2, tells_join ht (fun x hx => h x (List.mem_append_left _ hx)) he.1 he.2⟩
theorem tells_ex {n : Nat} (P : List (Nat × Nat)) (h : PairsIn n P) : ∃ f, Pt n f ∧ Tells n f P := by
  have := tells_rev P.reverse (by rw [List.reverse_reverse]; exact h)
  rwa [List.reverse_reverse] at this
/-- What has been reached from m. -/
structure Bfs (n : Nat) (f : Nat → Nat) (m : Nat) (ls : List Int) : Prop where
  nd : ls.Nodup
  all : ∀ x ∈ ls, ∃ u : Nat, x = u ∧ u < n ∧ f u = m
  has : (m : Int) ∈ ls
theorem Bfs.put {n : Nat} {f : Nat → Nat} {m : Nat} {ls : List Int} (h : Bfs n f m ls) {u : Nat} (hu : u < n) (hf : f u = m) (hn : (u : Int) ∉ ls) : Bfs n f m (ls ++ [(u : Int)]) := by
  refine ⟨?_, fun x hx => ?_, by simp [h.has]⟩
  · rw [List.nodup_append]
    refine ⟨h.nd, by simp, fun a ha b hb => ?_⟩
    simp at hb
    subst hb
    intro e
    subst e
    exact hn ha
  · rcases List.mem_append.1 hx with hx | hx
    · exact h.all x hx
    · simp at hx; exact ⟨u, hx, hu, hf⟩
theorem len_le_of_subI {a b : List Int} (h : a.Nodup) (hs : ∀ e ∈ a, e ∈ b) : a.length ≤ b.length := by
  induction a generalizing b with
  | nil => simp
  | cons x a ih =>
    have hx := hs x (by simp)
    have hnd := List.nodup_cons.1 h
    have := ih (b := b.erase x) hnd.2 (fun e he => by
      refine (List.mem_erase_of_ne ?_).2 (hs e (by simp [he]))
      rintro rfl
      exact hnd.1 he)
    rw [List.length_erase_of_mem hx] at this
    have : 0 < b.length := List.length_pos_of_mem hx
    simp; omega
theorem Bfs.len {n : Nat} {f : Nat → Nat} {m : Nat} {ls : List Int} (h : Bfs n f m ls) : ls.length ≤ n := by
  have := len_le_of_subI (b := upto n) h.nd (fun x hx => by
    obtain ⟨u, rfl, hu, _⟩ := h.all x hx
    unfold upto
    exact List.mem_map.2 ⟨u, by simpa using hu, rfl⟩)
  rwa [upto_len] at this
/-- The neighbours of the first i are reached. -/
def ClosedTo (es : List (Int × Int)) (ls : List Int) (i : Nat) : Prop := ∀ j (h : j < ls.length), j < i → ∀ y ∈ nbL ls[j] es, y ∈ ls
theorem ClosedTo.put {es : List (Int × Int)} {ls : List Int} {i : Nat} (h : ClosedTo es ls i) (hi : i ≤ ls.length) (x : Int) : ClosedTo es (ls ++ [x]) i := fun j hj hji y hy => by
  have hj' : j < ls.length := by omega
  have e : (ls ++ [x])[j] = ls[j] := List.getElem_append_left hj'
  rw [e] at hy
  exact List.mem_append_left _ (h j hj' hji y hy)
theorem ClosedTo.next {es : List (Int × Int)} {ls : List Int} {i : Nat} (h : ClosedTo es ls i) {x : Int} (hx : ls[i]? = some x) (hn : ∀ y ∈ nbL x es, y ∈ ls) : ClosedTo es ls (i + 1) := fun j hj hji y hy => by
  by_cases e : j < i
  · exact h j hj e y hy
  · obtain rfl : j = i := by omega
    rw [List.getElem?_eq_getElem hj] at hx
    cases hx
    exact hn y hy
end Go.Proofs.YtplhpinaadgkkaaGreat
namespace Go.Proofs.YtplhpinaadgkkaaGreat

theorem Links.take {es : List (Int × Int)} {p : List Int} (h : Links es p) (k : Nat) : Links es (p.take k) := fun i hi => by
  rw [List.length_take] at hi
  rw [List.getElem_take, List.getElem_take]
  exact h i (by omega)
theorem Links.drop {es : List (Int × Int)} {p : List Int} (h : Links es p) (k : Nat) : Links es (p.drop k) := fun i hi => by
  rw [List.length_drop] at hi
  rw [List.getElem_drop, List.getElem_drop]
  exact h (k + i) (by omega)
theorem Links.append {es : List (Int × Int)} {p q : List Int} (h : Links es p) (k : Links es q) (hj : ∀ (h1 : 0 < p.length) (h2 : 0 < q.length), Adj es (p[p.length - 1]'(by omega)) q[0]) : Links es (p ++ q) := fun i hi => by
  rw [List.length_append] at hi
  by_cases h1 : i + 1 < p.length
  · rw [List.getElem_append_left (by omega), List.getElem_append_left h1]
    exact h i h1
  · by_cases h2 : i < p.length
    · rw [List.getElem_append_left h2, List.getElem_append_right (by omega)]
      have := hj (by omega) (by omega)
      obtain rfl : i = p.length - 1 := by omega
      simp only [show p.length - 1 + 1 - p.length = 0 by omega]
      exact this
    · rw [List.getElem_append_right (by omega), List.getElem_append_right (by omega)]
      have := k (i - p.length) (by omega)
      simp only [show i + 1 - p.length = i - p.length + 1 by omega]
      exact this
theorem Links.reverse {es : List (Int × Int)} {p : List Int} (h : Links es p) : Links es p.reverse := fun i hi => by
  rw [List.length_reverse] at hi
  rw [List.getElem_reverse, List.getElem_reverse]
  have := h (p.length - 1 - (i + 1)) (by omega)
  simp only [show p.length - 1 - (i + 1) + 1 = p.length - 1 - i by omega] at this
  exact this.symm
theorem PathL.take {n : Int} {es : List (Int × Int)} {p : List Int} (h : PathL n es p) {k : Nat} (hk : 0 < k) : PathL n es (p.take k) :=
  ⟨fun e => by have h1 : (p.take k).length = 0 := by { rw [e]; rfl }; rw [List.length_take] at h1; have := h.pos; omega, List.Sublist.nodup (List.take_sublist _ _) h.nd, fun x hx => h.inn x (List.mem_of_mem_take hx), h.lk.take k⟩
theorem PathL.drop {n : Int} {es : List (Int × Int)} {p : List Int} (h : PathL n es p) {k : Nat} (hk : k < p.length) : PathL n es (p.drop k) :=
  ⟨fun e => by have := congrArg List.length e; rw [List.length_drop] at this; simp at this; omega, List.Sublist.nodup (List.drop_sublist _ _) h.nd, fun x hx => h.inn x (List.mem_of_mem_drop hx), h.lk.drop k⟩
theorem PathL.reverse {n : Int} {es : List (Int × Int)} {p : List Int} (h : PathL n es p) : PathL n es p.reverse :=
  ⟨fun e => h.ne (List.reverse_eq_nil_iff.1 e), List.pairwise_reverse.2 (List.Pairwise.imp (fun h => Ne.symm h) h.nd), fun x hx => h.inn x (List.mem_reverse.1 hx), h.lk.reverse⟩
theorem head_at {p : List Int} {x : Int} (h : p.head? = some x) : ∃ h0 : 0 < p.length, p[0] = x := by
  cases p with
  | nil => simp at h
  | cons y l => simp at h; exact ⟨by simp, h⟩
theorem last_at {p : List Int} {x : Int} (h : p.getLast? = some x) : ∃ h0 : 0 < p.length, p[p.length - 1] = x := by
  cases hp : p with
  | nil => rw [hp] at h; simp at h
  | cons y l =>
    rw [List.getLast?_eq_getElem?] at h
    have h0 : 0 < p.length := by rw [hp]; simp
    rw [List.getElem?_eq_getElem (by omega)] at h
    cases h
    subst hp
    exact ⟨h0, rfl⟩
theorem at_last {p : List Int} (h0 : 0 < p.length) : p.getLast? = some (p[p.length - 1]'(by omega)) := by
  rw [List.getLast?_eq_getElem?, List.getElem?_eq_getElem (by omega)]
/-- A path from x to y, by vertices with Q alone. -/
def Pth (n : Int) (es : List (Int × Int)) (Q : Int → Prop) (x y : Int) : Prop := ∃ p, PathL n es p ∧ p.head? = some x ∧ p.getLast? = some y ∧ ∀ z ∈ p, Q z
theorem pth_self {n : Int} {es : List (Int × Int)} {Q : Int → Prop} {x : Int} (h : 0 ≤ x ∧ x < n) (hQ : Q x) : Pth n es Q x x :=
  ⟨[x], ⟨by simp, by simp, fun z hz => by simp at hz; subst hz; exact h, fun i hi => absurd hi (by simp)⟩, rfl, rfl, fun z hz => by simp at hz; subst hz; exact hQ⟩
theorem Pth.step {n : Int} {es : List (Int × Int)} {Q : Int → Prop} {x u v : Int} (hR : RightG n es) (h : Pth n es Q x u) (ha : Adj es u v) (hQ : Q v) : Pth n es Q x v := by
  obtain ⟨p, hp, h1, h2, h3⟩ := h
  obtain ⟨_, hv, _⟩ := ha.in hR
  by_cases hm : v ∈ p
  · obtain ⟨i, hi, rfl⟩ := List.getElem_of_mem hm
    refine ⟨p.take (i + 1), hp.take (by omega), ?_, ?_, fun z hz => h3 z (List.mem_of_mem_take hz)⟩
    · rw [List.head?_take, if_neg (by omega)]; exact h1
    · have hl : (p.take (i + 1)).length = i + 1 := by rw [List.length_take]; omega
      rw [at_last (by omega)]
      simp [hl]
  · obtain ⟨h0, hl⟩ := last_at h2
    refine ⟨p ++ [v], ⟨by simp, List.nodup_append.2 ⟨hp.nd, by simp, fun a ha' b hb => by simp at hb; subst hb; exact fun e => hm (e ▸ ha')⟩, fun z hz => ?_, hp.lk.append (fun i hi => absurd hi (by simp)) (fun _ _ => ?_)⟩, ?_, by simp, fun z hz => ?_⟩
    · rcases List.mem_append.1 hz with hz | hz
      · exact hp.inn z hz
      · simp at hz; subst hz; exact hv
    · rw [hl]; exact ha
    · rw [List.head?_append, h1]; rfl
    · rcases List.mem_append.1 hz with hz | hz
      · exact h3 z hz
      · simp at hz; subst hz; exact hQ
theorem adj_same {n : Nat} {es : List (Int × Int)} {f : Nat → Nat} (hR : RightG n es) (hT : Tells n f (prsN es)) {x y : Int} (h : Adj es x y) : f x.toNat = f y.toNat := by
  have hin := h.in hR
  obtain ⟨a, rfl⟩ : ∃ a : Nat, x = a := ⟨x.toNat, by omega⟩
  obtain ⟨b, rfl⟩ : ∃ b : Nat, y = b := ⟨y.toNat, by omega⟩
  rw [Int.toNat_natCast, Int.toNat_natCast]
  refine (hT a b (by omega) (by omega)).2 ?_
  rcases h with h | h
  · exact Cl.of (e := (a, b)) ((mem_prsN hR).2 h)
  · exact (Cl.of (e := (b, a)) ((mem_prsN hR).2 h)).symm
theorem path_same {n : Nat} {es : List (Int × Int)} {f : Nat → Nat} (hR : RightG n es) (hT : Tells n f (prsN es)) {p : List Int} (hp : Links es p) : ∀ i (h : i < p.length), f (p[i]).toNat = f (p[0]'(by omega)).toNat
  | 0, _ => rfl
  | i + 1, h => (adj_same hR hT (hp i h)).symm.trans (path_same hR hT hp i (by omega))
/-- Of one class just if there is a path. -/
theorem pth_cl {n : Nat} {es : List (Int × Int)} {f : Nat → Nat} (hR : RightG n es) (hT : Tells n f (prsN es)) {a b : Nat} (ha : a < n) (hb : b < n) : f a = f b ↔ Pth n es (fun _ => True) a b := by
  constructor
  · intro e
    have hc := (hT a b ha hb).1 e
    have := hc (fun x y => ∀ s, Pth n es (fun _ => True) s (x : Int) ↔ Pth n es (fun _ => True) s (y : Int)) (fun _ _ => Iff.rfl) (fun _ _ h s => (h s).symm) (fun _ _ _ h k s => (h s).trans (k s)) (fun e he s => by
      have he' := (mem_prsN (a := e.1) (b := e.2) hR).1 he
      exact ⟨fun h => h.step hR (Or.inl he') trivial, fun h => h.step hR (Or.inr he') trivial⟩)
    exact (this a).1 (pth_self (by omega) trivial)
  · rintro ⟨p, hp, h1, h2, _⟩
    obtain ⟨h0, e1⟩ := head_at h1
    obtain ⟨_, e2⟩ := last_at h2
    have := path_same hR hT hp.lk (p.length - 1) (by omega)
    rw [e1, e2] at this
    simpa using this.symm
theorem rch_path {es : List (Int × Int)} {l p : List Int} (hp : Links es p) (hl : ∀ z ∈ p, z ∈ l) : ∀ i (h : i < p.length), Rch es l (p[0]'(by omega)) p[i]
  | 0, _ => Rch.refl _ _ _
  | i + 1, h => (rch_path hp hl i (by omega)).step (hp i h) (hl _ (List.getElem_mem h))
end Go.Proofs.YtplhpinaadgkkaaGreat
