/-
  The document's Normal, by rows: what stands above each vertex.
  append onto a row of the call's own, of a slice that may be nil: as a step of a region that draws its order, and in a plain one.
  The document's parts (layer 4) in memory: New, Is, Same, Count, Join.
  The document's Same, SameEdges, SameGraph: are two rows, two graphs the same?
  Lists of rows in memory; the document's SameRows.
  What the laws of layer 5 ask of the program's walks: a row of contracts.
  The document's Any: a graph that is right, from anything.
  carcanetlaw03.GraphSum answers true.
-/
import Derived.Test.YtlebimolgienkaaV01
import Derived.BigQuiet
import Derived.Test.YtlebimolgienkaaV03
import Derived.Deep.OwnRows
import Derived.Deep.AppendLies
import Derived.Deep.RegionLaw
import Derived.Test.YtlebimolgienkaaV02
import Derived.Laws.AppendOwnNone
import Derived.Laws.IdiomCopy
import Derived.Deep.DeepCutAuto
import Derived.Deep.LoopGhost
import Derived.Deep.RegionHeld3
namespace Go.Proofs.Ytlebimolgienkaa
open Go.RowKit Go.Lib

theorem Try.info28 : (Try.prog.info? 28).map (fun i => (i.zero, i.size, i.bytes)) = some (some (.slice none 0 0), 1, 24) := by kernel_rfl

/-- The rows in memory, each in a block of its own. -/
structure UpAt (w : World) (g base n : Nat) (u : Nat → Value) (R : Nat → List Int) : Prop where
  lt : g < base
  bs : base ≤ w.heap.size
  row : w.rowIs g 28 n u
  own : ∀ v, v < n → w.ownsRow base 3 1 (u v) (R v).length ((R v).map (Value.int .i64))
  apart : ∀ v v', v < n → v' < n → v ≠ v' → (u v).ownBlock = none ∨ (u v).ownBlock ≠ (u v').ownBlock
theorem own_set {w : World} {base e size n : Nat} {v : Value} {xs : List Value} {p : Addr} (h : w.ownsRow base e size v n xs) (hp : p.block < base) (x : Value) : (w.setCell p x).ownsRow base e size v n xs := by
  refine ⟨h.1, ?_⟩
  rcases h.2 with hn | ⟨g, cap, cur, rfl, hb, hgg, rest⟩
  · exact .inl hn
  · exact .inr ⟨g, cap, cur, rfl, hb, by rw [Deep.blk_setCell_other _ _ _ _ (by omega)]; exact hgg, rest⟩
theorem UpAt.below {w w' : World} {g base n : Nat} {u : Nat → Value} {R : Nat → List Int} (h : UpAt w g base n u R) (hb : Below w.heap.size w w') : UpAt w' g base n u R :=
  ⟨h.lt, Nat.le_trans h.bs hb.size, h.row.of_block (hb.block _ h.row.lt), fun v hv => own_below (h.own v hv) hb, h.apart⟩
theorem UpAt.put {w w4 : World} {g base n lo : Nat} {u : Nat → Value} {R : Nat → List Int} {x : Int} {o : Obj} {g' cap' : Nat} {v' : Value} (h : UpAt w g base n u R) (hlo : lo < n) (hv' : v' = .slice (some ⟨g', 0, none⟩) ((R lo).length + 1) cap')
    (hown : w4.ownsRow base 3 1 v' ((R lo).length + 1) ((R lo).map (Value.int .i64) ++ [.int .i64 x])) (hg : (w.alloc o).grownBy w4 (u lo).ownBlock) (hat : (u lo).ownBlock = some g' ∨ g' = w.heap.size + 1) :
    UpAt (w4.setCell ⟨g, lo, none⟩ v') g base n (fun j => if j = lo then v' else u j) (fun j => if j = lo then R lo ++ [x] else R j) := by
  have hs : (w.alloc o).heap.size = w.heap.size + 1 := by simp
  have hlt := h.lt
  have hbs := h.bs
  have hgl := h.row.lt
  have hob : v'.ownBlock = some g' := by rw [hv']; rfl
  have hub : ∀ j, j < n → ∀ b, (u j).ownBlock = some b → base ≤ b ∧ b < w.heap.size := fun j hj b hb => (h.own j hj).lt b hb
  have hne : some g ≠ (u lo).ownBlock := fun e => by
    have := (hub lo hlo g e.symm).1
    omega
  refine ⟨h.lt, ?_, ?_, fun v hv => ?_, fun v v2 hv hv2 hvv => ?_⟩
  · have h1 := hg.size
    have h2 : (w4.setCell ⟨g, lo, none⟩ v').heap.size = w4.heap.size := by simp
    omega
  · refine (((h.row.alloc o).of_block (hg.block g (by omega) hne)).set lo v').congr (fun i _ => rfl)
  · refine own_set ?_ (by simpa using hlt) _
    show w4.ownsRow base 3 1 (if v = lo then v' else u v) (if v = lo then R lo ++ [x] else R v).length ((if v = lo then R lo ++ [x] else R v).map (Value.int .i64))
    by_cases e : v = lo
    · subst e
      rw [if_pos rfl, if_pos rfl]
      simpa using hown
    · rw [if_neg e, if_neg e]
      exact ((h.own v hv).alloc o).kept hg (h.apart v lo hv hlo e)
  · show (if v = lo then v' else u v : Value).ownBlock = none ∨ (if v = lo then v' else u v : Value).ownBlock ≠ (if v2 = lo then v' else u v2 : Value).ownBlock
    by_cases e : v = lo
    · subst e
      rw [if_pos rfl, if_neg (fun e => hvv e.symm), hob]
      right
      rcases hat with hat | hat
      · rcases h.apart v v2 hv hv2 hvv with h1 | h1
        · rw [hat] at h1; cases h1
        · rw [← hat]; exact h1
      · intro e
        have := (hub v2 hv2 g' e.symm).2
        omega
    · rw [if_neg e]
      by_cases e2 : v2 = lo
      · subst e2
        rw [if_pos rfl, hob]
        rcases hat with hat | hat
        · rw [← hat]; exact h.apart v v2 hv hv2 hvv
        · right
          intro e3
          have := (hub v hv g' e3).2
          omega
      · rw [if_neg e2]; exact h.apart v v2 hv hv2 hvv
theorem UpAt.iat {w : World} {g base n : Nat} {u : Nat → Value} {R : Nat → List Int} (h : UpAt w g base n u R) {v : Nat} (hv : v < n) : ∃ a cap, u v = .slice a (R v).length cap ∧ IAt w a (R v) := iat_own (h.own v hv)

/-- A graph's edges are put behind each other in its variable; a row of numbers lies elsewhere. -/
structure GAcc (w : World) (B : Nat) (m : Int) (sv : Value) (es : List (Int × Int)) (a5 : Option Addr) (S : List Int) : Prop where
  box : w.heap[B]? = some (.cells #[.int .i64 m, sv] 26 (0, 0))
  own : w.ownsRow (B + 1) 56 2 sv es.length (cellsE es)
  row : IAt w a5 S
  far : ∀ g off, 0 < S.length → a5 = some ⟨g, off, none⟩ → B < g ∧ ∀ b, sv.ownBlock = some b → b ≠ g
theorem box_put {w : World} {b : Nat} {x y v : Value} {T : TypeId} (h : w.heap[b]? = some (.cells #[x, y] T (0, 0))) : (w.setCell ⟨b, 1, none⟩ v).heap[b]? = some (.cells #[x, v] T (0, 0)) := by
  rw [heap_setCell_same w b 1 _ _ v h]; rfl
theorem GAcc.keep {w w4 : World} {B : Nat} {m : Int} {sv : Value} {es : List (Int × Int)} {a5 : Option Addr} {S : List Int} {o : Obj} (h : GAcc w B m sv es a5 S) (hg : (w.drew.alloc o).grownBy w4 sv.ownBlock) :
    w4.heap[B]? = some (.cells #[.int .i64 m, sv] 26 (0, 0)) := by
  have hB : B < w.heap.size := (Array.getElem?_eq_some_iff.1 h.box).1
  rw [hg.block B (by simp; omega) (fun e => by have := (h.own.lt B e.symm).1; omega), Below.heap_alloc w.drew _ _ hB]
  exact h.box
theorem GAcc.put {w w4 : World} {B g' cap' : Nat} {m p q : Int} {sv sv' : Value} {es : List (Int × Int)} {a5 : Option Addr} {S : List Int} {o : Obj} (h : GAcc w B m sv es a5 S) (hg : (w.drew.alloc o).grownBy w4 sv.ownBlock) (hsv : sv' = .slice (some ⟨g', 0, none⟩) (es.length + 1) cap')
    (hown : w4.ownsRow (B + 1) 56 2 sv' (es.length + 1) (cellsE es ++ [.int .i64 p, .int .i64 q])) (hat : sv.ownBlock = some g' ∨ g' = w.heap.size + 1) : GAcc (w4.setCell ⟨B, 1, none⟩ sv') B m sv' (es ++ [(p, q)]) a5 S := by
  have hs : (w.drew.alloc o).heap.size = w.heap.size + 1 := by simp
  refine ⟨box_put (h.keep hg), ?_, fun h0 => ?_, fun g off h0 ha => ⟨(h.far g off h0 ha).1, fun b hb => ?_⟩⟩
  · refine own_set ?_ (by simp) _
    rw [cellsE_append, List.length_append]
    exact hown
  · obtain ⟨g, off, ha, hlt, hc⟩ := h.row h0
    obtain ⟨h1, h2⟩ := h.far g off h0 ha
    refine ⟨g, off, ha, ?_, fun j hj => ?_⟩
    · have := hg.size
      have h3 : (w4.setCell ⟨B, 1, none⟩ sv').heap.size = w4.heap.size := by simp
      omega
    · rw [World.cell?_setCell_other _ _ _ _ (by first | (simp; done) | (simp; omega)), hg.cell_far _ (by first | (simp; done) | (simp; omega)) (fun e => h2 g e.symm rfl)]
      exact cell_alloc_old (w := w.drew) (hc j hj) _
  · obtain ⟨g1, off1, ha1, hlt, _⟩ := h.row h0
    rw [ha] at ha1
    simp only [Option.some.injEq, Addr.mk.injEq, and_true] at ha1
    rw [hsv] at hb
    simp only [Value.ownBlock, Option.some.injEq] at hb
    rcases hat with hat | hat
    · rw [← hb]; exact (h.far g off h0 ha).2 g' hat
    · omega
theorem GAcc.below {w w' : World} {B : Nat} {m : Int} {sv : Value} {es : List (Int × Int)} {a5 : Option Addr} {S : List Int} (h : GAcc w B m sv es a5 S) (hb : Below w.heap.size w w') {a6 : Option Addr} {S' : List Int} (h6 : IAt w' a6 S') (hn : ∀ g off, a6 = some ⟨g, off, none⟩ → w.heap.size ≤ g) : GAcc w' B m sv es a6 S' := by
  have hB : B < w.heap.size := (Array.getElem?_eq_some_iff.1 h.box).1
  exact ⟨(hb.block B hB).trans h.box, own_below h.own hb, h6, fun g off _ ha => ⟨by have := hn g off ha; omega, fun b hb' => by have := hn g off ha; have := (h.own.lt b hb').2; omega⟩⟩
end Go.Proofs.Ytlebimolgienkaa
namespace Go.Proofs.Ytlebimolgienkaa
open Go.RowKit Go.Lib

theorem grown_refl (w : World) (r : Option Nat) : w.grownBy w r := ⟨rfl, rfl, rfl, Nat.le_refl _, fun _ _ _ => rfl⟩

theorem wp_append_any {P : Program} (w : World) {o : Oper} {a : Act} {K : Act → World → Prop} {Q : Exit → Act → World → Prop} (s x : Operand) (t : TypeId)
    (ho : o.op = .call { callee := .builtin .append, args := #[s, x], argTypes := #[t, t] })
    (base : Nat) (e : TypeId) (i : TypeInfo) (z : Value) (size bytes : Nat) (ht : P.underlying t = some (.slice e)) (hi : P.info? e = some i) (hz : i.zero = some z)
    (hsize : i.size = size) (hby : i.bytes = bytes) (hzs : z.cells.size = size) (hsz : 0 < size)
    (v : Value) (n : Nat) (xs : List Value) (hs : a.eval s = v) (hown : w.ownsRow base e size v n xs)
    (ad : Option Addr) (m c : Nat) (news : List Value) (hx : a.eval x = .slice ad m c) (hnil : ad = none → m = 0 ∧ c = 0) (hl : news.length = m * size) (hnews : ∀ p, ad = some p → ∀ j u, news[j]? = some u → w.cell? (p.add j) = some u) (h1 : ∀ u ∈ news, u.oneCell' = true)
    (h63 : n + m ≤ maxLen) (hbytes : (n + m) * bytes ≤ 140737488355328) (hbase : base ≤ w.heap.size)
    (h : ∀ v' w', w'.ownsRow base e size v' (n + m) (xs ++ news) → w.grownBy w' v.ownBlock → (v'.ownBlock = v.ownBlock ∨ v'.ownBlock = some w.heap.size) → K (a.put o.dst v') w') : o.wp P a w K Q := by
  cases ad with
  | none =>
    obtain ⟨rfl, rfl⟩ := hnil rfl
    obtain rfl : news = [] := List.eq_nil_of_length_eq_zero (by omega)
    have hrun := run_append_owned_none (P := P) (w := w) base t o.type e i size ht hi v n xs hown
    unfold Oper.wp
    simp [execOp, ho, resolve, invoke, builtin, hs, hx, hrun, Result.andThen]
    exact h v w (by simpa using hown) (grown_refl _ _) (Or.inl rfl)
  | some p =>
    obtain ⟨v', w', hr, h2, h3, _, h5⟩ := run_append_own_at (P := P) w base t o.type e i z size bytes ht hi hz hsize hby hzs hsz v n xs hown p m c news hl (hnews p rfl) h1 h63 hbytes hbase
    unfold Oper.wp execOp
    simp only [ho, resolve, invoke, builtin, Sem.run_bind, Sem.run_pure, Result.andThen_ok, List.map_toArray, List.map_cons, List.map_nil, hs, hx, hr]
    exact h v' w' h2 h3 h5

theorem wpList_append_any {P : Program} (w : World) {ops : Array Oper} {rest : List Oper} {o : Oper} {a : Act} {Q : Exit → Act → World → Prop} (hgd : o.guard = none) (s x : Operand) (t : TypeId)
    (ho : o.op = .call { callee := .builtin .append, args := #[s, x], argTypes := #[t, t] })
    (base : Nat) (e : TypeId) (i : TypeInfo) (z : Value) (size bytes : Nat) (ht : P.underlying t = some (.slice e)) (hi : P.info? e = some i) (hz : i.zero = some z)
    (hsize : i.size = size) (hby : i.bytes = bytes) (hzs : z.cells.size = size) (hsz : 0 < size)
    (v : Value) (n : Nat) (xs : List Value) (hs : a.eval s = v) (hown : w.ownsRow base e size v n xs)
    (ad : Option Addr) (m c : Nat) (news : List Value) (hx : a.eval x = .slice ad m c) (hnil : ad = none → m = 0 ∧ c = 0) (hl : news.length = m * size) (hnews : ∀ p, ad = some p → ∀ j u, news[j]? = some u → w.cell? (p.add j) = some u) (h1 : ∀ u ∈ news, u.oneCell' = true)
    (h63 : n + m ≤ maxLen) (hbytes : (n + m) * bytes ≤ 140737488355328) (hbase : base ≤ w.heap.size)
    (h : ∀ v' w', w'.ownsRow base e size v' (n + m) (xs ++ news) → w.grownBy w' v.ownBlock → (v'.ownBlock = v.ownBlock ∨ v'.ownBlock = some w.heap.size) → wpList P ops Q rest (a.put o.dst v') w') : wpList P ops Q (o :: rest) a w :=
  wpList_plain hgd fun _ hK => wp_append_any w s x t ho base e i z size bytes ht hi hz hsize hby hzs hsz v n xs hs hown ad m c news hx hnil hl hnews h1 h63 hbytes hbase fun v' w' h2 h3 h4 => hK _ _ (h v' w' h2 h3 h4)

theorem hid2 {p q : Prop} (h : p) (h' : q) : p ∧ q := ⟨h, h'⟩
end Go.Proofs.Ytlebimolgienkaa
namespace Go.Proofs.Ytlebimolgienkaa
open Go.RowKit Go.Lib

/-- All blocks that were there are as they were, but for some. -/
structure KeptBut (S : Nat → Prop) (w w' : World) : Prop where
  os : w'.os = w.os
  tape : w'.tape = w.tape
  output : w'.output = w.output
  size : w.heap.size ≤ w'.heap.size
  block : ∀ k, k < w.heap.size → ¬ S k → w'.heap[k]? = w.heap[k]?
theorem KeptBut.refl (S : Nat → Prop) (w : World) : KeptBut S w w := ⟨rfl, rfl, rfl, Nat.le_refl _, fun _ _ _ => rfl⟩
theorem KeptBut.trans {S : Nat → Prop} {a b c : World} (h : KeptBut S a b) (k : KeptBut S b c) : KeptBut S a c :=
  ⟨k.os.trans h.os, k.tape.trans h.tape, k.output.trans h.output, Nat.le_trans h.size k.size, fun i hi hs => (k.block i (Nat.lt_of_lt_of_le hi h.size) hs).trans (h.block i hi hs)⟩
theorem KeptBut.mono {S S' : Nat → Prop} {a b : World} (h : KeptBut S a b) (hs : ∀ k, k < a.heap.size → S k → S' k) : KeptBut S' a b := ⟨h.os, h.tape, h.output, h.size, fun k hk hn => h.block k hk (fun e => hn (hs k hk e))⟩
theorem KeptBut.of_below {B : Nat} {a b : World} (h : Below B a b) : KeptBut (fun k => B ≤ k) a b := ⟨h.os, h.tape, h.output, h.size, fun k _ hn => h.block k (by omega)⟩
theorem KeptBut.below {S : Nat → Prop} {B : Nat} {a b : World} (h : KeptBut S a b) (hB : B ≤ a.heap.size) (hs : ∀ k, k < a.heap.size → S k → B ≤ k) : Below B a b := ⟨h.os, h.tape, h.output, h.size, fun k hk => h.block k (by omega) (fun e => by have := hs k (by omega) e; omega)⟩
theorem kept_set (w : World) (p : Addr) (v : Value) : KeptBut (fun k => k = p.block) w (w.setCell p v) :=
  ⟨rfl, rfl, rfl, by simp, fun _ _ hn => Below.heap_setCell _ _ _ _ hn⟩
theorem KeptBut.cell {S : Nat → Prop} {w w' : World} (h : KeptBut S w w') {p : Addr} (hp : p.block < w.heap.size) (hs : ¬ S p.block) : w'.cell? p = w.cell? p := World.cell?_of_block (w := w) (h.block p.block hp hs)
theorem KeptBut.frozen {S : Nat → Prop} {w w' : World} (h : KeptBut S w w') {p : Addr} (hp : p.block < w.heap.size) (hs : ¬ S p.block) : w'.frozen? p = w.frozen? p := World.frozen?_of_block (w := w) (h.block p.block hp hs)

/-- The numbers 0 to n-1, as cells. -/
def upto (n : Nat) : List Int := (List.range n).map (fun i : Nat => (i : Int))
theorem upto_len (n : Nat) : (upto n).length = n := by simp [upto]
theorem sl_own {w : World} {base : Nat} {e : TypeId} {size : Nat} {v : Value} {n : Nat} {xs : List Value} (h : w.ownsRow base e size v n xs) : ∃ a cap, v = .slice a n cap ∧ Sl a cap n := by
  rcases h.2 with ⟨hv, h0⟩ | ⟨g, cap, cur, hv, _, _, hc, _⟩
  · exact ⟨none, 0, by rw [hv, h0], by rw [h0]; exact sl_nil⟩
  · exact ⟨_, cap, hv, sl_some hc⟩
/-- A part of the document's: a variable with a row of the least numbers. -/
structure QAt (w : World) (b g : Nat) (a : Option Addr) (n cap : Nat) (f : Nat → Nat) : Prop where
  box : w.cell? ⟨b, 0, none⟩ = some (.slice a n cap)
  row : 0 < n → a = some ⟨g, 0, none⟩ ∧ Row1 w g n (fun i => (f i : Int))
  ne : g ≠ b
theorem QAt.kept {S : Nat → Prop} {w w' : World} {b g : Nat} {a : Option Addr} {n cap : Nat} {f : Nat → Nat} (h : QAt w b g a n cap f) (hk : KeptBut S w w') (hb : ¬ S b) (hg : 0 < n → ¬ S g) : QAt w' b g a n cap f := by
  refine ⟨(hk.cell (p := ⟨b, 0, none⟩) (block_lt_of_cell h.box) hb).trans h.box, fun h0 => ?_, h.ne⟩
  obtain ⟨ha, hr⟩ := h.row h0
  exact ⟨ha, Nat.lt_of_lt_of_le hr.1 hk.size, fun j hj => ⟨(hk.cell (p := ⟨g, j, none⟩) hr.1 (hg h0)).trans (hr.2 j hj).1, (hk.frozen (p := ⟨g, j, none⟩) hr.1 (hg h0)).trans (hr.2 j hj).2⟩⟩
theorem QAt.below {w w' : World} {b g : Nat} {a : Option Addr} {n cap : Nat} {f : Nat → Nat} (h : QAt w b g a n cap f) (hk : Below w.heap.size w w') : QAt w' b g a n cap f := by
  refine ⟨(hk.cell (p := ⟨b, 0, none⟩) (block_lt_of_cell h.box)).trans h.box, fun h0 => ?_, h.ne⟩
  obtain ⟨ha, hr⟩ := h.row h0
  exact ⟨ha, Nat.lt_of_lt_of_le hr.1 hk.size, fun j hj => ⟨(hk.cell (p := ⟨g, j, none⟩) hr.1).trans (hr.2 j hj).1, (hk.frozen (p := ⟨g, j, none⟩) hr.1).trans (hr.2 j hj).2⟩⟩
theorem QAt.iat {w : World} {b g : Nat} {a : Option Addr} {n cap : Nat} {f : Nat → Nat} (h : QAt w b g a n cap f) {i : Nat} (hi : i < n) : a = some ⟨g, 0, none⟩ ∧ w.cell? ⟨g, i, none⟩ = some (.int .i64 (f i)) ∧ w.frozen? ⟨g, i, none⟩ = false :=
  ⟨(h.row (by omega)).1, ((h.row (by omega)).2.2 i hi).1, ((h.row (by omega)).2.2 i hi).2⟩

end Go.Proofs.Ytlebimolgienkaa
namespace Go.Proofs.Ytlebimolgienkaa
open Go.RowKit Go.Lib

theorem same_upto {α : Type} {xs ys : List α} (hl : xs.length = ys.length) (h : ∀ j (h1 : j < xs.length) (h2 : j < ys.length), xs[j] = ys[j]) : xs = ys := List.ext_getElem hl h

set_option maxHeartbeats 1000000 in
set_option maxRecDepth 100000 in
theorem same_any (a1 a2 : Option Addr) (c1 c2 : Nat) (xs ys : List Int) (r : Bool) (w : World) (hN : xs.length ≤ 1000000) (h1 : IAt w a1 xs) (h2 : IAt w a2 ys) (hr : r = true ↔ xs = ys) :
    Calls Try.prog 16 #[.slice a1 xs.length c1, .slice a2 ys.length c2] w fun e w' => e = .returned (.bool r) ∧ Below w.heap.size w w' := by
  have H1 : Hid (IAt w a1 xs) := h1
  have H2 : Hid (IAt w a2 ys) := h2
  have HR : Hid (r = true ↔ xs = ys) := hr
  obtain ⟨N, hNe⟩ := ex_eq xs.length
  obtain ⟨M, hMe⟩ := ex_eq ys.length
  have HN : Hid (N = xs.length) := hNe
  have HM : Hid (M = ys.length) := hMe
  rw [← hNe] at hN ⊢
  rw [← hMe]
  clear h1 h2 hr hNe hMe
  by_cases hl : N = M
  · subst hl
    go_enter Try.func16, Try.ntmps16
    go_wp2
    go_loopw [5] (fun i wr => ∃ k : Nat, k ≤ N ∧ i = .int .i64 k ∧ Hid (∀ j (h1 : j < xs.length) (h2 : j < ys.length), j < k → xs[j] = ys[j]) ∧ Below w.heap.size w wr) (fun i _ => N - (RowKit.intOf i).toNat)
    case atStart => exact ⟨0, Nat.zero_le _, rfl, fun j _ _ h => absurd h (by omega), Below.refl _ _⟩
    case round =>
      obtain ⟨k, hk, rfl, heq, hbr⟩ := hrel
      by_cases hlt : k < N
      · have k1 : k < xs.length := by rw [← HN.out]; exact hlt
        have k2 : k < ys.length := by rw [← HM.out]; exact hlt
        obtain ⟨g1, o1, rfl, hg1, hc1⟩ := H1.out (by omega)
        obtain ⟨g2, o2, rfl, hg2, hc2⟩ := H2.out (by omega)
        have d1 := (hbr.cell (p := ⟨g1, o1 + k, none⟩) hg1).trans (hc1 k k1)
        have d2 := (hbr.cell (p := ⟨g2, o2 + k, none⟩) hg2).trans (hc2 k k2)
        obtain ⟨x, hx⟩ := ex_eq xs[k]
        obtain ⟨y, hy⟩ := ex_eq ys[k]
        rw [← hx] at d1
        rw [← hy] at d2
        have HXY : Hid (x = xs[k] ∧ y = ys[k]) := ⟨hx, hy⟩
        have q1 : (k : Int) < (N : Int) := by omega
        clear hc1 hc2 hx hy
        by_cases hxy : x = y
        · subst hxy
          have HEQ : Hid (∀ j (h1 : j < xs.length) (h2 : j < ys.length), j < k + 1 → xs[j] = ys[j]) := fun j h1 h2 hj => by
            by_cases e : j < k
            · exact heq.out j h1 h2 e
            · obtain rfl : j = k := by omega
              rw [← HXY.out.1, ← HXY.out.2]
          go_wp2
          go_quiet (fail)
          go_wp2
          go_roundw
          case rel => exact ⟨k + 1, by omega, by go_num, HEQ, below_drewN hbr _⟩
          case measure => simp [RowKit.intOf]; omega
        · obtain rfl : r = false := b_false HR.out (fun e => hxy (by rw [HXY.out.1, HXY.out.2]; simp only [e]))
          have hq : (x == y) = false := beq_eq_false_iff_ne.2 hxy
          clear hxy HR
          go_wp2
          go_quiet (fail)
          go_wp2
          go_ret
          exact ⟨rfl, below_drewN hbr _⟩
      · obtain rfl : k = N := by omega
        obtain rfl : r = true := HR.out.2 (same_upto (by rw [← HN.out, ← HM.out]) (fun j h1 h2 => heq.out j h1 h2 (by rw [HN.out]; exact h1)))
        clear HR
        go_wp2
        go_ret
        exact ⟨rfl, hbr⟩
  · obtain rfl : r = false := b_false HR.out (fun e => hl (by rw [HN.out, HM.out, e]))
    have hq : ((N : Int) == (M : Int)) = false := beq_eq_false_iff_ne.2 (by omega)
    clear HR hl
    go_enter Try.func16, Try.ntmps16
    go_wp2
    go_ret
    exact ⟨rfl, Below.refl _ _⟩

end Go.Proofs.Ytlebimolgienkaa
namespace Go.Proofs.Ytlebimolgienkaa
open Go.RowKit Go.Lib

theorem KeptBut.of_grown {w w' : World} {row : Option Nat} (hg : w.grownBy w' row) : KeptBut (fun k => some k = row) w w' := ⟨hg.os, hg.tape, hg.output, hg.size, fun k hk hn => hg.block k hk hn⟩
theorem kept_alloc (w : World) (o : Obj) (S : Nat → Prop) : KeptBut S w (w.alloc o) := (KeptBut.of_below ((Below.refl w.heap.size w).alloc (Nat.le_refl _) o)).mono (fun k hk hs => absurd hs (by omega))
theorem KeptBut.of_whole {w w' : World} (S : Nat → Prop) (h : Below w.heap.size w w') : KeptBut S w w' := (KeptBut.of_below h).mono (fun k hk hs => absurd hs (by omega))
theorem IAt.kept {S : Nat → Prop} {w w' : World} {a : Option Addr} {xs : List Int} (h : IAt w a xs) (hk : KeptBut S w w') (hs : ∀ g off, a = some ⟨g, off, none⟩ → 0 < xs.length → ¬ S g) : IAt w' a xs := fun h0 => by
  obtain ⟨g, off, ha, hg, hc⟩ := h h0
  exact ⟨g, off, ha, Nat.lt_of_lt_of_le hg hk.size, fun k hk' => (hk.cell (p := ⟨g, off + k, none⟩) hg (hs g off ha h0)).trans (hc k hk')⟩
theorem own_kept {S : Nat → Prop} {w w' : World} {base : Nat} {e : TypeId} {size : Nat} {v : Value} {n : Nat} {xs : List Value} (h : w.ownsRow base e size v n xs) (hk : KeptBut S w w') (hs : ∀ g, v.ownBlock = some g → ¬ S g) : w'.ownsRow base e size v n xs := by
  refine ⟨h.1, ?_⟩
  rcases h.2 with h2 | ⟨g, cap, cur, hv, hg, hgc, r⟩
  · exact Or.inl h2
  · exact Or.inr ⟨g, cap, cur, hv, hg, (hk.block g (Array.getElem?_eq_some_iff.1 hgc).1 (hs g (by rw [hv]; rfl))).trans hgc, r⟩

/-- A list of rows in memory. -/
def LLAt (w : World) (a : Option Addr) (LL : List (List Int)) : Prop :=
  0 < LL.length → ∃ g off, a = some ⟨g, off, none⟩ ∧ g < w.heap.size ∧ ∀ k (hk : k < LL.length), ∃ ak ck, w.cell? ⟨g, off + k, none⟩ = some (.slice ak LL[k].length ck) ∧ IAt w ak LL[k]
theorem LLAt.below {w w' : World} {a : Option Addr} {LL : List (List Int)} (h : LLAt w a LL) (hb : Below w.heap.size w w') : LLAt w' a LL := fun h0 => by
  obtain ⟨g, off, ha, hg, hc⟩ := h h0
  refine ⟨g, off, ha, Nat.lt_of_lt_of_le hg hb.size, fun k hk => ?_⟩
  obtain ⟨ak, ck, h1, h2⟩ := hc k hk
  exact ⟨ak, ck, (hb.cell (p := ⟨g, off + k, none⟩) hg).trans h1, h2.below hb⟩
theorem LLAt.at {w : World} {a : Option Addr} {LL : List (List Int)} (h : LLAt w a LL) {k : Nat} (hk : k < LL.length) : ∃ g off ak ck, a = some ⟨g, off, none⟩ ∧ w.cell? ⟨g, off + k, none⟩ = some (.slice ak LL[k].length ck) ∧ IAt w ak LL[k] := by
  obtain ⟨g, off, ha, hg, hc⟩ := h (by omega)
  obtain ⟨ak, ck, h1, h2⟩ := hc k hk
  exact ⟨g, off, ak, ck, ha, h1, h2⟩

/-- A list of rows of the call's own: the headers in one block, the rows in others, all of them in blocks of A. -/
def LLOwn (w : World) (base : Nat) (A : Nat → Prop) (v : Value) (us : List Value) (LL : List (List Int)) : Prop :=
  w.ownsRow base 28 1 v LL.length us ∧ us.length = LL.length ∧ (∀ g, v.ownBlock = some g → A g) ∧
    ∀ k (hk : k < LL.length), ∃ ak ck, us[k]? = some (.slice ak LL[k].length ck) ∧ IAt w ak LL[k] ∧ ∀ g off, ak = some ⟨g, off, none⟩ → 0 < LL[k].length → A g ∧ v.ownBlock ≠ some g
theorem LLOwn.kept {S A : Nat → Prop} {w w' : World} {base : Nat} {v : Value} {us : List Value} {LL : List (List Int)} (h : LLOwn w base A v us LL) (hk : KeptBut S w w') (hs : ∀ k, A k → k < w.heap.size → ¬ S k) : LLOwn w' base A v us LL := by
  refine ⟨own_kept h.1 hk (fun g hg => hs g (h.2.2.1 g hg) (h.1.lt g hg).2), h.2.1, h.2.2.1, fun k hk' => ?_⟩
  obtain ⟨ak, ck, h1, h2, h3⟩ := h.2.2.2 k hk'
  exact ⟨ak, ck, h1, h2.kept hk (fun g off ha h0 => hs g (h3 g off ha h0).1 (by
    obtain ⟨g', off', ha', hg', _⟩ := h2 h0
    rw [ha] at ha'
    cases ha'
    exact hg')), h3⟩
theorem LLOwn.below {A : Nat → Prop} {w w' : World} {base : Nat} {v : Value} {us : List Value} {LL : List (List Int)} (h : LLOwn w base A v us LL) (hb : Below w.heap.size w w') : LLOwn w' base A v us LL :=
  h.kept (KeptBut.of_whole (fun _ => False) hb) (fun _ _ _ e => e)
theorem LLOwn.put {A : Nat → Prop} {w w4 : World} {base : Nat} {v v4 : Value} {us : List Value} {LL : List (List Int)} {L : List Int} {ar : Option Addr} {cr : Nat} {X : Obj} (h : LLOwn w base A v us LL) (hI : IAt w ar L)
    (hA : ∀ g off, ar = some ⟨g, off, none⟩ → 0 < L.length → A g ∧ v.ownBlock ≠ some g) (hnew : A (w.alloc X).heap.size)
    (ho : w4.ownsRow base 28 1 v4 (LL.length + 1) (us ++ [.slice ar L.length cr])) (hg : (w.alloc X).grownBy w4 v.ownBlock) (hat : v4.ownBlock = v.ownBlock ∨ v4.ownBlock = some (w.alloc X).heap.size) :
    LLOwn w4 base A v4 (us ++ [.slice ar L.length cr]) (LL ++ [L]) := by
  have hk : KeptBut (fun k => some k = v.ownBlock) w w4 := (kept_alloc w X _).trans (KeptBut.of_grown hg)
  have hs : (w.alloc X).heap.size = w.heap.size + 1 := by simp
  have hne : ∀ g, g < w.heap.size → v.ownBlock ≠ some g → v4.ownBlock ≠ some g := fun g h1 h2 e => by
    rcases hat with h3 | h3
    · exact h2 (h3.symm.trans e)
    · rw [h3, hs] at e; simp only [Option.some.injEq] at e; omega
  refine ⟨by rw [List.length_append]; exact ho, by simp [h.2.1], fun g e => ?_, fun k hk' => ?_⟩
  · rcases hat with h3 | h3
    · exact h.2.2.1 g (h3.symm.trans e)
    · rw [h3] at e; simp only [Option.some.injEq] at e; rw [← e]; exact hnew
  · by_cases hlt : k < LL.length
    · obtain ⟨ak, ck, h1, h2, h3⟩ := h.2.2.2 k hlt
      have e1 : (LL ++ [L])[k] = LL[k] := List.getElem_append_left hlt
      rw [e1]
      refine ⟨ak, ck, by rw [List.getElem?_append_left (by rw [h.2.1]; exact hlt)]; exact h1, h2.kept hk (fun g off ha h0 e => (h3 g off ha h0).2 e.symm), fun g off ha h0 => ⟨(h3 g off ha h0).1, hne g ?_ (h3 g off ha h0).2⟩⟩
      obtain ⟨g', off', ha', hg', _⟩ := h2 h0
      rw [ha] at ha'
      cases ha'
      exact hg'
    · obtain rfl : k = LL.length := by simp at hk'; omega
      have e1 : (LL ++ [L])[LL.length] = L := by simp
      rw [e1]
      refine ⟨ar, cr, by rw [← h.2.1]; simp, hI.kept hk (fun g off ha h0 e => (hA g off ha h0).2 e.symm), fun g off ha h0 => ⟨(hA g off ha h0).1, hne g ?_ (hA g off ha h0).2⟩⟩
      obtain ⟨g', off', ha', hg', _⟩ := hI h0
      rw [ha] at ha'
      cases ha'
      exact hg'
theorem LLOwn.at {A : Nat → Prop} {w : World} {base : Nat} {v : Value} {us : List Value} {LL : List (List Int)} (h : LLOwn w base A v us LL) : ∃ a cap, v = .slice a LL.length cap ∧ Sl a cap LL.length ∧ LLAt w a LL := by
  obtain ⟨a, cap, hv, hsl⟩ := sl_own h.1
  refine ⟨a, cap, hv, hsl, fun h0 => ?_⟩
  obtain ⟨g, cap', hv', hb, hg, hc, hcs⟩ := own_row h.1 h0
  rw [hv] at hv'
  simp only [Value.slice.injEq, true_and] at hv'
  refine ⟨g, 0, hv'.1, hg, fun k hk => ?_⟩
  obtain ⟨ak, ck, h1, h2, _⟩ := h.2.2.2 k hk
  exact ⟨ak, ck, by rw [Nat.zero_add]; exact hcs k _ h1, h2⟩

theorem boolR_of (p : Prop) : ∃ r : Bool, r = true ↔ p := by
  by_cases h : p
  · exact ⟨true, ⟨fun _ => h, fun _ => rfl⟩⟩
  · exact ⟨false, ⟨fun h' => (by cases h'), fun h' => absurd h' h⟩⟩
theorem llsame_upto {LL MM : List (List Int)} (hl : LL.length = MM.length) (h : ∀ j (h1 : j < LL.length) (h2 : j < MM.length), LL[j] = MM[j]) : LL = MM := List.ext_getElem hl h

set_option maxHeartbeats 2000000 in
set_option maxRecDepth 100000 in
theorem sameRows_any (a1 a2 : Option Addr) (c1 c2 : Nat) (LL MM : List (List Int)) (r : Bool) (w : World) (hN : LL.length ≤ 1000000) (hR : ∀ L ∈ LL, L.length ≤ 1000000) (h1 : LLAt w a1 LL) (h2 : LLAt w a2 MM) (hr : r = true ↔ LL = MM) :
    Calls Try.prog 17 #[.slice a1 LL.length c1, .slice a2 MM.length c2] w fun e w' => e = .returned (.bool r) ∧ Below w.heap.size w w' := by
  have H1 := hid h1
  have H2 := hid h2
  have HR := hid hr
  have HRR := hid hR
  obtain ⟨N, hNe⟩ := ex_eq LL.length
  obtain ⟨M, hMe⟩ := ex_eq MM.length
  have HN := hid hNe
  have HM := hid hMe
  rw [← hNe] at hN ⊢
  rw [← hMe]
  clear h1 h2 hr hNe hMe hR
  by_cases hl : N = M
  · subst hl
    go_enter Try.func17, Try.ntmps17
    go_wp2
    go_loopg [5] N (fun G i wz => ∃ k : Nat, k ≤ N ∧ N - k ≤ G ∧ i = .int .i64 k ∧ Hid (∀ j (h1 : j < LL.length) (h2 : j < MM.length), j < k → LL[j] = MM[j]) ∧ Below w.heap.size w wz)
    case atStart => exact ⟨0, Nat.zero_le _, by omega, rfl, fun j _ _ h => absurd h (by omega), Below.refl _ _⟩
    case round =>
      obtain ⟨k, hk, hG, rfl, heq, hbr⟩ := hrel
      by_cases hlt : k < N
      · have k1 : k < LL.length := by rw [← HN.out]; exact hlt
        have k2 : k < MM.length := by rw [← HM.out]; exact hlt
        obtain ⟨g1, o1, x1, y1, rfl, d1, i1⟩ := (H1.out.below hbr).at k1
        obtain ⟨g2, o2, x2, y2, rfl, d2, i2⟩ := (H2.out.below hbr).at k2
        obtain ⟨s, hs⟩ := boolR_of (LL[k] = MM[k])
        have CS : Hid (∀ W, Below w.heap.size w W → IAt W x1 LL[k] → IAt W x2 MM[k] → Calls Try.prog 16 #[.slice x1 LL[k].length y1, .slice x2 MM[k].length y2] W fun e w' => e = .returned (.bool s) ∧ Below W.heap.size W w') := fun W _ e1 e2 => same_any x1 x2 y1 y2 _ _ s W (HRR.out _ (List.getElem_mem _)) e1 e2 hs
        obtain ⟨n1, hn1⟩ := ex_eq LL[k].length
        obtain ⟨n2, hn2⟩ := ex_eq MM[k].length
        rw [← hn1] at d1
        rw [← hn2] at d2
        have CQ : Hid (Calls Try.prog 16 #[.slice x1 n1 y1, .slice x2 n2 y2] wr.drew fun e w' => e = .returned (.bool s) ∧ Below wr.heap.size wr.drew w') := by
          show Calls _ _ _ _ _
          rw [hn1, hn2]
          exact CS.out wr.drew hbr.drew i1 i2
        have q1 : (k : Int) < (N : Int) := by omega
        have HS := hid hs
        have hS := hid2 (show wr.drew.cell? ⟨g1, o1 + k, none⟩ = some (.slice x1 n1 y1) from d1) (show wr.drew.cell? ⟨g2, o2 + k, none⟩ = some (.slice x2 n2 y2) from d2)
        have HKP : Hid (∀ W, Below wr.heap.size wr.drew W → (W.cell? ⟨g1, o1 + k, none⟩ = some (.slice x1 n1 y1) ∧ W.cell? ⟨g2, o2 + k, none⟩ = some (.slice x2 n2 y2)) ∧ Below w.heap.size w W) := fun W h =>
          ⟨⟨(h.cell (p := ⟨g1, o1 + k, none⟩) (block_lt_of_cell d1)).trans d1, (h.cell (p := ⟨g2, o2 + k, none⟩) (block_lt_of_cell d2)).trans d2⟩, hbr.drew.trans (h.mono hbr.size)⟩
        clear hs hn1 hn2 i1 i2 CS
        cases s with
        | true =>
          have HEQ : Hid (∀ j (h1 : j < LL.length) (h2 : j < MM.length), j < k + 1 → LL[j] = MM[j]) := fun j h1 h2 hj => by
            by_cases e : j < k
            · exact heq.out j h1 h2 e
            · obtain rfl : j = k := by omega
              exact HS.out.1 rfl
          go_wp2_with fail
          go_region_held3 (fun X => X.cell? ⟨g1, o1 + k, none⟩ = some (.slice x1 n1 y1) ∧ X.cell? ⟨g2, o2 + k, none⟩ = some (.slice x2 n2 y2)) (first | exact hS | exact hS7)
            (first | (go_at_call 16; refine CQ.out.mono ?_; rintro e w7 ⟨rfl, hb7⟩; obtain ⟨hS7, hb8⟩ := HKP.out w7 hb7))
          all_goals
            clear hS hS7 hb7 HKP CQ d1 d2
            go_wp2
            go_roundg (N - (k + 1))
            case measure => omega
            case rel => exact ⟨k + 1, by omega, Nat.le_refl _, by go_num, HEQ, hb8⟩
        | false =>
          obtain rfl : r = false := b_false HR.out (fun e => by subst e; have := HS.out.2 rfl; cases this)
          clear HR
          go_wp2_with fail
          go_region_held3 (fun X => X.cell? ⟨g1, o1 + k, none⟩ = some (.slice x1 n1 y1) ∧ X.cell? ⟨g2, o2 + k, none⟩ = some (.slice x2 n2 y2)) (first | exact hS | exact hS7)
            (first | (go_at_call 16; refine CQ.out.mono ?_; rintro e w7 ⟨rfl, hb7⟩; obtain ⟨hS7, hb8⟩ := HKP.out w7 hb7))
          all_goals
            clear hS hS7 hb7 HKP CQ d1 d2
            go_wp2
            go_ret
            exact ⟨rfl, hb8⟩
      · obtain rfl : k = N := by omega
        obtain rfl : r = true := HR.out.2 (llsame_upto (by rw [← HN.out, ← HM.out]) (fun j h1 h2 => heq.out j h1 h2 (by rw [HN.out]; exact h1)))
        clear HR
        go_wp2
        go_ret
        exact ⟨rfl, hbr⟩
  · obtain rfl : r = false := b_false HR.out (fun e => hl (by rw [HN.out, HM.out, e]))
    have hq : ((N : Int) == (M : Int)) = false := beq_eq_false_iff_ne.2 (by omega)
    clear HR hl
    go_enter Try.func17, Try.ntmps17
    go_wp2
    go_ret
    exact ⟨rfl, Below.refl _ _⟩
end Go.Proofs.Ytlebimolgienkaa
namespace Go.Proofs.Ytlebimolgienkaa
open Go.RowKit Go.Lib

/-- What is known of a slice that came in, beside its cells. -/
def Slw (a : Option Addr) (cap n : Nat) : Prop := n ≤ cap ∧ (a = none → cap = 0)
theorem Sl.w {a : Option Addr} {cap n : Nat} (h : Sl a cap n) : Slw a cap n := ⟨h.1, h.2.1⟩
/-- Numbers as a machine has them. -/
def WfR (LL : List (List Int)) : Prop := ∀ L ∈ LL, ∀ x ∈ L, (Lit.int .i64 x).wf = true
/-- Rows in memory, with what is known of their slices. -/
def LLS (w : World) (a : Option Addr) (LL : List (List Int)) : Prop :=
  0 < LL.length → ∃ g off, a = some ⟨g, off, none⟩ ∧ g < w.heap.size ∧ ∀ k (hk : k < LL.length), ∃ ak ck, w.cell? ⟨g, off + k, none⟩ = some (.slice ak LL[k].length ck) ∧ IAt w ak LL[k] ∧ Slw ak ck LL[k].length
theorem LLS.below {w w' : World} {a : Option Addr} {LL : List (List Int)} (h : LLS w a LL) (hb : Below w.heap.size w w') : LLS w' a LL := fun h0 => by
  obtain ⟨g, off, ha, hg, hc⟩ := h h0
  refine ⟨g, off, ha, Nat.lt_of_lt_of_le hg hb.size, fun k hk => ?_⟩
  obtain ⟨ak, ck, h1, h2, h3⟩ := hc k hk
  exact ⟨ak, ck, (hb.cell (p := ⟨g, off + k, none⟩) hg).trans h1, h2.below hb, h3⟩
theorem LLS.at {w : World} {a : Option Addr} {LL : List (List Int)} (h : LLS w a LL) {k : Nat} (hk : k < LL.length) : ∃ g off ak ck, a = some ⟨g, off, none⟩ ∧ w.cell? ⟨g, off + k, none⟩ = some (.slice ak LL[k].length ck) ∧ IAt w ak LL[k] ∧ Slw ak ck LL[k].length := by
  obtain ⟨g, off, ha, hg, hc⟩ := h (by omega)
  obtain ⟨ak, ck, h1, h2, h3⟩ := hc k hk
  exact ⟨g, off, ak, ck, ha, h1, h2, h3⟩
end Go.Proofs.Ytlebimolgienkaa
namespace Go.Proofs.Ytlebimolgienkaa
open Go.RowKit Go.Lib

theorem allIn_put {n : Int} {l : List (Int × Int)} {p q : Int} (h : AllIn n l) (hp : 0 ≤ p ∧ p < n) (hq : 0 ≤ q ∧ q < n) : AllIn n (l ++ [(p, q)]) := fun e he => by
  rcases List.mem_append.1 he with h1 | h1
  · exact h e h1
  · simp at h1; subst h1; exact ⟨hp, hq⟩
/-- Told edges, each between two of m vertices, lie behind each other in a row of the call's own. -/
structure Told (w : World) (base m k : Nat) (v : Value) (P : List (Int × Int)) : Prop where
  own : w.ownsRow base 56 2 v P.length (cellsE P)
  all : AllIn m P
  len : P.length ≤ k
  pos : 0 < m ∨ P = []
theorem Told.put {w w4 : World} {base m k p q : Nat} {v v4 : Value} {P : List (Int × Int)} (h : Told w base m k v P) (hp : p < m) (hq : q < m) (ho : w4.ownsRow base 56 2 v4 (P.length + 1) (cellsE P ++ [.int .i64 p, .int .i64 q])) : Told w4 base m (k + 1) v4 (P ++ [((p : Int), (q : Int))]) :=
  ⟨by rw [cellsE_append, List.length_append]; exact ho, allIn_put h.all ⟨by omega, by omega⟩ ⟨by omega, by omega⟩, by have := h.len; simp; omega, Or.inl (by omega)⟩
end Go.Proofs.Ytlebimolgienkaa
namespace Go.Proofs.Ytlebimolgienkaa
open Go.RowKit Go.Lib

/-- A sum over the vertices below n. -/
def sumN (f : Nat → Nat) : Nat → Nat
  | 0 => 0
  | n + 1 => sumN f n + f n
theorem sumN_add (f g : Nat → Nat) (n : Nat) : sumN (fun v => f v + g v) n = sumN f n + sumN g n := by
  induction n with
  | zero => rfl
  | succ n ih => simp only [sumN, ih]; omega
theorem sumN_congr {f g : Nat → Nat} (h : ∀ v, f v = g v) (n : Nat) : sumN f n = sumN g n := by
  induction n with
  | zero => rfl
  | succ n ih => simp only [sumN, ih, h]
theorem sumN_zero (n : Nat) : sumN (fun _ => 0) n = 0 := by
  induction n with
  | zero => rfl
  | succ n ih => simp only [sumN, ih]
theorem sumN_at (a n : Nat) : sumN (fun v => if v = a then 1 else 0) n = if a < n then 1 else 0 := by
  induction n with
  | zero => rfl
  | succ n ih =>
    simp only [sumN, ih]
    by_cases h1 : a < n
    · rw [if_pos h1, if_neg (by omega), if_pos (by omega)]
    · by_cases h2 : n = a
      · rw [if_neg h1, if_pos h2, if_pos (by omega)]
      · rw [if_neg h1, if_neg h2, if_neg (by omega)]
theorem sumN_le (f : Nat → Nat) {a n : Nat} (h : a ≤ n) : sumN f a ≤ sumN f n := by
  induction n with
  | zero => obtain rfl : a = 0 := by omega
            exact Nat.le_refl _
  | succ n ih =>
    by_cases e : a = n + 1
    · subst e; exact Nat.le_refl _
    · have := ih (by omega)
      simp only [sumN]; omega
theorem other_len {a b v : Nat} (h : a ≠ b) : (other (v : Int) ((a : Int), (b : Int))).length = (if v = a then 1 else 0) + (if v = b then 1 else 0) := by
  unfold other
  by_cases h1 : v = a
  · subst h1
    rw [if_pos rfl, if_pos rfl, if_neg h]; rfl
  · by_cases h2 : v = b
    · subst h2
      rw [if_neg (fun e => h1 (by have e' : (a : Int) = v := e; omega)), if_pos rfl, if_neg h1, if_pos rfl]; rfl
    · rw [if_neg (fun e => h1 (by have e' : (a : Int) = v := e; omega)), if_neg (fun e => h2 (by have e' : (b : Int) = v := e; omega)), if_neg h1, if_neg h2]; rfl
theorem deg_sum (m : Nat) : ∀ es : List (Int × Int), (∀ e ∈ es, 0 ≤ e.1 ∧ e.1 < e.2 ∧ e.2 < m) → sumN (fun v => (nbL v es).length) m = 2 * es.length
  | [], _ => sumN_zero m
  | e :: es, h => by
    have h0 := h e (by simp)
    have ih := deg_sum m es (fun x hx => h x (by simp [hx]))
    obtain ⟨a, ha⟩ : ∃ a : Nat, e.1 = a := ⟨e.1.toNat, by omega⟩
    obtain ⟨b, hb⟩ : ∃ b : Nat, e.2 = b := ⟨e.2.toNat, by omega⟩
    have he : e = ((a : Int), (b : Int)) := by rw [← ha, ← hb]
    have hab : a ≠ b := by omega
    rw [sumN_congr (g := fun v => ((if v = a then 1 else 0) + (if v = b then 1 else 0)) + (nbL v es).length) (fun v => by
      show (other (v : Int) e ++ nbL v es).length = _
      rw [List.length_append, he, other_len hab])]
    rw [sumN_add, sumN_add, sumN_at, sumN_at, ih, if_pos (by omega), if_pos (by omega)]
    simp; omega
end Go.Proofs.Ytlebimolgienkaa
