/-
  append onto a row of the call's own, of a slice that may be nil: as a step of a region that draws its order, and in a plain one.
  The document's parts (layer 4) in memory: New, Is, Same, Count, Join.
  The document's Is, Same, Count and Join of layer 4.
  The document's Same, SameEdges, SameGraph: are two rows, two graphs the same?
-/
import Derived.Test.YtlebimolgienkaaT02
import Derived.Test.YtlebimolgienkaaT04
import Derived.Laws.AppendOwnNone
import Derived.Test.YtlebimolgienkaaT03
import Derived.Deep.LoopGhost
import Derived.Deep.RegionHeld3
import Derived.BigQuiet
import Derived.Test.YtlebimolgienkaaT01
namespace Go.Proofs.Ytlebimolgienkaa
open Go.RowKit Go.Lib

theorem grown_refl (w : World) (r : Option Nat) : w.grownBy w r := ⟨rfl, rfl, rfl, Nat.le_refl _, fun _ _ _ => rfl⟩

theorem wp_append_any {P : Program} (w : World) {o : Oper} {a : Act} {K : Act → World → Prop} {Q : Exit → Act → World → Prop} (s x : Operand) (t : TypeId)
    (ho : o.op = .call { callee := .builtin .append, args := #[s, x], argTypes := #[t, t] })
    (base : Nat) (e : TypeId) (i : TypeInfo) (z : Value) (size bytes : Nat) (ht : P.underlying t = some (.slice e)) (hi : P.info? e = some i) (hz : i.zero = some z)
    (hsize : i.size = size) (hby : i.bytes = bytes) (hzs : z.cells.size = size) (hsz : 0 < size)
    (v : Value) (n : Nat) (xs : List Value) (hs : a.eval s = v) (hown : w.ownsRow base e size v n xs)
    (ad : Option Addr) (m c : Nat) (news : List Value) (hx : a.eval x = .slice ad m c) (hnil : ad = none → m = 0 ∧ c = 0) (hl : news.length = m * size) (hnews : ∀ p, ad = some p → ∀ j u, news[j]? = some u → w.cell? (p.add j) = some u) (h1 : ∀ u ∈ news, u.oneCell' = true)
    (h63 : n + m ≤ maxLen) (hbytes : (n + m) * bytes ≤ 140737488355328) (hbase : base ≤ w.heap.size)
    (h : ∀ v' w', w'.ownsRow base e size v' (n + m) (xs ++ news) → w.grownBy w' v.ownBlock → (v'.ownBlock = v.ownBlock ∨ v'.ownBlock = some w.heap.size) → K (a.put o.dst v') w') : o.wp P a w K Q := by
  cases ad with
  | none =>
    obtain ⟨rfl, rfl⟩ := hnil rfl
    obtain rfl : news = [] := List.eq_nil_of_length_eq_zero (by omega)
    have hrun := run_append_owned_none (P := P) (w := w) base t o.type e i size ht hi v n xs hown
    unfold Oper.wp
    simp [execOp, ho, resolve, invoke, builtin, hs, hx, hrun, Result.andThen]
    exact h v w (by simpa using hown) (grown_refl _ _) (Or.inl rfl)
  | some p =>
    obtain ⟨v', w', hr, h2, h3, _, h5⟩ := run_append_own_at (P := P) w base t o.type e i z size bytes ht hi hz hsize hby hzs hsz v n xs hown p m c news hl (hnews p rfl) h1 h63 hbytes hbase
    unfold Oper.wp execOp
    simp only [ho, resolve, invoke, builtin, Sem.run_bind, Sem.run_pure, Result.andThen_ok, List.map_toArray, List.map_cons, List.map_nil, hs, hx, hr]
    exact h v' w' h2 h3 h5

theorem step_append_any {P : Program} (w : World) {ops : Array Oper} {o : Oper} {a : Act} {K : Act → World → Prop} {Q : Exit → Act → World → Prop} {E : Prop} (hgd : o.guard = none) (s x : Operand) (t : TypeId)
    (ho : o.op = .call { callee := .builtin .append, args := #[s, x], argTypes := #[t, t] })
    (base : Nat) (e : TypeId) (i : TypeInfo) (z : Value) (size bytes : Nat) (ht : P.underlying t = some (.slice e)) (hi : P.info? e = some i) (hz : i.zero = some z)
    (hsize : i.size = size) (hby : i.bytes = bytes) (hzs : z.cells.size = size) (hsz : 0 < size)
    (v : Value) (n : Nat) (xs : List Value) (hs : a.eval s = v) (hown : w.ownsRow base e size v n xs)
    (ad : Option Addr) (m c : Nat) (news : List Value) (hx : a.eval x = .slice ad m c) (hnil : ad = none → m = 0 ∧ c = 0) (hl : news.length = m * size) (hnews : ∀ p, ad = some p → ∀ j u, news[j]? = some u → w.cell? (p.add j) = some u) (h1 : ∀ u ∈ news, u.oneCell' = true)
    (h63 : n + m ≤ maxLen) (hbytes : (n + m) * bytes ≤ 140737488355328) (hbase : base ≤ w.heap.size)
    (h : ∀ v' w', w'.ownsRow base e size v' (n + m) (xs ++ news) → w.grownBy w' v.ownBlock → (v'.ownBlock = v.ownBlock ∨ v'.ownBlock = some w.heap.size) → K (a.put o.dst v') w') :
    if Region.wanted o (yielded ops a.tmps) = true then Oper.wp P o a w K Q else E := by
  have hw : Region.wanted o (yielded ops a.tmps) = true := by simp [Region.wanted, hgd]
  rw [if_pos hw]
  exact wp_append_any w s x t ho base e i z size bytes ht hi hz hsize hby hzs hsz v n xs hs hown ad m c news hx hnil hl hnews h1 h63 hbytes hbase h

theorem wpList_append_any {P : Program} (w : World) {ops : Array Oper} {rest : List Oper} {o : Oper} {a : Act} {Q : Exit → Act → World → Prop} (hgd : o.guard = none) (s x : Operand) (t : TypeId)
    (ho : o.op = .call { callee := .builtin .append, args := #[s, x], argTypes := #[t, t] })
    (base : Nat) (e : TypeId) (i : TypeInfo) (z : Value) (size bytes : Nat) (ht : P.underlying t = some (.slice e)) (hi : P.info? e = some i) (hz : i.zero = some z)
    (hsize : i.size = size) (hby : i.bytes = bytes) (hzs : z.cells.size = size) (hsz : 0 < size)
    (v : Value) (n : Nat) (xs : List Value) (hs : a.eval s = v) (hown : w.ownsRow base e size v n xs)
    (ad : Option Addr) (m c : Nat) (news : List Value) (hx : a.eval x = .slice ad m c) (hnil : ad = none → m = 0 ∧ c = 0) (hl : news.length = m * size) (hnews : ∀ p, ad = some p → ∀ j u, news[j]? = some u → w.cell? (p.add j) = some u) (h1 : ∀ u ∈ news, u.oneCell' = true)
    (h63 : n + m ≤ maxLen) (hbytes : (n + m) * bytes ≤ 140737488355328) (hbase : base ≤ w.heap.size)
    (h : ∀ v' w', w'.ownsRow base e size v' (n + m) (xs ++ news) → w.grownBy w' v.ownBlock → (v'.ownBlock = v.ownBlock ∨ v'.ownBlock = some w.heap.size) → wpList P ops Q rest (a.put o.dst v') w') : wpList P ops Q (o :: rest) a w :=
  wpList_plain hgd fun _ hK => wp_append_any w s x t ho base e i z size bytes ht hi hz hsize hby hzs hsz v n xs hs hown ad m c news hx hnil hl hnews h1 h63 hbytes hbase fun v' w' h2 h3 h4 => hK _ _ (h v' w' h2 h3 h4)

/-- Edges do not lie in a graph's own variable. -/
theorem eat_off_box {w : World} {B : Nat} {n : Int} {sa : Option Addr} {sl sc : Nat} {T : TypeId} {fr : Nat × Nat} {a : Option Addr} {ys : List (Int × Int)} (hB : w.heap[B]? = some (.cells #[.int .i64 n, .slice sa sl sc] T fr)) (h : EAt w a ys) : ∀ g off, 0 < ys.length → a = some ⟨g, off, none⟩ → g ≠ B := fun g off h0 ha e => by
  subst e
  obtain ⟨g', off', ha', _, hc⟩ := h h0
  rw [ha] at ha'
  simp only [Option.some.injEq, Addr.mk.injEq, and_true] at ha'
  obtain ⟨rfl, rfl⟩ := ha'
  have h1 := (hc 0 h0).1
  have h2 := (hc 0 h0).2
  rw [cell_of_heap hB] at h1 h2
  match off, h1, h2 with
  | 0, h1, h2 => simp at h2
  | 1, h1, h2 => simp at h1
  | k + 2, h1, h2 => simp at h1
theorem hid2 {p q : Prop} (h : p) (h' : q) : p ∧ q := ⟨h, h'⟩
end Go.Proofs.Ytlebimolgienkaa
namespace Go.Proofs.Ytlebimolgienkaa
open Go.RowKit Go.Lib

/-- All blocks that were there are as they were, but for some. -/
structure KeptBut (S : Nat → Prop) (w w' : World) : Prop where
  os : w'.os = w.os
  tape : w'.tape = w.tape
  output : w'.output = w.output
  size : w.heap.size ≤ w'.heap.size
  block : ∀ k, k < w.heap.size → ¬ S k → w'.heap[k]? = w.heap[k]?
theorem KeptBut.refl (S : Nat → Prop) (w : World) : KeptBut S w w := ⟨rfl, rfl, rfl, Nat.le_refl _, fun _ _ _ => rfl⟩
theorem KeptBut.trans {S : Nat → Prop} {a b c : World} (h : KeptBut S a b) (k : KeptBut S b c) : KeptBut S a c :=
  ⟨k.os.trans h.os, k.tape.trans h.tape, k.output.trans h.output, Nat.le_trans h.size k.size, fun i hi hs => (k.block i (Nat.lt_of_lt_of_le hi h.size) hs).trans (h.block i hi hs)⟩
theorem KeptBut.mono {S S' : Nat → Prop} {a b : World} (h : KeptBut S a b) (hs : ∀ k, k < a.heap.size → S k → S' k) : KeptBut S' a b := ⟨h.os, h.tape, h.output, h.size, fun k hk hn => h.block k hk (fun e => hn (hs k hk e))⟩
theorem KeptBut.of_below {B : Nat} {a b : World} (h : Below B a b) : KeptBut (fun k => B ≤ k) a b := ⟨h.os, h.tape, h.output, h.size, fun k _ hn => h.block k (by omega)⟩
theorem KeptBut.below {S : Nat → Prop} {B : Nat} {a b : World} (h : KeptBut S a b) (hB : B ≤ a.heap.size) (hs : ∀ k, k < a.heap.size → S k → B ≤ k) : Below B a b := ⟨h.os, h.tape, h.output, h.size, fun k hk => h.block k (by omega) (fun e => by have := hs k (by omega) e; omega)⟩
theorem kept_set (w : World) (p : Addr) (v : Value) : KeptBut (fun k => k = p.block) w (w.setCell p v) :=
  ⟨rfl, rfl, rfl, by simp, fun _ _ hn => Below.heap_setCell _ _ _ _ hn⟩
theorem KeptBut.cell {S : Nat → Prop} {w w' : World} (h : KeptBut S w w') {p : Addr} (hp : p.block < w.heap.size) (hs : ¬ S p.block) : w'.cell? p = w.cell? p := World.cell?_of_block (w := w) (h.block p.block hp hs)
theorem KeptBut.frozen {S : Nat → Prop} {w w' : World} (h : KeptBut S w w') {p : Addr} (hp : p.block < w.heap.size) (hs : ¬ S p.block) : w'.frozen? p = w.frozen? p := World.frozen?_of_block (w := w) (h.block p.block hp hs)

/-- The numbers 0 to n-1, as cells. -/
def upto (n : Nat) : List Int := (List.range n).map (fun i : Nat => (i : Int))
theorem upto_len (n : Nat) : (upto n).length = n := by simp [upto]
theorem upto_succ (n : Nat) : upto (n + 1) = upto n ++ [(n : Int)] := by simp [upto, List.range_succ]
theorem upto_at {n j : Nat} (h : j < n) : (upto n)[j]? = some (j : Int) := by simp [upto, h]
theorem sl_own {w : World} {base : Nat} {e : TypeId} {size : Nat} {v : Value} {n : Nat} {xs : List Value} (h : w.ownsRow base e size v n xs) : ∃ a cap, v = .slice a n cap ∧ Sl a cap n := by
  rcases h.2 with ⟨hv, h0⟩ | ⟨g, cap, cur, hv, _, _, hc, _⟩
  · exact ⟨none, 0, by rw [hv, h0], by rw [h0]; exact sl_nil⟩
  · exact ⟨_, cap, hv, sl_some hc⟩
theorem own_set_other {w : World} {base b : Nat} {e : TypeId} {size : Nat} {v : Value} {n : Nat} {xs : List Value} (h : w.ownsRow base e size v n xs) (hb : v.ownBlock ≠ some b) (u : Value) : (w.setCell ⟨b, 0, none⟩ u).ownsRow base e size v n xs := by
  refine ⟨h.1, ?_⟩
  rcases h.2 with h2 | ⟨g, cap, cur, hv, hg, hgc, r⟩
  · exact Or.inl h2
  · exact Or.inr ⟨g, cap, cur, hv, hg, (Below.heap_setCell _ _ _ _ (fun e => hb (by rw [hv, e]; rfl))).trans hgc, r⟩
/-- A row of the call's own, place by place. -/
theorem row1_own {w : World} {base g n cap : Nat} {e : TypeId} {xs : List Int} (h : w.ownsRow base e 1 (.slice (some ⟨g, 0, none⟩) n cap) n (xs.map (Value.int .i64))) (hx : xs.length = n) : Row1 w g n (fun j => xs[j]?.getD 0) := by
  have hg : g < w.heap.size := (h.lt g rfl).2
  refine ⟨hg, fun j hj => ?_⟩
  rcases h.2 with ⟨hv, _⟩ | ⟨g', cap, cur, hv, _, hgb, _⟩
  · simp at hv
  · simp only [Value.slice.injEq, Option.some.injEq, Addr.mk.injEq, and_true, true_and] at hv
    obtain ⟨rfl, _⟩ := hv
    have hj' : j < xs.length := by omega
    have := h.cells (g := g) rfl j (.int .i64 xs[j]) (by simp [hj'])
    rw [add_at, Nat.zero_add] at this
    refine ⟨?_, frozen_of_heap hgb _⟩
    rw [this]; simp [hj']

/-- A part of the document's: a variable with a row of the least numbers. -/
structure QAt (w : World) (b g : Nat) (a : Option Addr) (n cap : Nat) (f : Nat → Nat) : Prop where
  box : w.cell? ⟨b, 0, none⟩ = some (.slice a n cap)
  row : 0 < n → a = some ⟨g, 0, none⟩ ∧ Row1 w g n (fun i => (f i : Int))
  ne : g ≠ b
theorem QAt.kept {S : Nat → Prop} {w w' : World} {b g : Nat} {a : Option Addr} {n cap : Nat} {f : Nat → Nat} (h : QAt w b g a n cap f) (hk : KeptBut S w w') (hb : ¬ S b) (hg : 0 < n → ¬ S g) : QAt w' b g a n cap f := by
  refine ⟨(hk.cell (p := ⟨b, 0, none⟩) (block_lt_of_cell h.box) hb).trans h.box, fun h0 => ?_, h.ne⟩
  obtain ⟨ha, hr⟩ := h.row h0
  exact ⟨ha, Nat.lt_of_lt_of_le hr.1 hk.size, fun j hj => ⟨(hk.cell (p := ⟨g, j, none⟩) hr.1 (hg h0)).trans (hr.2 j hj).1, (hk.frozen (p := ⟨g, j, none⟩) hr.1 (hg h0)).trans (hr.2 j hj).2⟩⟩
theorem QAt.below {w w' : World} {b g : Nat} {a : Option Addr} {n cap : Nat} {f : Nat → Nat} (h : QAt w b g a n cap f) (hk : Below w.heap.size w w') : QAt w' b g a n cap f := by
  refine ⟨(hk.cell (p := ⟨b, 0, none⟩) (block_lt_of_cell h.box)).trans h.box, fun h0 => ?_, h.ne⟩
  obtain ⟨ha, hr⟩ := h.row h0
  exact ⟨ha, Nat.lt_of_lt_of_le hr.1 hk.size, fun j hj => ⟨(hk.cell (p := ⟨g, j, none⟩) hr.1).trans (hr.2 j hj).1, (hk.frozen (p := ⟨g, j, none⟩) hr.1).trans (hr.2 j hj).2⟩⟩
theorem QAt.iat {w : World} {b g : Nat} {a : Option Addr} {n cap : Nat} {f : Nat → Nat} (h : QAt w b g a n cap f) {i : Nat} (hi : i < n) : a = some ⟨g, 0, none⟩ ∧ w.cell? ⟨g, i, none⟩ = some (.int .i64 (f i)) ∧ w.frozen? ⟨g, i, none⟩ = false :=
  ⟨(h.row (by omega)).1, ((h.row (by omega)).2.2 i hi).1, ((h.row (by omega)).2.2 i hi).2⟩

/-- The row of New so far. -/
def NewAt (w : World) (b k : Nat) : Prop := ∃ a cap, w.cell? ⟨b, 0, none⟩ = some (.slice a k cap) ∧ w.frozen? ⟨b, 0, none⟩ = false ∧ Sl a cap k ∧ w.ownsRow (b + 1) 3 1 (.slice a k cap) k ((upto k).map (Value.int .i64))

/-- What New leaves. -/
def NewIs (n : Int) (w w' : World) : Prop := ∃ (m g : Nat) (a : Option Addr) (cap : Nat), (m : Int) = max 0 (min n 1000) ∧ w.heap.size < g ∧ QAt w' w.heap.size g a m cap (fun i => i) ∧ w.heap.size < w'.heap.size ∧ Below w.heap.size w w'

set_option maxHeartbeats 1000000 in
set_option maxRecDepth 100000 in
theorem rnew_any (n : Int) (w : World) :
    Calls Try.prog 42 #[.int .i64 n] w fun e w' => e = .returned (.pointer (some ⟨w.heap.size, 0, none⟩)) ∧ NewIs n w w' := by
  obtain ⟨i0, hi, hz0, hz1, hz2⟩ := info_parts Try.info3
  obtain ⟨b, hb⟩ := ex_eq w.heap.size
  obtain ⟨W0, hW0⟩ := ex_eq (w.alloc (.cells #[.slice none 0 0] 75))
  have hs0 : W0.heap.size = b + 1 := by rw [hW0, hb]; simp
  have hB0 : Below b w W0 := by rw [hW0, hb]; exact (Below.refl _ _).alloc (Nat.le_refl _) _
  have hO : W0.heap[b]? = some (.cells #[.slice none 0 0] 75 (0, 0)) := by rw [hW0, hb]; exact heap_alloc_new _ _
  have HN0 : Hid (NewAt W0 b 0) := ⟨none, 0, cell_of_heap hO 0, frozen_of_heap hO _, sl_nil, World.ownsRow_nil _ _ _ _⟩
  have HW0 := hid hW0
  have HB := hid hb
  clear hO hW0
  go_enter Try.func42, Try.ntmps42
  go_wp2
  rw [← HW0.out, ← HB.out]
  clear HW0 hb
  go_loopg [4] 1000 (fun G i wz => ∃ k : Nat, k ≤ 1000 ∧ 1000 - k ≤ G ∧ i = .int .i64 k ∧ ((k : Int) ≤ n ∨ k = 0) ∧ Hid (NewAt wz b k) ∧ Below b w wz ∧ b + 1 ≤ wz.heap.size)
  case atStart => exact ⟨0, Nat.zero_le _, by omega, rfl, Or.inr rfl, HN0, hB0, by omega⟩
  case round =>
    obtain ⟨k, hk, hG, rfl, hkn, hnew, hbr, hsz⟩ := hrel
    by_cases hgo : (k : Int) < n ∧ (k : Int) < 1000
    · obtain ⟨q1, q2⟩ := hgo
      obtain ⟨a, cap, c0, f0, hsl, hown⟩ := hnew.out
      have HOW : Hid ((wr.alloc (.cells #[.int .i64 k] 3)).ownsRow (b + 1) 3 1 (.slice a k cap) k ((upto k).map (Value.int .i64))) := hown.alloc _
      have HNW : Hid (∀ p, some (⟨wr.heap.size, 0, none⟩ : Addr) = some p → ∀ j u, [Value.int .i64 (k : Int)][j]? = some u → (wr.alloc (.cells #[.int .i64 k] 3)).cell? (p.add j) = some u) := fun p hp => by
        cases hp
        intro j u hu
        match j, hu with
        | 0, hu => cases hu; rw [add_at]; exact cell_of_heap (heap_alloc_new wr _) 0
        | j + 1, hu => simp at hu
      have HON : Hid (∀ v ∈ [Value.int .i64 (k : Int)], v.oneCell' = true) := fun v hv => by simp at hv; rw [hv]; rfl
      have H63 : Hid (k + 1 ≤ maxLen) := by show k + 1 ≤ maxLen; unfold maxLen; omega
      have HBS : Hid (b + 1 ≤ (wr.alloc (.cells #[.int .i64 k] 3)).heap.size) := by show b + 1 ≤ _; simp; omega
      have HLT := hid hown.lt
      have HX : Hid (∀ w4, (wr.alloc (.cells #[.int .i64 k] 3)).grownBy w4 (Value.slice a k cap).ownBlock → (w4.cell? ⟨b, 0, none⟩ = some (.slice a k cap) ∧ w4.frozen? ⟨b, 0, none⟩ = false) ∧ Below b w w4 ∧ b + 1 ≤ w4.heap.size) := fun w4 hg => by
        have hne : some b ≠ (Value.slice a k cap).ownBlock := fun e => by have := (HLT.out _ e.symm).1; omega
        refine ⟨⟨hg.cell (cell_alloc_old c0 _) hne, ?_⟩, ?_, Nat.le_trans HBS.out hg.size⟩
        · rw [hg.frozen_far ⟨b, 0, none⟩ (by simp; omega) hne, ← f0]
          unfold World.frozen?
          rw [((Below.refl wr.heap.size wr).alloc (Nat.le_refl _) _).block b (by omega)]
        · exact Below.grown (hbr.alloc (by omega) _) hg (by simp; omega) (fun j hj => by have := (HLT.out j hj).1; omega)
      clear hown hnew hsl
      go_wp2_with (at_builtin; refine wpList_append_any _ rfl _ _ 28 rfl (b + 1) 3 i0 _ 1 8 Try.underlying28 hi hz0 hz1 hz2 rfl (by decide) _ _ _ rfl HOW.out (some ⟨wr.heap.size, 0, none⟩) 1 1 [.int .i64 k] rfl (fun h => by cases h) rfl HNW.out HON.out H63.out ?c4 HBS.out ?_)
      case c4 => omega
      intro v4 w4 hown4 hgrow _
      obtain ⟨⟨y0, y1⟩, hb4, hs4⟩ := HX.out w4 hgrow
      have ho : w4.ownsRow (b + 1) 3 1 v4 (upto (k + 1)).length ((upto (k + 1)).map (Value.int .i64)) := by
        rw [upto_len, upto_succ, List.map_append]; exact hown4
      have hsl4 := sl_own ho
      rw [upto_len] at ho hsl4
      obtain ⟨a4, c4, rfl, hs5⟩ := hsl4
      have HNX : Hid (NewAt (w4.setCell ⟨b, 0, none⟩ (.slice a4 (k + 1) c4)) b (k + 1)) :=
        ⟨a4, c4, World.cell?_setCell_same' _ _ _ (by rw [y0]; rfl), by rw [World.frozen?_setCell]; exact y1, hs5, own_set_other ho (fun e => by have := (ho.lt b e).1; omega) _⟩
      have hbX : Below b w (w4.setCell ⟨b, 0, none⟩ (.slice a4 (k + 1) c4)) := hb4.setCell (p := ⟨b, 0, none⟩) (Nat.le_refl _) _
      have hsX : b + 1 ≤ (w4.setCell ⟨b, 0, none⟩ (.slice a4 (k + 1) c4)).heap.size := by simp; omega
      clear hown4 hgrow HX HLT HBS H63 HON HNW HOW hi hz0 hz1 hz2 ho hs5
      go_wp2
      go_roundg (1000 - (k + 1))
      case measure => omega
      case rel => exact ⟨k + 1, by omega, Nat.le_refl _, by go_num, Or.inl (by omega), HNX, hbX, hsX⟩
    · have hway : ¬ (k : Int) < n ∨ ((k : Int) < n ∧ ¬ (k : Int) < 1000) := by omega
      obtain ⟨a, cap, c0, f0, hsl, hown⟩ := hnew.out
      have HQ : Hid (∃ g, b < g ∧ QAt wr b g a k cap (fun i => i)) := by
        rcases hsl.2.2 with h0 | ⟨g, off, h0⟩
        · exact ⟨b + 1, by omega, c0, fun hk0 => by have := hsl.2.1 h0; have := hsl.1; omega, by omega⟩
        · subst h0
          rcases hown.2 with ⟨hv, _⟩ | ⟨g', cap', cur, hv, hge, hgb, _⟩
          · simp at hv
          · simp only [Value.slice.injEq, Option.some.injEq, Addr.mk.injEq, and_true, true_and] at hv
            obtain ⟨⟨rfl, rfl⟩, rfl⟩ := hv
            refine ⟨g, by omega, c0, fun _ => ⟨rfl, ?_⟩, by omega⟩
            exact (row1_own hown (upto_len k)).congr (fun j hj => by rw [upto_at hj]; rfl)
      have HF : Hid ((k : Int) = max 0 (min n 1000)) := by show (k : Int) = _; omega
      have HSZ : Hid (b < wr.heap.size) := by show b < _; omega
      clear hgo hown hsl c0 f0 hi hz0 hz1 hz2 hnew
      rcases hway with v1 | ⟨v1, v2⟩
      all_goals
        go_wp2
        go_ret
        obtain ⟨g, hg, hq⟩ := HQ.out
        refine ⟨by rw [← HB.out]; rfl, k, g, a, cap, HF.out, ?_⟩
        rw [← HB.out]
        exact ⟨hg, hq, HSZ.out, hbr⟩
end Go.Proofs.Ytlebimolgienkaa
namespace Go.Proofs.Ytlebimolgienkaa
open Go.RowKit Go.Lib

set_option maxHeartbeats 400000 in
theorem ris_any (b : Nat) (a : Option Addr) (n cap : Nat) (x : Int) (r : Bool) (w : World) (c0 : w.cell? ⟨b, 0, none⟩ = some (.slice a n cap)) (hr : r = decide (0 ≤ x ∧ x < n)) :
    Calls Try.prog 82 #[.pointer (some ⟨b, 0, none⟩), .int .i64 x] w fun e w' => e = .returned (.bool r) ∧ w' = w := by
  by_cases h : 0 ≤ x
  · by_cases h2 : x < n
    · rw [decide_eq_true (by omega)] at hr
      subst hr
      go_enter Try.func82, Try.ntmps82
      go_wp2
      go_ret
      exact ⟨rfl, rfl⟩
    · rw [decide_eq_false (by omega)] at hr
      subst hr
      go_enter Try.func82, Try.ntmps82
      go_wp2
      go_ret
      exact ⟨rfl, rfl⟩
  · rw [decide_eq_false (by omega)] at hr
    subst hr
    go_enter Try.func82, Try.ntmps82
    go_wp2
    go_ret
    exact ⟨rfl, rfl⟩

/-- What Join makes of the classes, whatever it is handed. -/
def joinR (n : Nat) (f : Nat → Nat) (x y : Int) : Nat → Nat := if (0 ≤ x ∧ x < n) ∧ (0 ≤ y ∧ y < n) then joinF f x.toNat y.toNat else f
theorem QAt.congr {w : World} {b g : Nat} {a : Option Addr} {n cap : Nat} {f f' : Nat → Nat} (h : QAt w b g a n cap f) (e : ∀ i, i < n → f i = f' i) : QAt w b g a n cap f' :=
  ⟨h.box, fun h0 => ⟨(h.row h0).1, (h.row h0).2.congr (fun j hj => by rw [e j hj])⟩, h.ne⟩
theorem QAt.put {w : World} {b g : Nat} {a : Option Addr} {n cap : Nat} {f : Nat → Nat} (h : QAt w b g a n cap f) {i : Nat} (hi : i < n) (x : Nat) : QAt (w.setCell ⟨g, i, none⟩ (.int .i64 x)) b g a n cap (fun j => if j = i then x else f j) := by
  refine ⟨?_, fun h0 => ⟨(h.row h0).1, ((h.row h0).2.put hi (x : Int)).congr (fun j _ => by by_cases e : j = i <;> simp [e])⟩, h.ne⟩
  rw [World.cell?_setCell_other _ _ _ _ (fun e => h.ne (congrArg Addr.block e))]
  exact h.box
/-- What Join leaves. -/
def JoinIs (b g : Nat) (a : Option Addr) (n cap : Nat) (f : Nat → Nat) (x y : Int) (w w' : World) : Prop := QAt w' b g a n cap (joinR n f x y) ∧ KeptBut (fun k => 0 < n ∧ k = g) w w' ∧ w'.heap.size = w.heap.size
theorem joinIs_same {b g : Nat} {a : Option Addr} {n cap : Nat} {f : Nat → Nat} {x y : Int} {w : World} (h : QAt w b g a n cap f) (hr : ¬ ((0 ≤ x ∧ x < n) ∧ (0 ≤ y ∧ y < n) ∧ f x.toNat ≠ f y.toNat)) (k : Nat) : JoinIs b g a n cap f x y w (w.drewN k) := by
  have hB := below_drewN (Below.refl w.heap.size w) k
  refine ⟨(h.below hB).congr (fun i _ => ?_), ⟨hB.os, hB.tape, hB.output, hB.size, fun j hj _ => hB.block j hj⟩, rfl⟩
  unfold joinR
  split
  · next hin =>
    have : f x.toNat = f y.toNat := by
      by_cases e : f x.toNat = f y.toNat
      · exact e
      · exact absurd ⟨hin.1, hin.2, e⟩ hr
    rw [joinF_one this]
  · rfl

set_option maxHeartbeats 2000000 in
set_option maxRecDepth 100000 in
theorem rjoin_any (b g : Nat) (a : Option Addr) (n cap : Nat) (f : Nat → Nat) (x y : Int) (r : Bool) (w : World) (hn : n ≤ 1000) (h : QAt w b g a n cap f) (hr : r = true ↔ (0 ≤ x ∧ x < n) ∧ (0 ≤ y ∧ y < n) ∧ f x.toNat ≠ f y.toNat) :
    Calls Try.prog 43 #[.pointer (some ⟨b, 0, none⟩), .int .i64 x, .int .i64 y] w fun e w' => e = .returned (.bool r) ∧ JoinIs b g a n cap f x y w w' := by
  have c0 := h.box
  obtain ⟨r1, hr1⟩ := ex_eq (decide (0 ≤ x ∧ x < n))
  obtain ⟨r2, hr2⟩ := ex_eq (decide (0 ≤ y ∧ y < n))
  have HX : Hid (∀ W, W.cell? ⟨b, 0, none⟩ = some (.slice a n cap) → Calls Try.prog 82 #[.pointer (some ⟨b, 0, none⟩), .int .i64 x] W fun e w' => e = .returned (.bool r1) ∧ w' = W) := fun W hc => ris_any b a n cap x r1 W hc hr1
  have HY : Hid (∀ W, W.cell? ⟨b, 0, none⟩ = some (.slice a n cap) → Calls Try.prog 82 #[.pointer (some ⟨b, 0, none⟩), .int .i64 y] W fun e w' => e = .returned (.bool r2) ∧ w' = W) := fun W hc => ris_any b a n cap y r2 W hc hr2
  have HJ : Hid (r = false → ∀ k, JoinIs b g a n cap f x y w (w.drewN k)) := fun h0 k => joinIs_same h (fun e => by have := hr.2 e; rw [h0] at this; cases this) k
  have HQ := hid h
  cases r1 with
  | false =>
    have h1 := of_decide_eq_false hr1.symm
    obtain rfl : r = false := by cases r with | false => rfl | true => exact absurd (hr.1 rfl).1 h1
    clear h hr hr1 hr2 h1
    go_enter Try.func43, Try.ntmps43
    go_wp2_with fail
    go_quiet (first | (go_at_call_of 82 x; refine Calls.quiet_of_same (HX.out _ c0)) | (go_at_call_of 82 y; refine Calls.quiet_of_same (HY.out _ c0)))
    go_wp2
    go_ret
    exact ⟨rfl, HJ.out trivial _⟩
  | true =>
    cases r2 with
    | false =>
      have h1 := of_decide_eq_false hr2.symm
      obtain rfl : r = false := by cases r with | false => rfl | true => exact absurd (hr.1 rfl).2.1 h1
      clear h hr hr1 hr2 h1
      go_enter Try.func43, Try.ntmps43
      go_wp2_with fail
      go_quiet (first | (go_at_call_of 82 x; refine Calls.quiet_of_same (HX.out _ c0)) | (go_at_call_of 82 y; refine Calls.quiet_of_same (HY.out _ c0)))
      go_wp2
      go_ret
      exact ⟨rfl, HJ.out trivial _⟩
    | true =>
      have h1 := of_decide_eq_true hr1.symm
      have h2 := of_decide_eq_true hr2.symm
      obtain ⟨i, rfl⟩ : ∃ i : Nat, x = i := ⟨x.toNat, by omega⟩
      obtain ⟨k, rfl⟩ : ∃ k : Nat, y = k := ⟨y.toNat, by omega⟩
      have hin : i < n := by omega
      have hkn : k < n := by omega
      obtain ⟨ha, ci, _⟩ := h.iat hin
      obtain ⟨_, ck, _⟩ := h.iat hkn
      subst ha
      obtain ⟨fi, hfi⟩ := ex_eq (f i)
      obtain ⟨fk, hfk⟩ := ex_eq (f k)
      rw [← hfi] at ci
      rw [← hfk] at ck
      have q1 : (i : Int) < (n : Int) := by omega
      have q2 : (k : Int) < (n : Int) := by omega
      have q3 : (0 : Int) ≤ (i : Int) := by omega
      have q4 : (0 : Int) ≤ (k : Int) := by omega
      have hr3 : r = true ↔ fi ≠ fk := by
        rw [hr, hfi, hfk]
        exact ⟨fun h => h.2.2, fun h => ⟨⟨q3, q1⟩, ⟨q4, q2⟩, h⟩⟩
      have HJF : Hid (∀ j, joinR n f i k j = if f j = max fi fk then min fi fk else f j) := fun j => by
        unfold joinR
        rw [if_pos ⟨⟨q3, q1⟩, ⟨q4, q2⟩⟩, hfi, hfk]
        rfl
      clear h hr hr1 hr2 h1 h2 hfi hfk
      by_cases he : fi = fk
      · obtain rfl : r = false := by cases r with | false => rfl | true => exact absurd he (hr3.1 rfl)
        subst he
        clear hr3
        go_enter Try.func43, Try.ntmps43
        go_wp2_with fail
        go_quiet (first | (go_at_call_of 82 (i : Int); refine Calls.quiet_of_same (HX.out _ c0)) | (go_at_call_of 82 (k : Int); refine Calls.quiet_of_same (HY.out _ c0)))
        go_wp2
        go_ret
        exact ⟨rfl, HJ.out trivial _⟩
      · obtain rfl : r = true := hr3.2 he
        have he2 : ((fi : Int) == (fk : Int)) = false := beq_eq_false_iff_ne.2 (by omega)
        obtain ⟨lo, hlo⟩ : ∃ lo : Nat, min (fi : Int) (fk : Int) = (lo : Int) := ⟨min fi fk, by omega⟩
        obtain ⟨hi', hhi⟩ : ∃ hi' : Nat, max (fi : Int) (fk : Int) = (hi' : Int) := ⟨max fi fk, by omega⟩
        have HLO : Hid (lo = min fi fk ∧ hi' = max fi fk) := ⟨by omega, by omega⟩
        clear hr3 HJ
        go_enter Try.func43, Try.ntmps43
        go_wp2_with fail
        go_quiet (first | (go_at_call_of 82 (i : Int); refine Calls.quiet_of_same (HX.out _ c0)) | (go_at_call_of 82 (k : Int); refine Calls.quiet_of_same (HY.out _ c0)))
        go_wp2_with fail
        obtain ⟨W, hW⟩ := ex_eq (w.drewN nq)
        rw [← hW]
        have hbW : Below w.heap.size w W := by rw [hW]; exact below_drewN (Below.refl _ _) _
        have hsW : W.heap.size = w.heap.size := by rw [hW]; rfl
        have HQW := hid (HQ.out.below hbW)
        have d0 := HQW.out.box
        have di : W.cell? ⟨g, i, none⟩ = some (.int .i64 fi) := by rw [hW]; exact ci
        have dk : W.cell? ⟨g, k, none⟩ = some (.int .i64 fk) := by rw [hW]; exact ck
        clear c0 ci ck hW HX HY he2 HQ
        go_quiet (fail)
        go_wp2_with fail
        go_quiet (fail)
        go_wp2
        have HJF2 : Hid (∀ j, joinR n f i k j = if f j = hi' then lo else f j) := fun j => by rw [HJF.out j, HLO.out.1, HLO.out.2]
        clear HJF HLO hlo hhi di dk d0 he q1 q2 q3 q4
        go_loopg [9] n (fun G j wz => ∃ t : Nat, t ≤ n ∧ n - t ≤ G ∧ j = .int .i64 t ∧ Hid (QAt wz b g (some ⟨g, 0, none⟩) n cap (fun j => if j < t then joinR n f i k j else f j)) ∧ Hid (KeptBut (fun k => k = g) w wz ∧ wz.heap.size = w.heap.size))
        case atStart => exact ⟨0, Nat.zero_le _, by omega, rfl, (HQW.out.below (below_drewN (below_drewN (Below.refl _ _) _) _)).congr (fun j _ => by simp), (KeptBut.of_below (below_drewN (below_drewN hbW _) _)).mono (fun k hk hs => absurd hs (by omega)), hsW⟩
        case round =>
          obtain ⟨t, ht, hG, rfl, hq, hk2⟩ := hrel
          have d0 := hq.out.box
          by_cases hlt : t < n
          · obtain ⟨_, ct, ft⟩ := hq.out.iat hlt
            obtain ⟨z, hz⟩ := ex_eq (f t)
            have ct' : wr.cell? ⟨g, t, none⟩ = some (.int .i64 (z : Nat)) := by
              rw [ct]
              simp [hz]
            have q1 : (t : Int) < (n : Int) := by omega
            clear ct
            by_cases he : z = hi'
            · have he2 : ((z : Int) == (hi' : Int)) = true := by rw [he]; simp
              have HNX : Hid (QAt (wr.setCell ⟨g, t, none⟩ (.int .i64 lo)) b g (some ⟨g, 0, none⟩) n cap (fun j => if j < t + 1 then joinR n f i k j else f j)) := (hq.out.put hlt lo).congr (fun j _ => by
                by_cases e1 : j = t
                · subst e1
                  rw [if_pos rfl, if_pos (by omega), HJF2.out, if_pos (by omega)]
                · rw [if_neg e1]
                  by_cases e2 : j < t
                  · rw [if_pos e2, if_pos (by omega)]
                  · rw [if_neg e2, if_neg (by omega)])
              have HKX : Hid (KeptBut (fun k => k = g) w (wr.setCell ⟨g, t, none⟩ (.int .i64 lo)) ∧ (wr.setCell ⟨g, t, none⟩ (.int .i64 lo)).heap.size = w.heap.size) := ⟨hk2.out.1.trans (kept_set wr ⟨g, t, none⟩ _), by simp; exact hk2.out.2⟩
              subst he
              clear hq hk2 hz he2
              go_wp2
              go_roundg (n - (t + 1))
              case measure => omega
              case rel => exact ⟨t + 1, by omega, Nat.le_refl _, by go_num, HNX, HKX⟩
            · have he2 : ((z : Int) == (hi' : Int)) = false := beq_eq_false_iff_ne.2 (by omega)
              have HNX : Hid (QAt wr b g (some ⟨g, 0, none⟩) n cap (fun j => if j < t + 1 then joinR n f i k j else f j)) := hq.out.congr (fun j _ => by
                by_cases e1 : j = t
                · subst e1
                  rw [if_neg (by omega), if_pos (by omega), HJF2.out, if_neg (by omega)]
                · by_cases e2 : j < t
                  · rw [if_pos e2, if_pos (by omega)]
                  · rw [if_neg e2, if_neg (by omega)])
              clear hq hz
              go_wp2
              go_roundg (n - (t + 1))
              case measure => omega
              case rel => exact ⟨t + 1, by omega, Nat.le_refl _, by go_num, HNX, hk2⟩
          · obtain rfl : t = n := by omega
            go_wp2
            go_ret
            exact ⟨rfl, hq.out.congr (fun j hj => by rw [if_pos hj]), hk2.out.1.mono (fun k _ e => ⟨by omega, e⟩), hk2.out.2⟩
end Go.Proofs.Ytlebimolgienkaa
namespace Go.Proofs.Ytlebimolgienkaa
open Go.RowKit Go.Lib

theorem same_upto {α : Type} {xs ys : List α} (hl : xs.length = ys.length) (h : ∀ j (h1 : j < xs.length) (h2 : j < ys.length), xs[j] = ys[j]) : xs = ys := List.ext_getElem hl h

set_option maxHeartbeats 1000000 in
set_option maxRecDepth 100000 in
theorem same_any (a1 a2 : Option Addr) (c1 c2 : Nat) (xs ys : List Int) (r : Bool) (w : World) (hN : xs.length ≤ 1000000) (h1 : IAt w a1 xs) (h2 : IAt w a2 ys) (hr : r = true ↔ xs = ys) :
    Calls Try.prog 16 #[.slice a1 xs.length c1, .slice a2 ys.length c2] w fun e w' => e = .returned (.bool r) ∧ Below w.heap.size w w' := by
  have H1 : Hid (IAt w a1 xs) := h1
  have H2 : Hid (IAt w a2 ys) := h2
  have HR : Hid (r = true ↔ xs = ys) := hr
  obtain ⟨N, hNe⟩ := ex_eq xs.length
  obtain ⟨M, hMe⟩ := ex_eq ys.length
  have HN : Hid (N = xs.length) := hNe
  have HM : Hid (M = ys.length) := hMe
  rw [← hNe] at hN ⊢
  rw [← hMe]
  clear h1 h2 hr hNe hMe
  by_cases hl : N = M
  · subst hl
    go_enter Try.func16, Try.ntmps16
    go_wp2
    go_loopw [5] (fun i wr => ∃ k : Nat, k ≤ N ∧ i = .int .i64 k ∧ Hid (∀ j (h1 : j < xs.length) (h2 : j < ys.length), j < k → xs[j] = ys[j]) ∧ Below w.heap.size w wr) (fun i _ => N - (RowKit.intOf i).toNat)
    case atStart => exact ⟨0, Nat.zero_le _, rfl, fun j _ _ h => absurd h (by omega), Below.refl _ _⟩
    case round =>
      obtain ⟨k, hk, rfl, heq, hbr⟩ := hrel
      by_cases hlt : k < N
      · have k1 : k < xs.length := by rw [← HN.out]; exact hlt
        have k2 : k < ys.length := by rw [← HM.out]; exact hlt
        obtain ⟨g1, o1, rfl, hg1, hc1⟩ := H1.out (by omega)
        obtain ⟨g2, o2, rfl, hg2, hc2⟩ := H2.out (by omega)
        have d1 := (hbr.cell (p := ⟨g1, o1 + k, none⟩) hg1).trans (hc1 k k1)
        have d2 := (hbr.cell (p := ⟨g2, o2 + k, none⟩) hg2).trans (hc2 k k2)
        obtain ⟨x, hx⟩ := ex_eq xs[k]
        obtain ⟨y, hy⟩ := ex_eq ys[k]
        rw [← hx] at d1
        rw [← hy] at d2
        have HXY : Hid (x = xs[k] ∧ y = ys[k]) := ⟨hx, hy⟩
        have q1 : (k : Int) < (N : Int) := by omega
        clear hc1 hc2 hx hy
        by_cases hxy : x = y
        · subst hxy
          have HEQ : Hid (∀ j (h1 : j < xs.length) (h2 : j < ys.length), j < k + 1 → xs[j] = ys[j]) := fun j h1 h2 hj => by
            by_cases e : j < k
            · exact heq.out j h1 h2 e
            · obtain rfl : j = k := by omega
              rw [← HXY.out.1, ← HXY.out.2]
          go_wp2
          go_quiet (fail)
          go_wp2
          go_roundw
          case rel => exact ⟨k + 1, by omega, by go_num, HEQ, below_drewN hbr _⟩
          case measure => simp [RowKit.intOf]; omega
        · obtain rfl : r = false := b_false HR.out (fun e => hxy (by rw [HXY.out.1, HXY.out.2]; simp only [e]))
          have hq : (x == y) = false := beq_eq_false_iff_ne.2 hxy
          clear hxy HR
          go_wp2
          go_quiet (fail)
          go_wp2
          go_ret
          exact ⟨rfl, below_drewN hbr _⟩
      · obtain rfl : k = N := by omega
        obtain rfl : r = true := HR.out.2 (same_upto (by rw [← HN.out, ← HM.out]) (fun j h1 h2 => heq.out j h1 h2 (by rw [HN.out]; exact h1)))
        clear HR
        go_wp2
        go_ret
        exact ⟨rfl, hbr⟩
  · obtain rfl : r = false := b_false HR.out (fun e => hl (by rw [HN.out, HM.out, e]))
    have hq : ((N : Int) == (M : Int)) = false := beq_eq_false_iff_ne.2 (by omega)
    clear HR hl
    go_enter Try.func16, Try.ntmps16
    go_wp2
    go_ret
    exact ⟨rfl, Below.refl _ _⟩

end Go.Proofs.Ytlebimolgienkaa
