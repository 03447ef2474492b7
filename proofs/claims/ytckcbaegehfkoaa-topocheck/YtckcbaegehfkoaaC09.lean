/-
  carcanetlaw03.GraphSum answers true.
  A row of truths that the call has made, place by place.
  Rows that lie in one array, each with its own room, headers in another: what one number more makes of them.
  graph.Degrees once more: its row is a new one.
-/
import Derived.Test.YtckcbaegehfkoaaC08
import Derived.Test.YtckcbaegehfkoaaC05
import Derived.Test.YtckcbaegehfkoaaC03
import Derived.Deep.RegionHeld3
import Derived.Test.YtckcbaegehfkoaaC07
import Derived.Deep.RegionLaw
namespace Go.Proofs.Ytckcbaegehfkoaa
open Go.RowKit Go.Lib

/-- A sum over the vertices below n. -/
def sumN (f : Nat → Nat) : Nat → Nat
  | 0 => 0
  | n + 1 => sumN f n + f n
theorem sumN_add (f g : Nat → Nat) (n : Nat) : sumN (fun v => f v + g v) n = sumN f n + sumN g n := by
  induction n with
  | zero => rfl
  | succ n ih => simp only [sumN, ih]; omega
theorem sumN_congr {f g : Nat → Nat} (h : ∀ v, f v = g v) (n : Nat) : sumN f n = sumN g n := by
  induction n with
  | zero => rfl
  | succ n ih => simp only [sumN, ih, h]
theorem sumN_zero (n : Nat) : sumN (fun _ => 0) n = 0 := by
  induction n with
  | zero => rfl
  | succ n ih => simp only [sumN, ih]
theorem sumN_at (a n : Nat) : sumN (fun v => if v = a then 1 else 0) n = if a < n then 1 else 0 := by
  induction n with
  | zero => rfl
  | succ n ih =>
    simp only [sumN, ih]
    by_cases h1 : a < n
    · rw [if_pos h1, if_neg (by omega), if_pos (by omega)]
    · by_cases h2 : n = a
      · rw [if_neg h1, if_pos h2, if_pos (by omega)]
      · rw [if_neg h1, if_neg h2, if_neg (by omega)]
theorem sumN_le (f : Nat → Nat) {a n : Nat} (h : a ≤ n) : sumN f a ≤ sumN f n := by
  induction n with
  | zero => obtain rfl : a = 0 := by omega
            exact Nat.le_refl _
  | succ n ih =>
    by_cases e : a = n + 1
    · subst e; exact Nat.le_refl _
    · have := ih (by omega)
      simp only [sumN]; omega
theorem other_len {a b v : Nat} (h : a ≠ b) : (other (v : Int) ((a : Int), (b : Int))).length = (if v = a then 1 else 0) + (if v = b then 1 else 0) := by
  unfold other
  by_cases h1 : v = a
  · subst h1
    rw [if_pos rfl, if_pos rfl, if_neg h]; rfl
  · by_cases h2 : v = b
    · subst h2
      rw [if_neg (fun e => h1 (by have e' : (a : Int) = v := e; omega)), if_pos rfl, if_neg h1, if_pos rfl]; rfl
    · rw [if_neg (fun e => h1 (by have e' : (a : Int) = v := e; omega)), if_neg (fun e => h2 (by have e' : (b : Int) = v := e; omega)), if_neg h1, if_neg h2]; rfl
theorem deg_sum (m : Nat) : ∀ es : List (Int × Int), (∀ e ∈ es, 0 ≤ e.1 ∧ e.1 < e.2 ∧ e.2 < m) → sumN (fun v => (nbL v es).length) m = 2 * es.length
  | [], _ => sumN_zero m
  | e :: es, h => by
    have h0 := h e (by simp)
    have ih := deg_sum m es (fun x hx => h x (by simp [hx]))
    obtain ⟨a, ha⟩ : ∃ a : Nat, e.1 = a := ⟨e.1.toNat, by omega⟩
    obtain ⟨b, hb⟩ : ∃ b : Nat, e.2 = b := ⟨e.2.toNat, by omega⟩
    have he : e = ((a : Int), (b : Int)) := by rw [← ha, ← hb]
    have hab : a ≠ b := by omega
    rw [sumN_congr (g := fun v => ((if v = a then 1 else 0) + (if v = b then 1 else 0)) + (nbL v es).length) (fun v => by
      show (other (v : Int) e ++ nbL v es).length = _
      rw [List.length_append, he, other_len hab])]
    rw [sumN_add, sumN_add, sumN_at, sumN_at, ih, if_pos (by omega), if_pos (by omega)]
    simp; omega
end Go.Proofs.Ytckcbaegehfkoaa
namespace Go.Proofs.Ytckcbaegehfkoaa
open Go.RowKit Go.Lib

theorem Try.info4 : (Try.prog.info? 4).map (fun i => (i.zero, i.size, i.bytes)) = some (some (.bool false), 1, 1) := by kernel_rfl
/-- A row of truths that may be written, place by place. -/
def RowB (w : World) (g n : Nat) (c : Nat → Bool) : Prop := g < w.heap.size ∧ ∀ j, j < n → w.cell? ⟨g, j, none⟩ = some (.bool (c j)) ∧ w.frozen? ⟨g, j, none⟩ = false
theorem RowB.put {w : World} {g n : Nat} {c : Nat → Bool} (h : RowB w g n c) {i : Nat} (hi : i < n) (x : Bool) : RowB (w.setCell ⟨g, i, none⟩ (.bool x)) g n (fun j => if j = i then x else c j) := by
  refine ⟨by simpa using h.1, fun j hj => ?_⟩
  obtain ⟨a, fa⟩ := h.2 j hj
  simp only [World.frozen?_setCell]
  refine ⟨?_, fa⟩
  by_cases e : j = i
  · subst e
    rw [if_pos rfl]
    exact World.cell?_setCell_same' _ _ _ (by rw [a]; rfl)
  · rw [if_neg e, World.cell?_setCell_other _ _ _ _ (by simp <;> omega)]
    exact a
theorem RowB.congr {w : World} {g n : Nat} {c d : Nat → Bool} (h : RowB w g n c) (e : ∀ j, j < n → c j = d j) : RowB w g n d := ⟨h.1, fun j hj => by rw [← e j hj]; exact h.2 j hj⟩
theorem RowB.below {w w' : World} {g n : Nat} {c : Nat → Bool} (h : RowB w g n c) (hB : Below w.heap.size w w') : RowB w' g n c := by
  refine ⟨Nat.lt_of_lt_of_le h.1 hB.size, fun j hj => ⟨(hB.cell (p := ⟨g, j, none⟩) h.1).trans (h.2 j hj).1, ?_⟩⟩
  rw [← (h.2 j hj).2]
  unfold World.frozen?
  rw [hB.block g h.1]
theorem RowB.drew {w : World} {g n : Nat} {c : Nat → Bool} (h : RowB w g n c) : RowB w.drew g n c := h
theorem made_bools (n : Nat) : (madeCells (Value.bool false).cells (n * 1)).toList = List.replicate n (.bool false) := by
  apply List.ext_getElem
  · simp [madeCells]
  · intro i h1 h2
    simp [madeCells, Value.cells, Nat.mod_one]
theorem rowB_made {w : World} {base g n : Nat} {e : TypeId} (h : w.ownsRow base e 1 (.slice (some ⟨g, 0, none⟩) n n) n (madeCells (Value.bool false).cells (n * 1)).toList) : RowB w g n (fun _ => false) := by
  rw [made_bools] at h
  have hg : g < w.heap.size := (h.lt g rfl).2
  refine ⟨hg, fun j hj => ?_⟩
  rcases h.2 with ⟨hv, _⟩ | ⟨g', cap, cur, hv, _, hgb, _⟩
  · simp at hv
  · simp only [Value.slice.injEq, Option.some.injEq, Addr.mk.injEq, and_true, true_and] at hv
    obtain ⟨rfl, _⟩ := hv
    have := h.cells (g := g) rfl j (.bool false) (by rw [List.getElem?_replicate, if_pos hj])
    rw [add_at, Nat.zero_add] at this
    exact ⟨this, frozen_of_heap hgb _⟩
end Go.Proofs.Ytckcbaegehfkoaa
namespace Go.Proofs.Ytckcbaegehfkoaa
open Go.RowKit Go.Lib

/-- append of one value where there is room, as one step of a region that draws. -/
theorem step_append_put {P : Program} {ops : Array Oper} {o : Oper} {a : Act} {w : World} {K : Act → World → Prop} {Q : Exit → Act → World → Prop} {E : Prop}
    (hg : o.guard = none) (s x : Operand) (t : TypeId) (hop : o.op = Op.call { callee := Callee.builtin Builtin.append, args := #[s, x], argTypes := #[t, t] })
    (e : TypeId) (i : TypeInfo) (h1 : P.underlying t = some (.slice e)) (h2 : P.info? e = some i) (h4 : i.size = 1)
    (b off n cap : Nat) (hs : a.eval s = .slice (some ⟨b, off, none⟩) n cap)
    (g : Nat) (c : Nat) (u : Value) (hx : a.eval x = .slice (some ⟨g, 0, none⟩) 1 c) (hc : w.cell? ⟨g, 0, none⟩ = some u) (h1c : u.oneCell' = true)
    (hroom : n < cap) (hspare : (w.cell? ⟨b, off + n, none⟩).isSome = true ∧ w.frozen? ⟨b, off + n, none⟩ = false)
    (hK : ∀ w', Hid (w' = w.setCell ⟨b, off + n, none⟩ u) → K (a.put o.dst (.slice (some ⟨b, off, none⟩) (n + 1) cap)) w') :
    if Region.wanted o (yielded ops a.tmps) = true then Oper.wp P o a w K Q else E := by
  refine step_append_room hg s x t hop e i 1 h1 h2 h4 b off n cap hs ⟨g, 0, none⟩ 1 c [u] hx rfl (fun j v hj => ?_) (fun v hv => by simp at hv; rw [hv]; exact h1c) (by omega) (fun j hj => ?_) ?_
  · cases j with
    | zero => simp at hj; subst hj; exact hc
    | succ j => simp at hj
  · obtain rfl : j = 0 := by simp at hj; exact hj
    simpa using hspare
  · rw [Nat.mul_one]
    exact hK _ rfl

/-- Rows in block R, each in a room of its own, headers in block N. -/
structure NB (w : World) (N R m T : Nat) (dg off : Nat → Nat) (B : Nat → List Int) : Prop where
  ltN : N < w.heap.size
  ne : N ≠ R
  hd : ∀ j, j < m → ∃ s, w.cell? ⟨N, j, none⟩ = some (.slice (some ⟨R, s, none⟩) (B j).length (dg j)) ∧ w.frozen? ⟨N, j, none⟩ = false ∧ (0 < dg j → s = off j)
  fit : ∀ j, j < m → (B j).length ≤ dg j
  rm : ∃ c, Row1 w R T c ∧ ∀ j, j < m → ∀ i (h : i < (B j).length), c (off j + i) = (B j)[i]
/-- Rooms that lie behind each other. -/
def Rooms (m T : Nat) (dg off : Nat → Nat) : Prop := (∀ j, j < m → off j + dg j ≤ T) ∧ ∀ i j, i < m → j < m → i < j → off i + dg i ≤ off j
theorem rooms_sum {m T : Nat} {dg : Nat → Nat} (h : sumN dg m = T) : Rooms m T dg (sumN dg) := by
  have hs : ∀ j, sumN dg j + dg j = sumN dg (j + 1) := fun j => rfl
  refine ⟨fun j hj => ?_, fun i j hi hj hij => ?_⟩
  · rw [hs, ← h]; exact sumN_le dg (by omega)
  · rw [hs]; exact sumN_le dg (by omega)
theorem NB.drew {w : World} {N R m T : Nat} {dg off : Nat → Nat} {B : Nat → List Int} (h : NB w N R m T dg off B) : NB w.drew N R m T dg off B := ⟨h.ltN, h.ne, h.hd, h.fit, h.rm⟩
theorem Row1.kept {S : Nat → Prop} {w w' : World} {g n : Nat} {c : Nat → Int} (h : Row1 w g n c) (hk : KeptBut S w w') (hg : ¬ S g) : Row1 w' g n c :=
  ⟨Nat.lt_of_lt_of_le h.1 hk.size, fun j hj => ⟨(hk.cell (p := ⟨g, j, none⟩) h.1 hg).trans (h.2 j hj).1, (hk.frozen (p := ⟨g, j, none⟩) h.1 hg).trans (h.2 j hj).2⟩⟩
theorem NB.alloc {w : World} {N R m T : Nat} {dg off : Nat → Nat} {B : Nat → List Int} (h : NB w N R m T dg off B) (o : Obj) : NB (w.alloc o) N R m T dg off B := by
  have hk := kept_alloc w o (fun _ => False)
  refine ⟨Nat.lt_of_lt_of_le h.ltN hk.size, h.ne, fun j hj => ?_, h.fit, ?_⟩
  · obtain ⟨s, h1, h2, h3⟩ := h.hd j hj
    exact ⟨s, (hk.cell (p := ⟨N, j, none⟩) h.ltN (fun e => e)).trans h1, (hk.frozen (p := ⟨N, j, none⟩) h.ltN (fun e => e)).trans h2, h3⟩
  · obtain ⟨c, h1, h2⟩ := h.rm
    exact ⟨c, h1.alloc o, h2⟩
theorem NB.push {w : World} {N R m T : Nat} {dg off : Nat → Nat} {B : Nat → List Int} (h : NB w N R m T dg off B) (hr : Rooms m T dg off) {j : Nat} (hj : j < m) (hlt : (B j).length < dg j) (x : Int) :
    NB ((w.setCell ⟨R, off j + (B j).length, none⟩ (.int .i64 x)).setCell ⟨N, j, none⟩ (.slice (some ⟨R, off j, none⟩) ((B j).length + 1) (dg j))) N R m T dg off (fun u => if u = j then B j ++ [x] else B u) := by
  obtain ⟨c, hc, hB⟩ := h.rm
  have hroom := hr.1 j hj
  have hput := hc.put (i := off j + (B j).length) (by omega) x
  have hk := kept_set (w.setCell ⟨R, off j + (B j).length, none⟩ (.int .i64 x)) ⟨N, j, none⟩ (.slice (some ⟨R, off j, none⟩) ((B j).length + 1) (dg j))
  refine ⟨by simpa using h.ltN, h.ne, fun u hu => ?_, fun u hu => ?_, ⟨_, hput.kept hk (fun e => h.ne e.symm), fun u hu i hi => ?_⟩⟩
  · obtain ⟨s, h1, h2, h3⟩ := h.hd u hu
    have h1' : (w.setCell ⟨R, off j + (B j).length, none⟩ (.int .i64 x)).cell? ⟨N, u, none⟩ = some (.slice (some ⟨R, s, none⟩) (B u).length (dg u)) := by
      rw [World.cell?_setCell_other _ _ _ _ (fun e => h.ne (congrArg Addr.block e).symm)]; exact h1
    by_cases e : u = j
    · subst e
      simp only [if_pos]
      refine ⟨off u, ?_, by rw [World.frozen?_setCell, World.frozen?_setCell]; exact h2, fun _ => rfl⟩
      rw [List.length_append]
      exact World.cell?_setCell_same' _ _ _ (by rw [h1']; rfl)
    · simp only [if_neg e]
      refine ⟨s, ?_, by rw [World.frozen?_setCell, World.frozen?_setCell]; exact h2, h3⟩
      rw [World.cell?_setCell_other _ _ _ _ (by simp <;> omega)]; exact h1'
  · by_cases e : u = j
    · subst e; simp only [if_pos, List.length_append, List.length_singleton]; omega
    · simp only [if_neg e]; exact h.fit u hu
  · by_cases e : u = j
    · subst e
      simp only [if_pos] at hi ⊢
      rw [List.length_append, List.length_singleton] at hi
      by_cases e2 : i < (B u).length
      · rw [List.getElem_append_left e2, if_neg (by omega)]; exact hB u hu i e2
      · obtain rfl : i = (B u).length := by omega
        rw [if_pos rfl]; simp
    · simp only [if_neg e] at hi ⊢
      have hf := h.fit u hu
      rw [if_neg, hB u hu i hi]
      have := hr.2 u j hu hj
      have := hr.2 j u hj hu
      omega
theorem NB.congr {w : World} {N R m T : Nat} {dg off : Nat → Nat} {B B' : Nat → List Int} (h : NB w N R m T dg off B) (e : ∀ j, j < m → B j = B' j) : NB w N R m T dg off B' :=
  ⟨h.ltN, h.ne, fun j hj => by rw [← e j hj]; exact h.hd j hj, fun j hj => by rw [← e j hj]; exact h.fit j hj, by
    obtain ⟨c, h1, h2⟩ := h.rm
    refine ⟨c, h1, fun j hj i hi => ?_⟩
    have e' := e j hj
    have hi' : i < (B j).length := by rw [e']; exact hi
    rw [h2 j hj i hi']
    congr 1⟩
/-- What holds on the way, while one number more goes to row j (o, n, c: its slice). -/
structure Half (w w4 : World) (N R m T : Nat) (dg off : Nat → Nat) (B : Nat → List Int) (j E o n c : Nat) (x : Int) : Prop where
  hd : w4.cell? ⟨N, j, none⟩ = some (.slice (some ⟨R, o, none⟩) n c) ∧ w4.frozen? ⟨N, j, none⟩ = false
  var : ∀ i, w4.cell? ⟨E, i, none⟩ = w.cell? ⟨E, i, none⟩
  nb : NB (w4.setCell ⟨N, j, none⟩ (.slice (some ⟨R, o, none⟩) (n + 1) c)) N R m T dg off (fun u => if u = j then B j ++ [x] else B u)
  var2 : ∀ i, (w4.setCell ⟨N, j, none⟩ (.slice (some ⟨R, o, none⟩) (n + 1) c)).cell? ⟨E, i, none⟩ = w.cell? ⟨E, i, none⟩
  low : ∀ b w0, b ≤ N → b ≤ R → Below b w0 w → Below b w0 (w4.setCell ⟨N, j, none⟩ (.slice (some ⟨R, o, none⟩) (n + 1) c))
  size : w.heap.size ≤ (w4.setCell ⟨N, j, none⟩ (.slice (some ⟨R, o, none⟩) (n + 1) c)).heap.size
theorem NB.half {w : World} {N R m T : Nat} {dg off : Nat → Nat} {B : Nat → List Int} (h : NB w N R m T dg off B) (hr : Rooms m T dg off) {j : Nat} (hj : j < m) (hlt : (B j).length < dg j) (x : Int) {E : Nat} (hE : E < w.heap.size) (hEN : E ≠ N) (hER : E ≠ R) :
    ∃ o n c, w.cell? ⟨N, j, none⟩ = some (.slice (some ⟨R, o, none⟩) n c) ∧ n < c ∧ (w.drew.alloc (.cells #[.int .i64 x] 3)).cell? ⟨w.heap.size, 0, none⟩ = some (.int .i64 x) ∧
      (((w.drew.alloc (.cells #[.int .i64 x] 3)).cell? ⟨R, o + n, none⟩).isSome = true ∧ (w.drew.alloc (.cells #[.int .i64 x] 3)).frozen? ⟨R, o + n, none⟩ = false) ∧
      ∀ w4, w4 = (w.drew.alloc (.cells #[.int .i64 x] 3)).setCell ⟨R, o + n, none⟩ (.int .i64 x) → Half w w4 N R m T dg off B j E o n c x := by
  have hA := h.drew.alloc (.cells #[.int .i64 x] 3)
  obtain ⟨s, h1, h2, h3⟩ := h.hd j hj
  have hs := h3 (by omega)
  subst hs
  obtain ⟨c, hc, hB⟩ := hA.rm
  have hroom := hr.1 j hj
  obtain ⟨r1, r2⟩ := hc.2 (off j + (B j).length) (by omega)
  obtain ⟨s', g1, g2, g3⟩ := hA.hd j hj
  have hs' := g3 (by omega)
  subst hs'
  refine ⟨off j, (B j).length, dg j, h1, hlt, cell_of_heap (heap_alloc_new w.drew _) 0, ⟨by rw [r1]; rfl, r2⟩, fun w4 hw => ?_⟩
  have hne : ∀ i, (⟨R, off j + (B j).length, none⟩ : Addr) ≠ ⟨N, i, none⟩ := fun i e => h.ne (congrArg Addr.block e).symm
  have hv : ∀ i, w4.cell? ⟨E, i, none⟩ = w.cell? ⟨E, i, none⟩ := fun i => by
    rw [hw, World.cell?_setCell_other _ _ _ _ (fun e => hER (congrArg Addr.block e).symm)]
    exact (kept_alloc w.drew _ (fun _ => False)).cell (p := ⟨E, i, none⟩) hE (fun e => e)
  refine ⟨⟨?_, ?_⟩, hv, ?_, fun i => ?_, fun b w0 hbN hbR hb => ?_, ?_⟩
  · rw [hw, World.cell?_setCell_other _ _ _ _ (hne j)]; exact g1
  · rw [hw, World.frozen?_setCell]; exact g2
  · rw [hw]; exact hA.push hr hj hlt x
  · rw [World.cell?_setCell_other _ _ _ _ (fun e => hEN (congrArg Addr.block e).symm)]; exact hv i
  · rw [hw]
    exact ((hb.drew.alloc (Nat.le_of_lt (Nat.lt_of_le_of_lt hbN h.ltN)) _).setCell (p := ⟨R, off j + (B j).length, none⟩) hbR _).setCell (p := ⟨N, j, none⟩) hbN _
  · rw [hw]; simp
/-- The neighbours of each vertex, in memory. -/
def NearAt (w : World) (g m : Nat) (es : List (Int × Int)) : Prop := g < w.heap.size ∧ ∀ j, j < m → ∃ aj cj, w.cell? ⟨g, j, none⟩ = some (.slice aj (nbL j es).length cj) ∧ IAt w aj (nbL j es) ∧ Slw aj cj (nbL j es).length
theorem NearAt.below {w w' : World} {g m : Nat} {es : List (Int × Int)} (h : NearAt w g m es) (hb : Below w.heap.size w w') : NearAt w' g m es := by
  refine ⟨Nat.lt_of_lt_of_le h.1 hb.size, fun j hj => ?_⟩
  obtain ⟨aj, cj, h1, h2, h3⟩ := h.2 j hj
  exact ⟨aj, cj, (hb.cell (p := ⟨g, j, none⟩) h.1).trans h1, h2.below hb, h3⟩
theorem NB.near {w : World} {N R m T : Nat} {dg off : Nat → Nat} {es : List (Int × Int)} (h : NB w N R m T dg off (fun j => nbL j es)) (hr : Rooms m T dg off) : NearAt w N m es := by
  obtain ⟨c, hc, hB⟩ := h.rm
  refine ⟨h.ltN, fun j hj => ?_⟩
  obtain ⟨s, h1, _, h3⟩ := h.hd j hj
  refine ⟨_, _, h1, fun h0 => ?_, h.fit j hj, fun e => by cases e⟩
  have hf := h.fit j hj
  have hs := h3 (by omega)
  subst hs
  refine ⟨R, off j, rfl, hc.1, fun i hi => ?_⟩
  have hrm := hr.1 j hj
  have hi' : off j + i < T := by omega
  rw [(hc.2 _ hi').1, hB j hj i hi]
/-- One edge more. -/
theorem nb_next {es : List (Int × Int)} {k p q : Nat} (hk : k < es.length) (h1 : (p : Int) = es[k].1) (h2 : (q : Int) = es[k].2) (hpq : p < q) (j : Nat) :
    (if j = q then nbL (q : Int) (es.take k) ++ [(p : Int)] else if j = p then nbL (p : Int) (es.take k) ++ [(q : Int)] else nbL (j : Int) (es.take k)) = nbL (j : Int) (es.take (k + 1)) := by
  rw [nbL_take hk]
  unfold other
  rw [← h1, ← h2]
  by_cases e1 : j = q
  · subst e1
    rw [if_pos rfl, if_neg (by omega), if_pos rfl]
  · rw [if_neg e1]
    by_cases e2 : j = p
    · subst e2
      rw [if_pos rfl, if_pos rfl]
    · rw [if_neg e2, if_neg (by omega), if_neg (by omega), List.append_nil]
/-- There is room for one edge more. -/
theorem nb_room {es : List (Int × Int)} {k p q : Nat} (hk : k < es.length) (h1 : (p : Int) = es[k].1) (h2 : (q : Int) = es[k].2) (hpq : p < q) : (nbL (p : Int) (es.take k)).length < (nbL (p : Int) es).length ∧ (nbL (q : Int) (es.take k)).length < (nbL (q : Int) es).length := by
  have hp := (nbL_prefix (p : Int) es (k + 1)).length_le
  have hq := (nbL_prefix (q : Int) es (k + 1)).length_le
  rw [← nb_next hk h1 h2 hpq] at hp hq
  rw [if_neg (by omega), if_pos rfl, List.length_append] at hp
  rw [if_pos rfl, List.length_append] at hq
  simp at hp hq
  omega
end Go.Proofs.Ytckcbaegehfkoaa
namespace Go.Proofs.Ytckcbaegehfkoaa
open Go.RowKit Go.Lib

set_option maxHeartbeats 1000000 in
set_option maxRecDepth 100000 in
theorem degreesN_any (n : Int) (a : Option Addr) (cap : Nat) (es : List (Int × Int)) (b : Bool) (w : World) (hN : es.length ≤ 1000000) (hE : EAt w a es) (hb : b = true ↔ RightG n es) :
    Calls Try.prog 76 #[.agg #[.int .i64 n, .slice a es.length cap]] w fun e w' => ∃ a' cap' D, e = .returned (.slice a' D.length cap') ∧ D = (if b = true then (List.range n.toNat).map (fun v : Nat => ((nbL v es).length : Int)) else []) ∧ IAt w' a' D ∧ Below w.heap.size w w' ∧ ∀ g off, a' = some ⟨g, off, none⟩ → w.heap.size ≤ g := by
  obtain ⟨N, hNe⟩ : ∃ N, N = es.length := ⟨_, rfl⟩
  have HR : Hid (∀ W, EAt W a es → Calls Try.prog 62 #[.agg #[.int .i64 n, .slice a N cap]] W fun e w' => e = .returned (.bool b) ∧ Below W.heap.size W w') := fun W h => by rw [hNe]; exact right_any n a cap es b W hN h hb
  rw [← hNe] at hN ⊢
  have HN : Hid (N = es.length) := hNe
  have HE : Hid (EAt w a es) := hE
  have HB : Hid (b = true ↔ RightG n es) := hb
  clear hNe hE hb
  go_enter Try.func76, Try.ntmps76
  have hbA : Below w.heap.size w (w.alloc (.cells #[.int .i64 n, .slice a N cap] 30)) := (Below.refl _ _).alloc (Nat.le_refl _) _
  have HEA : Hid (EAt (w.alloc (.cells #[.int .i64 n, .slice a N cap] 30)) a es) := HE.out.below hbA
  have hOA : (w.alloc (.cells #[.int .i64 n, .slice a N cap] 30)).heap[w.heap.size]? = some (.cells #[.int .i64 n, .slice a N cap] 30) := heap_alloc_new _ _
  have hsA : (w.alloc (.cells #[.int .i64 n, .slice a N cap] 30)).heap.size = w.heap.size + 1 := by simp
  have HOA : Hid ((w.alloc (.cells #[.int .i64 n, .slice a N cap] 30)).heap[w.heap.size]? = some (.cells #[.int .i64 n, .slice a N cap] 30)) := hOA
  clear hOA
  go_wp2_with fail
  refine (HR.out _ HEA.out).mono ?_
  rintro e w1 ⟨rfl, hb1⟩
  rw [hsA] at hb1
  have hbw : Below w.heap.size w w1 := hbA.trans (hb1.mono (by omega))
  have o1 := (hb1.block w.heap.size (by omega)).trans HOA.out
  have HE1 : Hid (EAt w1 a es) := HE.out.below hbw
  have hs1 := hb1.size
  rw [hsA] at hs1
  have c0 := cell_of_heap o1 0
  have c1 := cell_of_heap o1 1
  clear hb1 hbA hsA HR HEA HOA
  cases b with
  | false =>
    go_wp2
    go_ret
    exact ⟨none, 0, [], rfl, rfl, iat_nil _ _, hbw, fun g off h => by cases h⟩
  | true =>
    have HRG : Hid (RightG n es) := HB.out.1 rfl
    obtain ⟨m, rfl⟩ : ∃ m : Nat, n = m := ⟨n.toNat, by have := HRG.out.1; omega⟩
    have hm : m ≤ 1000 := by have := HRG.out.2.1; omega
    have hNN : N ≤ 4000 := by have := HRG.out.2.2.1; rw [← HN.out] at this; exact this
    obtain ⟨i0, hi, hz0, hz1, hz2⟩ := info_parts Try.info3
    obtain ⟨w2, hrun, hown, hgrow⟩ := run_make_full (P := Try.prog) w1 w1.heap.size 25 3 i0 (.int .i64 0) 1 Try.underlying25 hi hz0 hz1 .i64 .i64 m (by rw [hz2]; omega) (by unfold maxLen; omega) (Nat.le_refl _)
    have hs2 : w1.heap.size < w2.heap.size := by
      rcases hown.2 with ⟨hv, _⟩ | ⟨g', cap, cur, hv, _, hgb, _⟩
      · simp at hv
      · simp only [Value.slice.injEq, Option.some.injEq, Addr.mk.injEq, and_true, true_and] at hv
        obtain ⟨rfl, _⟩ := hv
        exact (Array.getElem?_eq_some_iff.1 hgb).1
    have HRW : Hid (Row1 w2 w1.heap.size m (fun v => ((nbL (v : Int) (es.take 0)).length : Int))) := (row1_made hown hs2).congr (fun j _ => by simp [nbL])
    have hb2 : Below w1.heap.size w1 w2 := Below.grown (Below.refl _ _) hgrow (Nat.le_refl _) (fun k hk => by cases hk)
    have c1' : w2.cell? ⟨w.heap.size, 1, none⟩ = some (.slice a N cap) := (hb2.cell (p := ⟨w.heap.size, 1, none⟩) (by simp; omega)).trans c1
    have HRN : Hid (∀ W, W = w1 → (Instr.makeSlice 25 (.int .i64 m) (.int .i64 m)).run Try.prog W = .ok (.slice (some ⟨w1.heap.size, 0, none⟩) m m) w2) := fun W h => by rw [h]; exact hrun
    clear hown hgrow hi hz0 hz1 hz2 HB c1 HRN
    go_wp2
    go_loopw [15] (fun i wr => ∃ k : Nat, k ≤ N ∧ i = .int .i64 k ∧ Hid (Row1 wr w1.heap.size m (fun v => ((nbL (v : Int) (es.take k)).length : Int))) ∧ Below w1.heap.size w1 wr) (fun i _ => N - (RowKit.intOf i).toNat)
    case atStart => exact ⟨0, Nat.zero_le _, rfl, HRW, hb2⟩
    case round =>
      obtain ⟨k, hk, rfl, hrow, hbr⟩ := hrel
      by_cases hlt : k < N
      · have hkr : k < es.length := by rw [← HN.out]; exact hlt
        obtain ⟨g, off, rfl, hg, hcs⟩ := HE1.out.at hkr
        have hin := (HRG.out.at k hkr).1
        obtain ⟨p, hp⟩ : ∃ p : Nat, (p : Int) = es[k].1 := ⟨es[k].1.toNat, by omega⟩
        obtain ⟨q, hq⟩ : ∃ q : Nat, (q : Int) = es[k].2 := ⟨es[k].2.toNat, by omega⟩
        have d := hcs wr hbr k hkr
        rw [← hp, ← hq] at d hin
        obtain ⟨d0, d1⟩ := d
        have i1 : p < q := by omega
        have i2 : q < m := by omega
        have HD := deg_next (m := m) hkr hp hq i1
        obtain ⟨x1, hx1⟩ := ex_eq (nbL (p : Int) (es.take k)).length
        obtain ⟨x2, hx2⟩ := ex_eq (nbL (q : Int) (es.take k)).length
        have hl1 : x1 ≤ 4000 := by rw [hx1]; exact Nat.le_trans (nbL_len _ _) (by rw [List.length_take]; omega)
        have hl2 : x2 ≤ 4000 := by rw [hx2]; exact Nat.le_trans (nbL_len _ _) (by rw [List.length_take]; omega)
        obtain ⟨c, hc⟩ := ex_eq (fun v : Nat => ((nbL (v : Int) (es.take k)).length : Int))
        rw [← hc] at hrow
        have hcp : c p = x1 := by rw [hc, hx1]
        have hcq : c q = x2 := by rw [hc, hx2]
        have hrA := hrow.out.alloc (.cells #[.int .i64 p, .int .i64 q] 59)
        have r1 := hrA.2 p (by omega)
        have HR1 := hrA.put (i := p) (by omega) ((x1 : Int) + 1)
        have r2 := HR1.2 q i2
        rw [hcp] at r1
        have hqq : (fun j => if j = p then (x1 : Int) + 1 else c j) q = (x2 : Int) := by
          show (if q = p then (x1 : Int) + 1 else c q) = (x2 : Int)
          rw [if_neg (by omega), hcq]
        rw [hqq] at r2
        have HR2 := HR1.put (i := q) i2 ((x2 : Int) + 1)
        have HRX : Hid (Row1 (((wr.alloc (.cells #[.int .i64 p, .int .i64 q] 59)).setCell ⟨w1.heap.size, p, none⟩ (.int .i64 ((x1 : Int) + 1))).setCell ⟨w1.heap.size, q, none⟩ (.int .i64 ((x2 : Int) + 1))) w1.heap.size m (fun v => ((nbL (v : Int) (es.take (k + 1))).length : Int))) := HR2.congr (fun j hj => by
          rw [← HD j hj, hx1, hx2, hc])
        obtain ⟨r1, r1f⟩ := r1
        obtain ⟨r2, r2f⟩ := r2
        have hbX : Below w1.heap.size w1 (((wr.alloc (.cells #[.int .i64 p, .int .i64 q] 59)).setCell ⟨w1.heap.size, p, none⟩ (.int .i64 ((x1 : Int) + 1))).setCell ⟨w1.heap.size, q, none⟩ (.int .i64 ((x2 : Int) + 1))) := ((hbr.alloc hbr.size _).setCell (p := ⟨w1.heap.size, p, none⟩) (Nat.le_refl _) _).setCell (p := ⟨w1.heap.size, q, none⟩) (Nat.le_refl _) _
        have hsr : w1.heap.size < wr.heap.size := hrow.out.1
        have bx1 : ((wr.alloc (.cells #[.int .i64 p, .int .i64 q] 59)).setCell ⟨w1.heap.size, p, none⟩ (.int .i64 ((x1 : Int) + 1))).cell? ⟨wr.heap.size, 1, none⟩ = some (.int .i64 q) := by
          rw [World.cell?_setCell_other _ _ _ _ (by simp <;> omega)]
          exact cell_of_heap (heap_alloc_new _ _) 1
        have q1 : (p : Int) < (m : Int) := by omega
        have q2 : (q : Int) < (m : Int) := by omega
        clear hsr hqq HD hx1 hx2 hc hcp hcq hrA HR1 HR2 hp hq hin hcs hrow
        go_wp2
        go_roundw
        case rel => exact ⟨k + 1, by omega, by go_num, HRX, hbX⟩
        case measure => simp [RowKit.intOf]; omega
      · obtain rfl : k = N := by omega
        have htk : es.take k = es := by rw [HN.out, List.take_length]
        rw [htk] at hrow
        go_wp2
        go_ret
        have hl : ((List.range m).map (fun v : Nat => ((nbL (v : Int) es).length : Int))).length = m := by simp
        refine ⟨some ⟨w1.heap.size, 0, none⟩, m, (List.range m).map (fun v : Nat => ((nbL (v : Int) es).length : Int)), by rw [hl]; rfl, ?_, hrow.out.iat, hbw.trans (hbr.mono (by omega)), fun g off h => by cases h; omega⟩
        simp
end Go.Proofs.Ytckcbaegehfkoaa
