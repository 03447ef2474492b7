/-
  What is reached from a vertex: pure facts for the document's components. No program is named here.
  What the laws of layer 4 ask of the program's parts: a row of contracts over any way in which a part may lie in memory.
  The small case that the laws of layer 4 begin with answers true.
  carcanetlaw04.PartTells answers true, for any part that keeps the contracts.
-/
import Derived.Test.YthakjmfjbibbjaaB04
import Derived.Test.YthakjmfjbibbjaaB03
import Derived.Test.YthakjmfjbibbjaaB05
namespace Go.Proofs.Ythakjmfjbibbjaa

/-- The edges of a graph as pairs of numbers. -/
def prsN (es : List (Int × Int)) : List (Nat × Nat) := es.map (fun e => (e.1.toNat, e.2.toNat))
theorem prsN_in {n : Nat} {es : List (Int × Int)} (h : RightG n es) : PairsIn n (prsN es) := fun e he => by
  obtain ⟨x, hx, rfl⟩ := List.mem_map.1 he
  have := h.2.2.2.1 x hx
  simp only
  omega
theorem mem_prsN {n : Nat} {es : List (Int × Int)} (h : RightG n es) {a b : Nat} : (a, b) ∈ prsN es ↔ ((a : Int), (b : Int)) ∈ es := by
  unfold prsN
  rw [List.mem_map]
  constructor
  · rintro ⟨x, hx, e⟩
    have := h.2.2.2.1 x hx
    simp only [Prod.mk.injEq] at e
    have e2 : x = ((a : Int), (b : Int)) := Prod.ext (by simp; omega) (by simp; omega)
    rw [← e2]; exact hx
  · intro hx; exact ⟨_, hx, by simp⟩
/-- There are classes to each row of pairs. -/
theorem tells_rev {n : Nat} : ∀ (Q : List (Nat × Nat)), PairsIn n Q.reverse → ∃ f, Pt n f ∧ Tells n f Q.reverse
  | [], _ => ⟨_, pt_new n, tells_new n⟩
  | e :: Q, h => by
    rw [List.reverse_cons] at h ⊢
    obtain ⟨f, hf, ht⟩ := tells_rev Q (fun x hx => h x (List.mem_append_left _ hx))
    have he := h e (by simp)
    exact ⟨_, hf.join he.1 he.2, tells_join ht (fun x hx => h x (List.mem_append_left _ hx)) he.1 he.2⟩
theorem tells_ex {n : Nat} (P : List (Nat × Nat)) (h : PairsIn n P) : ∃ f, Pt n f ∧ Tells n f P := by
  have := tells_rev P.reverse (by rw [List.reverse_reverse]; exact h)
  rwa [List.reverse_reverse] at this
/-- What has been reached from m. -/
structure Bfs (n : Nat) (f : Nat → Nat) (m : Nat) (ls : List Int) : Prop where
  nd : ls.Nodup
  all : ∀ x ∈ ls, ∃ u : Nat, x = u ∧ u < n ∧ f u = m
  has : (m : Int) ∈ ls
theorem Bfs.put {n : Nat} {f : Nat → Nat} {m : Nat} {ls : List Int} (h : Bfs n f m ls) {u : Nat} (hu : u < n) (hf : f u = m) (hn : (u : Int) ∉ ls) : Bfs n f m (ls ++ [(u : Int)]) := by
  refine ⟨?_, fun x hx => ?_, by simp [h.has]⟩
  · rw [List.nodup_append]
    refine ⟨h.nd, by simp, fun a ha b hb => ?_⟩
    simp at hb
    subst hb
    intro e
    subst e
    exact hn ha
  · rcases List.mem_append.1 hx with hx | hx
    · exact h.all x hx
    · simp at hx; exact ⟨u, hx, hu, hf⟩
theorem len_le_of_subI {a b : List Int} (h : a.Nodup) (hs : ∀ e ∈ a, e ∈ b) : a.length ≤ b.length := by
  induction a generalizing b with
  | nil => simp
  | cons x a ih =>
    have hx := hs x (by simp)
    have hnd := List.nodup_cons.1 h
    have := ih (b := b.erase x) hnd.2 (fun e he => by
      refine (List.mem_erase_of_ne ?_).2 (hs e (by simp [he]))
      rintro rfl
      exact hnd.1 he)
    rw [List.length_erase_of_mem hx] at this
    have : 0 < b.length := List.length_pos_of_mem hx
    simp; omega
theorem Bfs.len {n : Nat} {f : Nat → Nat} {m : Nat} {ls : List Int} (h : Bfs n f m ls) : ls.length ≤ n := by
  have := len_le_of_subI (b := upto n) h.nd (fun x hx => by
    obtain ⟨u, rfl, hu, _⟩ := h.all x hx
    unfold upto
    exact List.mem_map.2 ⟨u, by simpa using hu, rfl⟩)
  rwa [upto_len] at this
/-- The neighbours of the first i are reached. -/
def ClosedTo (es : List (Int × Int)) (ls : List Int) (i : Nat) : Prop := ∀ j (h : j < ls.length), j < i → ∀ y ∈ nbL ls[j] es, y ∈ ls
theorem ClosedTo.put {es : List (Int × Int)} {ls : List Int} {i : Nat} (h : ClosedTo es ls i) (hi : i ≤ ls.length) (x : Int) : ClosedTo es (ls ++ [x]) i := fun j hj hji y hy => by
  have hj' : j < ls.length := by omega
  have e : (ls ++ [x])[j] = ls[j] := List.getElem_append_left hj'
  rw [e] at hy
  exact List.mem_append_left _ (h j hj' hji y hy)
theorem ClosedTo.next {es : List (Int × Int)} {ls : List Int} {i : Nat} (h : ClosedTo es ls i) {x : Int} (hx : ls[i]? = some x) (hn : ∀ y ∈ nbL x es, y ∈ ls) : ClosedTo es ls (i + 1) := fun j hj hji y hy => by
  by_cases e : j < i
  · exact h j hj e y hy
  · obtain rfl : j = i := by omega
    rw [List.getElem?_eq_getElem hj] at hx
    cases hx
    exact hn y hy
end Go.Proofs.Ythakjmfjbibbjaa
namespace Go.Proofs.Ythakjmfjbibbjaa
open Go.RowKit Go.Lib

/-- A list of rows in memory, all of them in blocks of A. -/
def LLIn (w : World) (A : Nat → Prop) (a : Option Addr) (LL : List (List Int)) : Prop :=
  0 < LL.length → ∃ g off, a = some ⟨g, off, none⟩ ∧ g < w.heap.size ∧ A g ∧ ∀ k (hk : k < LL.length), ∃ ak ck, w.cell? ⟨g, off + k, none⟩ = some (.slice ak LL[k].length ck) ∧ IAt w ak LL[k] ∧ ∀ g off, ak = some ⟨g, off, none⟩ → 0 < LL[k].length → A g
theorem LLIn.at {w : World} {A : Nat → Prop} {a : Option Addr} {LL : List (List Int)} (h : LLIn w A a LL) : LLAt w a LL := fun h0 => by
  obtain ⟨g, off, ha, hg, _, hc⟩ := h h0
  exact ⟨g, off, ha, hg, fun k hk => by obtain ⟨ak, ck, h1, h2, _⟩ := hc k hk; exact ⟨ak, ck, h1, h2⟩⟩
theorem LLIn.kept {w w' : World} {A T : Nat → Prop} {a : Option Addr} {LL : List (List Int)} (h : LLIn w A a LL) (hk : KeptBut T w w') (hs : ∀ k, A k → k < w.heap.size → ¬ T k) : LLIn w' A a LL := fun h0 => by
  obtain ⟨g, off, ha, hg, hA, hc⟩ := h h0
  refine ⟨g, off, ha, Nat.lt_of_lt_of_le hg hk.size, hA, fun k hk' => ?_⟩
  obtain ⟨ak, ck, h1, h2, h3⟩ := hc k hk'
  refine ⟨ak, ck, (hk.cell (p := ⟨g, off + k, none⟩) hg (hs g hA hg)).trans h1, h2.kept hk (fun g' off' e h0' => hs g' (h3 g' off' e h0') ?_), h3⟩
  obtain ⟨g2, off2, e2, hg2, _⟩ := h2 h0'
  rw [e] at e2
  cases e2
  exact hg2
theorem LLIn.below {w w' : World} {A : Nat → Prop} {a : Option Addr} {LL : List (List Int)} (h : LLIn w A a LL) (hb : Below w.heap.size w w') : LLIn w' A a LL := h.kept (KeptBut.of_whole (fun _ => False) hb) (fun _ _ _ e => e)
theorem LLIn.mono {w : World} {A A' : Nat → Prop} {a : Option Addr} {LL : List (List Int)} (h : LLIn w A a LL) (hA : ∀ k, A k → A' k) : LLIn w A' a LL := fun h0 => by
  obtain ⟨g, off, ha, hg, hAg, hc⟩ := h h0
  refine ⟨g, off, ha, hg, hA g hAg, fun k hk => ?_⟩
  obtain ⟨ak, ck, h1, h2, h3⟩ := hc k hk
  exact ⟨ak, ck, h1, h2, fun g off e h0 => hA g (h3 g off e h0)⟩
theorem LLOwn.in {w : World} {base : Nat} {A : Nat → Prop} {v : Value} {us : List Value} {LL : List (List Int)} (h : LLOwn w base A v us LL) : ∃ a cap, v = .slice a LL.length cap ∧ LLIn w A a LL := by
  obtain ⟨a, cap, hv, hsl⟩ := sl_own h.1
  refine ⟨a, cap, hv, fun h0 => ?_⟩
  obtain ⟨g, cap', hv', hb, hg, hc, hcs⟩ := own_row h.1 h0
  rw [hv] at hv'
  simp only [Value.slice.injEq, true_and] at hv'
  refine ⟨g, 0, hv'.1, hg, h.2.2.1 g (by rw [hv, hv'.1]; rfl), fun k hk => ?_⟩
  obtain ⟨ak, ck, h1, h2, h3⟩ := h.2.2.2 k hk
  exact ⟨ak, ck, by rw [Nat.zero_add]; exact hcs k _ h1, h2, fun g off e h0 => (h3 g off e h0).1⟩

/-- What a call on a part leaves: the part with its classes f, in blocks that it had or that are new; all else as it was. -/
def PNext (PA : World → Addr → Nat → (Nat → Nat) → (Nat → Prop) → Prop) (S : Nat → Prop) (w w' : World) (p : Addr) (n : Nat) (f : Nat → Nat) : Prop :=
  ∃ S', PA w' p n f S' ∧ (∀ k, S' k → S k ∨ w.heap.size ≤ k) ∧ KeptBut S w w'
/-- What New leaves. -/
def PNew (PA : World → Addr → Nat → (Nat → Nat) → (Nat → Prop) → Prop) (w w' : World) (p : Addr) (n : Int) : Prop :=
  ∃ (m : Nat) (S : Nat → Prop), (m : Int) = max 0 (min n 1000) ∧ PA w' p m (fun i => i) S ∧ (∀ k, S k → w.heap.size ≤ k) ∧ Below w.heap.size w w'
/-- What Classes leaves: rows of their own. -/
def PRows (PA : World → Addr → Nat → (Nat → Nat) → (Nat → Prop) → Prop) (S : Nat → Prop) (w w' : World) (p : Addr) (n : Nat) (f : Nat → Nat) (v : Value) : Prop :=
  ∃ S' a cap, v = .slice a (classesF n f).length cap ∧ LLIn w' (fun k => w.heap.size ≤ k ∧ ¬ S' k) a (classesF n f) ∧ PA w' p n f S' ∧ (∀ k, S' k → S k ∨ w.heap.size ≤ k) ∧ KeptBut S w w'
/-- The components, in rows of their own. -/
def PComp (w w' : World) (v : Value) (LL : List (List Int)) : Prop := ∃ a cap, v = .slice a LL.length cap ∧ LLIn w' (fun k => w.heap.size ≤ k) a LL ∧ Below w.heap.size w w'
def sameI (n : Nat) (f : Nat → Nat) (x y : Int) : Prop := (0 ≤ x ∧ x < n) ∧ (0 ≤ y ∧ y < n) ∧ f x.toNat = f y.toNat
def joinI (n : Nat) (f : Nat → Nat) (x y : Int) : Prop := (0 ≤ x ∧ x < n) ∧ (0 ≤ y ∧ y < n) ∧ f x.toNat ≠ f y.toNat

theorem LLIn.bound {w : World} {A : Nat → Prop} {a : Option Addr} {LL : List (List Int)} (h : LLIn w A a LL) : LLIn w (fun k => A k ∧ k < w.heap.size) a LL := fun h0 => by
  obtain ⟨g, off, ha, hg, hAg, hc⟩ := h h0
  refine ⟨g, off, ha, hg, ⟨hAg, hg⟩, fun k hk => ?_⟩
  obtain ⟨ak, ck, h1, h2, h3⟩ := hc k hk
  refine ⟨ak, ck, h1, h2, fun g off e h0 => ⟨h3 g off e h0, ?_⟩⟩
  obtain ⟨g2, off2, e2, hg2, _⟩ := h2 h0
  rw [e] at e2
  cases e2
  exact hg2
theorem LLIn.cell {w : World} {A : Nat → Prop} {a : Option Addr} {LL : List (List Int)} (h : LLIn w A a LL) {k : Nat} (hk : k < LL.length) : ∃ g off ak ck, a = some ⟨g, off, none⟩ ∧ w.cell? ⟨g, off + k, none⟩ = some (.slice ak LL[k].length ck) ∧ IAt w ak LL[k] := h.at.at hk
theorem iat_cell {w : World} {a : Option Addr} {xs : List Int} (h : IAt w a xs) {k : Nat} (hk : k < xs.length) : ∃ g off, a = some ⟨g, off, none⟩ ∧ w.cell? ⟨g, off + k, none⟩ = some (.int .i64 xs[k]) := by
  obtain ⟨g, off, ha, _, hc⟩ := h (by omega)
  exact ⟨g, off, ha, hc k hk⟩
/-- What a call on a part leaves, over the world of the law. -/
theorem PNext.step {PA : World → Addr → Nat → (Nat → Nat) → (Nat → Prop) → Prop} {S : Nat → Prop} {u w w' : World} {p : Addr} {n b0 : Nat} {f : Nat → Nat} (h : PNext PA S w w' p n f) (hS : ∀ k, S k → b0 ≤ k) (hb : Below b0 u w) (h0 : b0 ≤ w.heap.size) :
    ∃ S', PA w' p n f S' ∧ (∀ k, S' k → b0 ≤ k) ∧ Below b0 u w' ∧ KeptBut S w w' ∧ (∀ k, S' k → S k ∨ w.heap.size ≤ k) := by
  obtain ⟨S', h1, h2, h3⟩ := h
  exact ⟨S', h1, fun k hk => (h2 k hk).elim (hS k) (fun e => by omega), hb.trans (h3.below h0 (fun k _ e => hS k e)), h3, h2⟩

structure PartOps (PA : World → Addr → Nat → (Nat → Nat) → (Nat → Prop) → Prop) : Prop where
  keep : ∀ {w w' : World} {p : Addr} {n : Nat} {f : Nat → Nat} {S T : Nat → Prop}, PA w p n f S → KeptBut T w w' → (∀ k, S k → ¬ T k) → PA w' p n f S
  own : ∀ {w : World} {p : Addr} {n : Nat} {f : Nat → Nat} {S : Nat → Prop}, PA w p n f S → Pt n f ∧ n ≤ 1000 ∧ ∀ k, S k → k < w.heap.size
  new : ∀ (n : Int) (w : World), Calls Try.prog 11 #[.int .i64 n] w fun e w' => ∃ p, e = .returned (.pointer (some p)) ∧ PNew PA w w' p n
  join : ∀ (w : World) (p : Addr) (n : Nat) (f : Nat → Nat) (S : Nat → Prop) (x y : Int) (r : Bool), PA w p n f S → (r = true ↔ joinI n f x y) →
    Calls Try.prog 15 #[.pointer (some p), .int .i64 x, .int .i64 y] w fun e w' => e = .returned (.bool r) ∧ PNext PA S w w' p n (joinR n f x y)
  same : ∀ (w : World) (p : Addr) (n : Nat) (f : Nat → Nat) (S : Nat → Prop) (x y : Int) (r : Bool), PA w p n f S → (r = true ↔ sameI n f x y) →
    Calls Try.prog 13 #[.pointer (some p), .int .i64 x, .int .i64 y] w fun e w' => e = .returned (.bool r) ∧ PNext PA S w w' p n f
  count : ∀ (w : World) (p : Addr) (n : Nat) (f : Nat → Nat) (S : Nat → Prop), PA w p n f S →
    Calls Try.prog 17 #[.pointer (some p)] w fun e w' => e = .returned (.int .i64 (cntF f n)) ∧ PNext PA S w w' p n f
  classes : ∀ (w : World) (p : Addr) (n : Nat) (f : Nat → Nat) (S : Nat → Prop), PA w p n f S →
    Calls Try.prog 20 #[.pointer (some p)] w fun e w' => ∃ v, e = .returned v ∧ PRows PA S w w' p n f v
  comps : ∀ (n : Int) (a : Option Addr) (cap : Nat) (es : List (Int × Int)) (b : Bool) (f : Nat → Nat) (w : World), es.length ≤ 1000000 → EAt w a es → (b = true ↔ RightG n es) → (b = true → Pt n.toNat f ∧ Tells n.toNat f (prsN es)) →
    Calls Try.prog 22 #[.agg #[.int .i64 n, .slice a es.length cap]] w fun e w' => ∃ v, e = .returned v ∧ PComp w w' v (if b = true then classesF n.toNat f else [])
end Go.Proofs.Ythakjmfjbibbjaa
namespace Go.Proofs.Ythakjmfjbibbjaa
open Go.RowKit Go.Lib

def psh1 : Nat → Nat := joinR 4 (fun i => i) 2 0
def psh2 : Nat → Nat := joinR 4 psh1 0 2
def psh3 : Nat → Nat := joinF (fun i => i) 0 2
theorem psh2_classes : classesF 4 psh2 = [[0, 2], [1], [3]] := by decide +kernel
theorem psh3_classes : classesF 3 psh3 = [[0, 2], [1]] := by decide +kernel
theorem psh_j1 : true = true ↔ joinI 4 (fun i => i) 2 0 := ⟨fun _ => by unfold joinI; decide, fun _ => rfl⟩
theorem psh_j2 : false = true ↔ joinI 4 psh1 0 2 := ⟨fun h => (by cases h), fun h => absurd h.2.2 (by decide +kernel)⟩
theorem psh_s1 : true = true ↔ sameI 4 psh2 0 2 := ⟨fun _ => ⟨by decide, by decide, by decide +kernel⟩, fun _ => rfl⟩
theorem psh_s2 : false = true ↔ sameI 4 psh2 0 1 := ⟨fun h => (by cases h), fun h => absurd h.2.2 (by decide +kernel)⟩
theorem psh_c : cntF psh2 4 = 3 := by decide +kernel
theorem psh_right : RightG 3 [(0, 2)] := ⟨by decide, by decide, by decide, fun e he => by simp at he; subst he; simp, by unfold Rises; simp⟩
theorem psh_tells : Pt 3 psh3 ∧ Tells 3 psh3 (prsN [(0, 2)]) := ⟨(pt_new 3).join (by omega) (by omega), tells_join (tells_new 3) (fun e he => absurd he (by simp)) (by omega) (by omega)⟩

set_option maxHeartbeats 4000000 in
set_option maxRecDepth 100000 in
theorem pshown_any {PA : World → Addr → Nat → (Nat → Nat) → (Nat → Prop) → Prop} (O : PartOps PA) (w : World) :
    Calls Try.prog 10 #[] w fun e w' => e = .returned (.bool true) ∧ Below w.heap.size w w' := by
  have HO := hid O
  clear O
  go_enter Try.func10, Try.ntmps10
  go_wp2_with fail
  refine (HO.out.new 4 w).mono ?_
  rintro e w1 ⟨p, rfl, m, S1, hm, hP1, hS1, hb1⟩
  obtain rfl : m = 4 := by omega
  have HP1 := hid hP1
  have HS1 := hid hS1
  have HB1 := hid hb1
  clear hm hP1 hS1 hb1
  go_wp2_with fail
  refine (HO.out.join w1 p 4 _ S1 2 0 true HP1.out psh_j1).mono ?_
  rintro e w2 ⟨rfl, hN2⟩
  obtain ⟨S2, hP2, hS2, hb2, _, _⟩ := hN2.step HS1.out HB1.out HB1.out.size
  have HP2 : Hid (PA w2 p 4 psh1 S2) := hP2
  have HS2 := hid hS2
  have HB2 := hid hb2
  clear hN2 hP2 hS2 hb2 HP1 HS1 HB1
  go_wp2_with fail
  refine (HO.out.join w2 p 4 _ S2 0 2 false HP2.out psh_j2).mono ?_
  rintro e w3 ⟨rfl, hN3⟩
  obtain ⟨S3, hP3, hS3, hb3, _, _⟩ := hN3.step HS2.out HB2.out HB2.out.size
  have HP3 : Hid (PA w3 p 4 psh2 S3) := hP3
  have HS3 := hid hS3
  have HB3 := hid hb3
  clear hN3 hP3 hS3 hb3 HP2 HS2 HB2
  go_wp2_with fail
  refine (HO.out.classes w3 p 4 _ S3 HP3.out).mono ?_
  rintro e w4 ⟨v4, rfl, S4, a4, c4, rfl, hI4, hP4, hE4, hK4⟩
  rw [psh2_classes] at hI4
  rw [psh2_classes]
  have HI4 := hid hI4.bound
  have HP4 := hid hP4
  have HS4 : Hid (∀ k, S4 k → w.heap.size ≤ k) := fun k hk => (hE4 k hk).elim (HS3.out k) (fun e => Nat.le_trans HB3.out.size e)
  have HB4 : Hid (Below w.heap.size w w4) := HB3.out.trans (hK4.below HB3.out.size (fun k _ e => HS3.out k e))
  clear hI4 hP4 hE4 hK4 HP3 HS3 HB3
  obtain ⟨X, hX⟩ := ex_eq (Obj.cells #[.int .i64 0, .int .i64 2] 45 (0, 0))
  obtain ⟨W4, hW4⟩ := ex_eq (w4.alloc X)
  have hb44 : Below w4.heap.size w4 W4 := by rw [hW4]; exact (Below.refl _ _).alloc (Nat.le_refl _) _
  have HE : Hid (EAt W4 (some ⟨w4.heap.size, 0, none⟩) [(0, 2)]) := eat_of_cells (by rw [hW4]; simp) (fun j u hu => by
    rw [hW4, hX, Nat.zero_add]
    match j, hu with
    | 0, hu => cases hu; exact cell_of_heap (heap_alloc_new w4 _) 0
    | 1, hu => cases hu; exact cell_of_heap (heap_alloc_new w4 _) 1
    | j + 2, hu => simp [cellsE] at hu)
  have CO : Hid (Calls Try.prog 22 #[.agg #[.int .i64 3, .slice (some ⟨w4.heap.size, 0, none⟩) 1 1]] W4 fun e w' => ∃ v, e = .returned v ∧ PComp W4 w' v [[0, 2], [1]]) := by
    have h := HO.out.comps 3 (some ⟨w4.heap.size, 0, none⟩) 1 [(0, 2)] true psh3 W4 (by decide) HE.out ⟨fun _ => psh_right, fun _ => rfl⟩ (fun _ => psh_tells)
    rw [if_pos rfl, show classesF (3 : Int).toNat psh3 = [[0, 2], [1]] from psh3_classes] at h
    exact h
  have HW4 := hid hW4
  have HX := hid hX
  have HK4 : Hid (KeptBut S4 w4 W4) := KeptBut.of_whole _ hb44
  have HB44 : Hid (Below w.heap.size w W4) := HB4.out.trans (hb44.mono HB4.out.size)
  clear hW4 hb44 hX
  go_wp2_with fail
  rw [← HX.out, ← HW4.out]
  refine CO.out.mono ?_
  rintro e w5 ⟨v5, rfl, a5, c5, rfl, hI5, hb5⟩
  have hS4 := (HO.out.own HP4.out).2.2
  have hK5 : KeptBut S4 w4 w5 := HK4.out.trans (KeptBut.of_whole _ hb5)
  have HI5 : Hid (LLIn w5 (fun k => W4.heap.size ≤ k ∧ k < w5.heap.size) a5 [[0, 2], [1]]) := hI5.bound
  have hP5 : PA w5 p 4 psh2 S4 := HO.out.keep (T := fun k => w4.heap.size ≤ k) HP4.out (by
    have h1 : Below w4.heap.size w4 w5 := (by rw [HW4.out]; exact (Below.refl _ _).alloc (Nat.le_refl _) _ : Below w4.heap.size w4 W4).trans (hb5.mono (by rw [HW4.out]; simp))
    exact KeptBut.of_below h1) (fun k hk e => by have := hS4 k hk; omega)
  have HB5 : Hid (Below w.heap.size w w5) := HB44.out.trans (hb5.mono HB44.out.size)
  have HL5 : Hid (LLIn w5 (fun k => (w3.heap.size ≤ k ∧ ¬ S4 k) ∧ k < w4.heap.size) a4 [[0, 2], [1], [3]]) := HI4.out.kept (KeptBut.of_whole (fun _ => False) ((by rw [HW4.out]; exact (Below.refl _ _).alloc (Nat.le_refl _) _ : Below w4.heap.size w4 W4).trans (hb5.mono (by rw [HW4.out]; simp)))) (fun _ _ _ e => e)
  have HP5 := hid hP5
  have hs45 : w4.heap.size ≤ W4.heap.size := by rw [HW4.out]; simp
  have hs5 := hb5.size
  have HS5 := hid hS4
  clear hI5 hP5 hS4 hK5 hb5 HX HW4 HK4 HB44 HI4 HP4 CO HE HB4
  go_wp2_with fail
  refine (HO.out.same w5 p 4 _ S4 0 2 true HP5.out psh_s1).mono ?_
  rintro e w6 ⟨rfl, hN6⟩
  obtain ⟨S6, hP6, hS6, hb6, hK6, hE6⟩ := hN6.step HS4.out HB5.out HB5.out.size
  have HL6 : Hid (LLIn w6 (fun k => (w3.heap.size ≤ k ∧ ¬ S4 k) ∧ k < w4.heap.size) a4 [[0, 2], [1], [3]]) := HL5.out.kept hK6 (fun k h _ e => h.1.2 e)
  have HM6 : Hid (LLIn w6 (fun k => W4.heap.size ≤ k ∧ k < w5.heap.size) a5 [[0, 2], [1]]) := HI5.out.kept hK6 (fun k h _ e => by have := HS5.out k e; omega)
  have HE6 : Hid (∀ k, S6 k → (S4 k ∨ w5.heap.size ≤ k)) := hE6
  have HP6 := hid hP6
  have HS6 := hid hS6
  have HB6 := hid hb6
  have hs6 := hK6.size
  clear hN6 hP6 hS6 hb6 hK6 hE6 HL5 HI5 HP5 HB5
  go_wp2_with fail
  refine (HO.out.same w6 p 4 _ S6 0 1 false HP6.out psh_s2).mono ?_
  rintro e w7 ⟨rfl, hN7⟩
  obtain ⟨S7, hP7, hS7, hb7, hK7, hE7⟩ := hN7.step HS6.out HB6.out HB6.out.size
  have HL7 : Hid (LLIn w7 (fun k => (w3.heap.size ≤ k ∧ ¬ S4 k) ∧ k < w4.heap.size) a4 [[0, 2], [1], [3]]) := HL6.out.kept hK7 (fun k h _ e => (HE6.out k e).elim h.1.2 (fun e => by omega))
  have HM7 : Hid (LLIn w7 (fun k => W4.heap.size ≤ k ∧ k < w5.heap.size) a5 [[0, 2], [1]]) := HM6.out.kept hK7 (fun k h _ e => (HE6.out k e).elim (fun e => by have := HS5.out k e; omega) (fun e => by omega))
  have HE7 : Hid (∀ k, S7 k → (S4 k ∨ w5.heap.size ≤ k)) := fun k e => (hE7 k e).elim (HE6.out k) (fun e => Or.inr (by omega))
  have HP7 := hid hP7
  have HS7 := hid hS7
  have HB7 := hid hb7
  clear hN7 hP7 hS7 hb7 hK7 hE7 HL6 HM6 HE6 HP6 HS6 HB6
  have CC := HO.out.count w7 p 4 _ S7 HP7.out
  rw [psh_c] at CC
  have HCC := hid CC
  clear CC
  go_wp2_with fail
  refine HCC.out.mono ?_
  rintro e w8 ⟨rfl, hN8⟩
  obtain ⟨S8, hP8, hS8, hb8, hK8, hE8⟩ := hN8.step HS7.out HB7.out HB7.out.size
  have HL8 : Hid (LLIn w8 (fun k => (w3.heap.size ≤ k ∧ ¬ S4 k) ∧ k < w4.heap.size) a4 [[0, 2], [1], [3]]) := HL7.out.kept hK8 (fun k h _ e => (HE7.out k e).elim h.1.2 (fun e => by omega))
  have HM8 : Hid (LLIn w8 (fun k => W4.heap.size ≤ k ∧ k < w5.heap.size) a5 [[0, 2], [1]]) := HM7.out.kept hK8 (fun k h _ e => (HE7.out k e).elim (fun e => by have := HS5.out k e; omega) (fun e => by omega))
  have HB8 := hid hb8
  clear hN8 hP8 hS8 hb8 hK8 hE8 HL7 HM7 HE7 HP7 HS7 HB7 HCC
  obtain ⟨g4, o4, x0, y0, rfl, d0, j0⟩ := HL8.out.cell (k := 0) (by simp)
  obtain ⟨_, _, x1, y1, z1, d1, j1⟩ := HL8.out.cell (k := 1) (by simp)
  cases z1
  obtain ⟨g5, o5, x2, y2, rfl, d2, j2⟩ := HM8.out.cell (k := 0) (by simp)
  obtain ⟨_, _, x3, y3, z3, d3, j3⟩ := HM8.out.cell (k := 1) (by simp)
  cases z3
  obtain ⟨g6, o6, rfl, e0⟩ := iat_cell j0 (k := 1) (by simp)
  obtain ⟨g7, o7, rfl, e1⟩ := iat_cell j1 (k := 0) (by simp)
  obtain ⟨g9, o9, rfl, e3⟩ := iat_cell j3 (k := 0) (by simp)
  simp only [List.getElem_cons_zero, List.getElem_cons_succ, List.length_cons, List.length_nil, Nat.zero_add, Nat.reduceAdd, Nat.add_zero] at d0 d1 d2 d3 e0 e1 e3
  clear j0 j1 j2 j3
  go_wp2
  go_ret
  exact ⟨rfl, HB8.out⟩
end Go.Proofs.Ythakjmfjbibbjaa
namespace Go.Proofs.Ythakjmfjbibbjaa
open Go.RowKit Go.Lib

theorem EAt.at2 {w : World} {a : Option Addr} {l : List (Int × Int)} (h : EAt w a l) {k : Nat} (hk : k < l.length) : ∃ g off, a = some ⟨g, off, none⟩ ∧ g < w.heap.size ∧ w.cell? ⟨g, off + k * 2, none⟩ = some (.int .i64 l[k].1) ∧ w.cell? ⟨g, off + k * 2 + 1, none⟩ = some (.int .i64 l[k].2) := by
  obtain ⟨g, off, ha, hg, hc⟩ := h (by omega)
  exact ⟨g, off, ha, hg, (hc k hk).1, (hc k hk).2⟩
/-- Both parts, side by side. -/
structure TwoP (PA : World → Addr → Nat → (Nat → Nat) → (Nat → Prop) → Prop) (u w : World) (b0 : Nat) (p : Addr) (b g : Nat) (a : Option Addr) (n cap : Nat) (f : Nat → Nat) (S : Nat → Prop) : Prop where
  pa : PA w p n f S
  ge : ∀ k, S k → b0 ≤ k
  nb : ¬ S b
  ng : 0 < n → ¬ S g
  qa : QAt w b g a n cap f
  qb : b0 ≤ b
  qg : b0 ≤ g
  bel : Below b0 u w
theorem TwoP.next {PA : World → Addr → Nat → (Nat → Nat) → (Nat → Prop) → Prop} {u w w' : World} {b0 : Nat} {p : Addr} {b g : Nat} {a : Option Addr} {n cap : Nat} {f f' : Nat → Nat} {S : Nat → Prop} (h : TwoP PA u w b0 p b g a n cap f S) (hN : PNext PA S w w' p n f') (h0 : b0 ≤ u.heap.size) :
    ∃ S', PA w' p n f' S' ∧ (∀ k, S' k → b0 ≤ k) ∧ ¬ S' b ∧ (0 < n → ¬ S' g) ∧ QAt w' b g a n cap f ∧ Below b0 u w' := by
  obtain ⟨S', h1, h2, h3, h4, h5⟩ := hN.step h.ge h.bel (Nat.le_trans h0 h.bel.size)
  have hbl := block_lt_of_cell h.qa.box
  refine ⟨S', h1, h2, fun e => (h5 b e).elim h.nb (fun e => by simp at hbl; omega), fun hn e => (h5 g e).elim (h.ng hn) (fun e => by have := (h.qa.row hn).2.1; omega), h.qa.kept h4 h.nb h.ng, h3⟩
theorem TwoP.same {PA : World → Addr → Nat → (Nat → Nat) → (Nat → Prop) → Prop} {u w w' : World} {b0 : Nat} {p : Addr} {b g : Nat} {a : Option Addr} {n cap : Nat} {f : Nat → Nat} {S : Nat → Prop} (h : TwoP PA u w b0 p b g a n cap f S) (hN : PNext PA S w w' p n f) (h0 : b0 ≤ u.heap.size) : ∃ S', TwoP PA u w' b0 p b g a n cap f S' := by
  obtain ⟨S', h1, h2, h3, h4, h5, h6⟩ := h.next hN h0
  exact ⟨S', h1, h2, h3, h4, h5, h.qb, h.qg, h6⟩
end Go.Proofs.Ythakjmfjbibbjaa
