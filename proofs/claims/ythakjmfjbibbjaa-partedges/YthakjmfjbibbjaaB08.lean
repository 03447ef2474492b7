/-
  What the laws of layer 4 ask of the program's parts: a row of contracts over any way in which a part may lie in memory.
  The program's parts in memory; who stands for a class (has, head).
  The program's New, Same, Count and Join of layer 4.
  The program's New of layer 4.
-/
import Derived.Test.YthakjmfjbibbjaaB07
import Derived.Test.YthakjmfjbibbjaaB06
import Derived.BigRegion
import Derived.Lib.Walk
namespace Go.Proofs.Ythakjmfjbibbjaa
open Go.RowKit Go.Lib

/-- A list of rows in memory, all of them in blocks of A. -/
def LLIn (w : World) (A : Nat → Prop) (a : Option Addr) (LL : List (List Int)) : Prop :=
  0 < LL.length → ∃ g off, a = some ⟨g, off, none⟩ ∧ g < w.heap.size ∧ A g ∧ ∀ k (hk : k < LL.length), ∃ ak ck, w.cell? ⟨g, off + k, none⟩ = some (.slice ak LL[k].length ck) ∧ IAt w ak LL[k] ∧ ∀ g off, ak = some ⟨g, off, none⟩ → 0 < LL[k].length → A g
theorem LLIn.at {w : World} {A : Nat → Prop} {a : Option Addr} {LL : List (List Int)} (h : LLIn w A a LL) : LLAt w a LL := fun h0 => by
  obtain ⟨g, off, ha, hg, _, hc⟩ := h h0
  exact ⟨g, off, ha, hg, fun k hk => by obtain ⟨ak, ck, h1, h2, _⟩ := hc k hk; exact ⟨ak, ck, h1, h2⟩⟩
theorem LLIn.kept {w w' : World} {A T : Nat → Prop} {a : Option Addr} {LL : List (List Int)} (h : LLIn w A a LL) (hk : KeptBut T w w') (hs : ∀ k, A k → k < w.heap.size → ¬ T k) : LLIn w' A a LL := fun h0 => by
  obtain ⟨g, off, ha, hg, hA, hc⟩ := h h0
  refine ⟨g, off, ha, Nat.lt_of_lt_of_le hg hk.size, hA, fun k hk' => ?_⟩
  obtain ⟨ak, ck, h1, h2, h3⟩ := hc k hk'
  refine ⟨ak, ck, (hk.cell (p := ⟨g, off + k, none⟩) hg (hs g hA hg)).trans h1, h2.kept hk (fun g' off' e h0' => hs g' (h3 g' off' e h0') ?_), h3⟩
  obtain ⟨g2, off2, e2, hg2, _⟩ := h2 h0'
  rw [e] at e2
  cases e2
  exact hg2
theorem LLIn.below {w w' : World} {A : Nat → Prop} {a : Option Addr} {LL : List (List Int)} (h : LLIn w A a LL) (hb : Below w.heap.size w w') : LLIn w' A a LL := h.kept (KeptBut.of_whole (fun _ => False) hb) (fun _ _ _ e => e)
theorem LLIn.mono {w : World} {A A' : Nat → Prop} {a : Option Addr} {LL : List (List Int)} (h : LLIn w A a LL) (hA : ∀ k, A k → A' k) : LLIn w A' a LL := fun h0 => by
  obtain ⟨g, off, ha, hg, hAg, hc⟩ := h h0
  refine ⟨g, off, ha, hg, hA g hAg, fun k hk => ?_⟩
  obtain ⟨ak, ck, h1, h2, h3⟩ := hc k hk
  exact ⟨ak, ck, h1, h2, fun g off e h0 => hA g (h3 g off e h0)⟩
theorem LLOwn.in {w : World} {base : Nat} {A : Nat → Prop} {v : Value} {us : List Value} {LL : List (List Int)} (h : LLOwn w base A v us LL) : ∃ a cap, v = .slice a LL.length cap ∧ LLIn w A a LL := by
  obtain ⟨a, cap, hv, hsl⟩ := sl_own h.1
  refine ⟨a, cap, hv, fun h0 => ?_⟩
  obtain ⟨g, cap', hv', hb, hg, hc, hcs⟩ := own_row h.1 h0
  rw [hv] at hv'
  simp only [Value.slice.injEq, true_and] at hv'
  refine ⟨g, 0, hv'.1, hg, h.2.2.1 g (by rw [hv, hv'.1]; rfl), fun k hk => ?_⟩
  obtain ⟨ak, ck, h1, h2, h3⟩ := h.2.2.2 k hk
  exact ⟨ak, ck, by rw [Nat.zero_add]; exact hcs k _ h1, h2, fun g off e h0 => (h3 g off e h0).1⟩

/-- What a call on a part leaves: the part with its classes f, in blocks that it had or that are new; all else as it was. -/
def PNext (PA : World → Addr → Nat → (Nat → Nat) → (Nat → Prop) → Prop) (S : Nat → Prop) (w w' : World) (p : Addr) (n : Nat) (f : Nat → Nat) : Prop :=
  ∃ S', PA w' p n f S' ∧ (∀ k, S' k → S k ∨ w.heap.size ≤ k) ∧ KeptBut S w w'
/-- What New leaves. -/
def PNew (PA : World → Addr → Nat → (Nat → Nat) → (Nat → Prop) → Prop) (w w' : World) (p : Addr) (n : Int) : Prop :=
  ∃ (m : Nat) (S : Nat → Prop), (m : Int) = max 0 (min n 1000) ∧ PA w' p m (fun i => i) S ∧ (∀ k, S k → w.heap.size ≤ k) ∧ Below w.heap.size w w'
/-- What Classes leaves: rows of their own. -/
def PRows (PA : World → Addr → Nat → (Nat → Nat) → (Nat → Prop) → Prop) (S : Nat → Prop) (w w' : World) (p : Addr) (n : Nat) (f : Nat → Nat) (v : Value) : Prop :=
  ∃ S' a cap, v = .slice a (classesF n f).length cap ∧ LLIn w' (fun k => w.heap.size ≤ k ∧ ¬ S' k) a (classesF n f) ∧ PA w' p n f S' ∧ (∀ k, S' k → S k ∨ w.heap.size ≤ k) ∧ KeptBut S w w'
/-- The components, in rows of their own. -/
def PComp (w w' : World) (v : Value) (LL : List (List Int)) : Prop := ∃ a cap, v = .slice a LL.length cap ∧ LLIn w' (fun k => w.heap.size ≤ k) a LL ∧ Below w.heap.size w w'
def sameI (n : Nat) (f : Nat → Nat) (x y : Int) : Prop := (0 ≤ x ∧ x < n) ∧ (0 ≤ y ∧ y < n) ∧ f x.toNat = f y.toNat
def joinI (n : Nat) (f : Nat → Nat) (x y : Int) : Prop := (0 ≤ x ∧ x < n) ∧ (0 ≤ y ∧ y < n) ∧ f x.toNat ≠ f y.toNat

theorem LLIn.bound {w : World} {A : Nat → Prop} {a : Option Addr} {LL : List (List Int)} (h : LLIn w A a LL) : LLIn w (fun k => A k ∧ k < w.heap.size) a LL := fun h0 => by
  obtain ⟨g, off, ha, hg, hAg, hc⟩ := h h0
  refine ⟨g, off, ha, hg, ⟨hAg, hg⟩, fun k hk => ?_⟩
  obtain ⟨ak, ck, h1, h2, h3⟩ := hc k hk
  refine ⟨ak, ck, h1, h2, fun g off e h0 => ⟨h3 g off e h0, ?_⟩⟩
  obtain ⟨g2, off2, e2, hg2, _⟩ := h2 h0
  rw [e] at e2
  cases e2
  exact hg2
theorem LLIn.cell {w : World} {A : Nat → Prop} {a : Option Addr} {LL : List (List Int)} (h : LLIn w A a LL) {k : Nat} (hk : k < LL.length) : ∃ g off ak ck, a = some ⟨g, off, none⟩ ∧ w.cell? ⟨g, off + k, none⟩ = some (.slice ak LL[k].length ck) ∧ IAt w ak LL[k] := h.at.at hk
theorem iat_cell {w : World} {a : Option Addr} {xs : List Int} (h : IAt w a xs) {k : Nat} (hk : k < xs.length) : ∃ g off, a = some ⟨g, off, none⟩ ∧ w.cell? ⟨g, off + k, none⟩ = some (.int .i64 xs[k]) := by
  obtain ⟨g, off, ha, _, hc⟩ := h (by omega)
  exact ⟨g, off, ha, hc k hk⟩
/-- What a call on a part leaves, over the world of the law. -/
theorem PNext.step {PA : World → Addr → Nat → (Nat → Nat) → (Nat → Prop) → Prop} {S : Nat → Prop} {u w w' : World} {p : Addr} {n b0 : Nat} {f : Nat → Nat} (h : PNext PA S w w' p n f) (hS : ∀ k, S k → b0 ≤ k) (hb : Below b0 u w) (h0 : b0 ≤ w.heap.size) :
    ∃ S', PA w' p n f S' ∧ (∀ k, S' k → b0 ≤ k) ∧ Below b0 u w' ∧ KeptBut S w w' ∧ (∀ k, S' k → S k ∨ w.heap.size ≤ k) := by
  obtain ⟨S', h1, h2, h3⟩ := h
  exact ⟨S', h1, fun k hk => (h2 k hk).elim (hS k) (fun e => by omega), hb.trans (h3.below h0 (fun k _ e => hS k e)), h3, h2⟩

structure PartOps (PA : World → Addr → Nat → (Nat → Nat) → (Nat → Prop) → Prop) : Prop where
  keep : ∀ {w w' : World} {p : Addr} {n : Nat} {f : Nat → Nat} {S T : Nat → Prop}, PA w p n f S → KeptBut T w w' → (∀ k, S k → ¬ T k) → PA w' p n f S
  own : ∀ {w : World} {p : Addr} {n : Nat} {f : Nat → Nat} {S : Nat → Prop}, PA w p n f S → Pt n f ∧ n ≤ 1000 ∧ ∀ k, S k → k < w.heap.size
  new : ∀ (n : Int) (w : World), Calls Try.prog 11 #[.int .i64 n] w fun e w' => ∃ p, e = .returned (.pointer (some p)) ∧ PNew PA w w' p n
  join : ∀ (w : World) (p : Addr) (n : Nat) (f : Nat → Nat) (S : Nat → Prop) (x y : Int) (r : Bool), PA w p n f S → (r = true ↔ joinI n f x y) →
    Calls Try.prog 15 #[.pointer (some p), .int .i64 x, .int .i64 y] w fun e w' => e = .returned (.bool r) ∧ PNext PA S w w' p n (joinR n f x y)
  same : ∀ (w : World) (p : Addr) (n : Nat) (f : Nat → Nat) (S : Nat → Prop) (x y : Int) (r : Bool), PA w p n f S → (r = true ↔ sameI n f x y) →
    Calls Try.prog 13 #[.pointer (some p), .int .i64 x, .int .i64 y] w fun e w' => e = .returned (.bool r) ∧ PNext PA S w w' p n f
  count : ∀ (w : World) (p : Addr) (n : Nat) (f : Nat → Nat) (S : Nat → Prop), PA w p n f S →
    Calls Try.prog 17 #[.pointer (some p)] w fun e w' => e = .returned (.int .i64 (cntF f n)) ∧ PNext PA S w w' p n f
  classes : ∀ (w : World) (p : Addr) (n : Nat) (f : Nat → Nat) (S : Nat → Prop), PA w p n f S →
    Calls Try.prog 20 #[.pointer (some p)] w fun e w' => ∃ v, e = .returned v ∧ PRows PA S w w' p n f v
  comps : ∀ (n : Int) (a : Option Addr) (cap : Nat) (es : List (Int × Int)) (b : Bool) (f : Nat → Nat) (w : World), es.length ≤ 1000000 → EAt w a es → (b = true ↔ RightG n es) → (b = true → Pt n.toNat f ∧ Tells n.toNat f (prsN es)) →
    Calls Try.prog 22 #[.agg #[.int .i64 n, .slice a es.length cap]] w fun e w' => ∃ v, e = .returned v ∧ PComp w w' v (if b = true then classesF n.toNat f else [])
end Go.Proofs.Ythakjmfjbibbjaa
namespace Go.Proofs.Ythakjmfjbibbjaa
open Go.RowKit Go.Lib

/-- A part of the program's: a variable with a row of leads, and how many classes there are. -/
structure LAt (w : World) (b g n : Nat) (L : Nat → Nat) (c : Nat) : Prop where
  box : w.cell? ⟨b, 0, none⟩ = some (.slice (some ⟨g, 0, none⟩) n n)
  cnt : w.cell? ⟨b, 1, none⟩ = some (.int .i64 c) ∧ w.frozen? ⟨b, 1, none⟩ = false
  row : Row1 w g n (fun i => (L i : Int))
  ne : g ≠ b
theorem LAt.kept {S : Nat → Prop} {w w' : World} {b g n : Nat} {L : Nat → Nat} {c : Nat} (h : LAt w b g n L c) (hk : KeptBut S w w') (hb : ¬ S b) (hg : ¬ S g) : LAt w' b g n L c := by
  have hlt := block_lt_of_cell h.box
  refine ⟨(hk.cell (p := ⟨b, 0, none⟩) hlt hb).trans h.box, ⟨(hk.cell (p := ⟨b, 1, none⟩) hlt hb).trans h.cnt.1, (hk.frozen (p := ⟨b, 1, none⟩) hlt hb).trans h.cnt.2⟩, ?_, h.ne⟩
  exact ⟨Nat.lt_of_lt_of_le h.row.1 hk.size, fun j hj => ⟨(hk.cell (p := ⟨g, j, none⟩) h.row.1 hg).trans (h.row.2 j hj).1, (hk.frozen (p := ⟨g, j, none⟩) h.row.1 hg).trans (h.row.2 j hj).2⟩⟩
theorem LAt.put {w : World} {b g n : Nat} {L : Nat → Nat} {c : Nat} (h : LAt w b g n L c) {i : Nat} (hi : i < n) (x : Nat) : LAt (w.setCell ⟨g, i, none⟩ (.int .i64 x)) b g n (fun j => if j = i then x else L j) c := by
  have ho : ∀ q, (w.setCell ⟨g, i, none⟩ (.int .i64 x)).cell? ⟨b, q, none⟩ = w.cell? ⟨b, q, none⟩ := fun q => World.cell?_setCell_other _ _ _ _ (fun e => h.ne (congrArg Addr.block e))
  exact ⟨(ho 0).trans h.box, ⟨(ho 1).trans h.cnt.1, by rw [World.frozen?_setCell]; exact h.cnt.2⟩, (h.row.put hi (x : Int)).congr (fun j _ => by by_cases e : j = i <;> simp [e]), h.ne⟩
theorem LAt.congr {w : World} {b g n : Nat} {L L' : Nat → Nat} {c : Nat} (h : LAt w b g n L c) (e : ∀ j, j < n → L j = L' j) : LAt w b g n L' c := ⟨h.box, h.cnt, h.row.congr (fun j hj => by rw [e j hj]), h.ne⟩
theorem LAt.at {w : World} {b g n : Nat} {L : Nat → Nat} {c : Nat} (h : LAt w b g n L c) {k : Nat} (hk : k < n) : w.cell? ⟨g, k, none⟩ = some (.int .i64 (L k)) ∧ w.frozen? ⟨g, k, none⟩ = false := h.row.2 k hk
theorem LAt.drew {w : World} {b g n : Nat} {L : Nat → Nat} {c : Nat} (h : LAt w b g n L c) : LAt w.drew b g n L c := ⟨h.box, h.cnt, h.row, h.ne⟩

/-- A part of the program's with its classes f, and who stands for each. -/
def PX (w : World) (b g n : Nat) (f rt : Nat → Nat) (c : Nat) : Prop := ∃ L rk, LAt w b g n L c ∧ Leads n f L rk ∧ Tops n f L rt
theorem PX.kept {S : Nat → Prop} {w w' : World} {b g n : Nat} {f rt : Nat → Nat} {c : Nat} (h : PX w b g n f rt c) (hk : KeptBut S w w') (hb : ¬ S b) (hg : ¬ S g) : PX w' b g n f rt c := by
  obtain ⟨L, rk, h1, h2, h3⟩ := h
  exact ⟨L, rk, h1.kept hk hb hg, h2, h3⟩
/-- What head leaves. -/
def HeadIs (b g n : Nat) (f rt : Nat → Nat) (c : Nat) (w w' : World) : Prop := PX w' b g n f rt c ∧ KeptBut (fun k => k = g) w w' ∧ w'.heap.size = w.heap.size

set_option maxHeartbeats 400000 in
theorem has_p (b : Nat) (a : Option Addr) (n cap : Nat) (x : Int) (r : Bool) (w : World) (c0 : w.cell? ⟨b, 0, none⟩ = some (.slice a n cap)) (hr : r = decide (0 ≤ x ∧ x < n)) :
    Calls Try.prog 28 #[.pointer (some ⟨b, 0, none⟩), .int .i64 x] w fun e w' => e = .returned (.bool r) ∧ w' = w := by
  by_cases h : 0 ≤ x
  · by_cases h2 : x < n
    · rw [decide_eq_true (by omega)] at hr
      subst hr
      go_enter Try.func28, Try.ntmps28
      go_wp2
      go_ret
      exact ⟨rfl, rfl⟩
    · rw [decide_eq_false (by omega)] at hr
      subst hr
      go_enter Try.func28, Try.ntmps28
      go_wp2
      go_ret
      exact ⟨rfl, rfl⟩
  · rw [decide_eq_false (by omega)] at hr
    subst hr
    go_enter Try.func28, Try.ntmps28
    go_wp2
    go_ret
    exact ⟨rfl, rfl⟩

set_option maxHeartbeats 2000000 in
set_option maxRecDepth 100000 in
theorem head_any (b g n : Nat) (f rt : Nat → Nat) (c a : Nat) (w : World) (ha : a < n) (h : PX w b g n f rt c) :
    Calls Try.prog 29 #[.pointer (some ⟨b, 0, none⟩), .int .i64 a] w fun e w' => e = .returned (.int .i64 (rt a)) ∧ HeadIs b g n f rt c w w' := by
  obtain ⟨L0, rk, hL0, hl0, ht0⟩ := h
  have H0 := hid (show LAt w b g n L0 c ∧ Leads n f L0 rk ∧ Tops n f L0 rt from ⟨hL0, hl0, ht0⟩)
  clear hL0 hl0 ht0
  go_enter Try.func29, Try.ntmps29
  go_wp2
  go_loopg [1] (rk a) (fun G i wz => ∃ (k : Nat) (L : Nat → Nat), k < n ∧ i = .int .i64 k ∧ Hid (rk k ≤ G) ∧ Hid (f k = f a) ∧ Hid (LAt wz b g n L c ∧ Leads n f L rk ∧ Tops n f L rt) ∧ Hid (KeptBut (fun k => k = g) w wz ∧ wz.heap.size = w.heap.size))
  case atStart => exact ⟨a, L0, ha, rfl, Nat.le_refl _, rfl, H0, KeptBut.refl _ _, rfl⟩
  case round =>
    obtain ⟨k, L, hk, rfl, hG, hf, hL, hkp⟩ := hrel
    have c0 := hL.out.1.box
    obtain ⟨ck, fk⟩ := hL.out.1.at hk
    obtain ⟨l, hl⟩ := ex_eq (L k)
    rw [← hl] at ck
    have hln : l < n := by rw [hl]; exact hL.out.2.1.lt k hk
    have q1 : (k : Int) < (n : Int) := by omega
    have q2 : (l : Int) < (n : Int) := by omega
    by_cases he : l = k
    · have HT : Hid ((k : Int) = (rt a : Nat)) := by
        show (k : Int) = (rt a : Nat)
        rw [hL.out.2.2.at hL.out.2.1 ha hk (hl.symm.trans he) hf.out]
      subst he
      have HX : Hid (HeadIs b g n f rt c w wr) := ⟨⟨L, rk, hL.out⟩, hkp.out.1, hkp.out.2⟩
      clear hl hG hf hL hkp
      go_wp2
      go_ret
      exact ⟨by rw [HT.out]; rfl, HX.out⟩
    · have he2 : ((l : Int) == (k : Int)) = false := beq_eq_false_iff_ne.2 (by omega)
      obtain ⟨m, hm⟩ := ex_eq (L l)
      have cl := (hL.out.1.at hln).1
      rw [← hm] at cl
      have hmn : m < n := by rw [hm]; exact hL.out.2.1.lt l hln
      have hdn := hL.out.2.1.down k hk (by rw [← hl]; exact he)
      have hh := hL.out.2.1.halve hk (by rw [← hl]; exact he)
      rw [← hl, ← hm] at hh
      have hrk : Hid (rk m < rk k) := by
        show rk m < rk k
        by_cases e : m = l
        · rw [e, hl]; exact hdn
        · have := hL.out.2.1.down l hln (by rw [← hm]; exact e); rw [← hm] at this; rw [← hl] at hdn; omega
      obtain ⟨W, hW⟩ := ex_eq (wr.setCell ⟨g, k, none⟩ (.int .i64 m)).drew
      have HNX : Hid (LAt W b g n (fun j => if j = k then m else L j) c ∧ Leads n f (fun j => if j = k then m else L j) rk ∧ Tops n f (fun j => if j = k then m else L j) rt) := by
        refine ⟨by rw [hW]; exact (hL.out.1.put hk m).drew, hh.1, fun x hx => ⟨(hL.out.2.2 x hx).1, hh.2 _ (hL.out.2.2 x hx).2.1, (hL.out.2.2 x hx).2.2⟩⟩
      have HFX : Hid (f m = f a) := by show f m = f a; rw [hm, hL.out.2.1.cls l hln, hl, hL.out.2.1.cls k hk, hf.out]
      have HKX : Hid (KeptBut (fun k => k = g) w W ∧ W.heap.size = w.heap.size) := by
        refine ⟨(hkp.out.1.trans (kept_set wr ⟨g, k, none⟩ (.int .i64 m))).trans (by rw [hW]; exact KeptBut.of_whole _ (Below.refl _ _).drew), ?_⟩
        rw [hW]; exact (by simp : (wr.setCell ⟨g, k, none⟩ (.int .i64 m)).heap.size = wr.heap.size).trans hkp.out.2
      have HW := hid hW
      have d0 := HNX.out.1.box
      have dk : W.cell? ⟨g, k, none⟩ = some (.int .i64 m) := by
        have := (HNX.out.1.at hk).1
        rw [if_pos rfl] at this
        exact this
      clear hl hm hf hL hkp hh hdn hW
      go_wp2_with fail
      go_region
      all_goals
        rw [← HW.out]
        go_wp2
        go_roundg (rk m)
        case measure => exact Nat.lt_of_lt_of_le hrk.out hG.out
        case rel => exact ⟨m, _, hmn, rfl, Nat.le_refl _, HFX, HNX, HKX⟩
end Go.Proofs.Ythakjmfjbibbjaa
namespace Go.Proofs.Ythakjmfjbibbjaa
open Go.RowKit Go.Lib

/-- A part of the program's at p, of n numbers, with its classes f; its own blocks. -/
def PAp (w : World) (p : Addr) (n : Nat) (f : Nat → Nat) (S : Nat → Prop) : Prop :=
  ∃ b g rt, p = ⟨b, 0, none⟩ ∧ PX w b g n f rt (cntF f n) ∧ Pt n f ∧ n ≤ 1000 ∧ ∀ k, S k ↔ k = b ∨ k = g
theorem PX.lt {w : World} {b g n : Nat} {f rt : Nat → Nat} {c : Nat} (h : PX w b g n f rt c) : b < w.heap.size ∧ g < w.heap.size ∧ g ≠ b := by
  obtain ⟨L, rk, h1, _⟩ := h
  exact ⟨block_lt_of_cell h1.box, h1.row.1, h1.ne⟩
theorem pap_keep {w w' : World} {p : Addr} {n : Nat} {f : Nat → Nat} {S T : Nat → Prop} (h : PAp w p n f S) (hk : KeptBut T w w') (hs : ∀ k, S k → ¬ T k) : PAp w' p n f S := by
  obtain ⟨b, g, rt, hp, hx, h3, h4, hS⟩ := h
  exact ⟨b, g, rt, hp, hx.kept hk (hs b ((hS b).2 (Or.inl rfl))) (hs g ((hS g).2 (Or.inr rfl))), h3, h4, hS⟩
theorem pap_own {w : World} {p : Addr} {n : Nat} {f : Nat → Nat} {S : Nat → Prop} (h : PAp w p n f S) : Pt n f ∧ n ≤ 1000 ∧ ∀ k, S k → k < w.heap.size := by
  obtain ⟨b, g, rt, hp, hx, h3, h4, hS⟩ := h
  obtain ⟨h5, h6, _⟩ := hx.lt
  exact ⟨h3, h4, fun k hk => by rcases (hS k).1 hk with e | e <;> rw [e] <;> assumption⟩
theorem pnext_head {w w' : World} {b g n : Nat} {f rt : Nat → Nat} {S : Nat → Prop} (h : HeadIs b g n f rt (cntF f n) w w') (hP : Pt n f) (hn : n ≤ 1000) (hS : ∀ k, S k ↔ k = b ∨ k = g) : PNext PAp S w w' ⟨b, 0, none⟩ n f :=
  ⟨S, ⟨b, g, rt, rfl, h.1, hP, hn, hS⟩, fun _ hk => Or.inl hk, h.2.1.mono (fun k _ e => (hS k).2 (Or.inr e))⟩
theorem pnext_same {w w' : World} {p : Addr} {n : Nat} {f : Nat → Nat} {S : Nat → Prop} (h : PAp w p n f S) (hb : Below w.heap.size w w') : PNext PAp S w w' p n f :=
  ⟨S, pap_keep h (KeptBut.of_whole (fun _ => False) hb) (fun _ _ e => e), fun _ hk => Or.inl hk, KeptBut.of_whole S hb⟩
theorem HeadIs.trans {b g n : Nat} {f rt : Nat → Nat} {c : Nat} {w w1 w2 : World} (h : HeadIs b g n f rt c w w1) (k : HeadIs b g n f rt c w1 w2) : HeadIs b g n f rt c w w2 := ⟨k.1, h.2.1.trans k.2.1, k.2.2.trans h.2.2⟩
theorem PX.box {w : World} {b g n : Nat} {f rt : Nat → Nat} {c : Nat} (h : PX w b g n f rt c) : w.cell? ⟨b, 0, none⟩ = some (.slice (some ⟨g, 0, none⟩) n n) := by
  obtain ⟨L, rk, h1, _⟩ := h
  exact h1.box
theorem PX.same {w : World} {b g n : Nat} {f rt : Nat → Nat} {c : Nat} (h : PX w b g n f rt c) {x y : Nat} (hx : x < n) (hy : y < n) : rt x = rt y ↔ f x = f y := by
  obtain ⟨L, rk, h1, h2, h3⟩ := h
  exact h3.same h2 hx hy
theorem PX.top_lt {w : World} {b g n : Nat} {f rt : Nat → Nat} {c : Nat} (h : PX w b g n f rt c) {x : Nat} (hx : x < n) : rt x < n ∧ f (rt x) = f x := by
  obtain ⟨L, rk, h1, h2, h3⟩ := h
  exact ⟨(h3 x hx).1, (h3 x hx).2.2⟩

set_option maxHeartbeats 1000000 in
set_option maxRecDepth 100000 in
theorem pcount_any (w : World) (p : Addr) (n : Nat) (f : Nat → Nat) (S : Nat → Prop) (h : PAp w p n f S) :
    Calls Try.prog 17 #[.pointer (some p)] w fun e w' => e = .returned (.int .i64 (cntF f n)) ∧ PNext PAp S w w' p n f := by
  have H := hid h
  obtain ⟨b, g, rt, rfl, ⟨L, rk, hl, _⟩, _⟩ := h
  have c1 := hl.cnt.1
  obtain ⟨c, hc⟩ := ex_eq (cntF f n)
  have HC := hid hc
  rw [← hc] at c1 ⊢
  clear hl hc
  go_enter Try.func17, Try.ntmps17
  go_wp2
  go_ret
  exact ⟨rfl, pnext_same H.out (Below.refl _ _)⟩

set_option maxHeartbeats 1000000 in
set_option maxRecDepth 100000 in
theorem psame_any (w : World) (p : Addr) (n : Nat) (f : Nat → Nat) (S : Nat → Prop) (x y : Int) (r : Bool) (h : PAp w p n f S) (hr : r = true ↔ sameI n f x y) :
    Calls Try.prog 13 #[.pointer (some p), .int .i64 x, .int .i64 y] w fun e w' => e = .returned (.bool r) ∧ PNext PAp S w w' p n f := by
  have H := hid h
  obtain ⟨b, g, rt, rfl, hx, hP, hn, hS⟩ := h
  have c0 := hx.box
  obtain ⟨r1, hr1⟩ := ex_eq (decide (0 ≤ x ∧ x < n))
  obtain ⟨r2, hr2⟩ := ex_eq (decide (0 ≤ y ∧ y < n))
  have HX : Hid (∀ W, W.cell? ⟨b, 0, none⟩ = some (.slice (some ⟨g, 0, none⟩) n n) → Calls Try.prog 28 #[.pointer (some ⟨b, 0, none⟩), .int .i64 x] W fun e w' => e = .returned (.bool r1) ∧ w' = W) := fun W hc => has_p b _ n n x r1 W hc hr1
  have HY : Hid (∀ W, W.cell? ⟨b, 0, none⟩ = some (.slice (some ⟨g, 0, none⟩) n n) → Calls Try.prog 28 #[.pointer (some ⟨b, 0, none⟩), .int .i64 y] W fun e w' => e = .returned (.bool r2) ∧ w' = W) := fun W hc => has_p b _ n n y r2 W hc hr2
  have HPX := hid hx
  have HSS := hid hS
  have HPP := hid hP
  cases r1 with
  | false =>
    have h1 := of_decide_eq_false hr1.symm
    obtain rfl : r = false := by cases r with | false => rfl | true => exact absurd (hr.1 rfl).1 h1
    clear hr hr1 hr2 h1 hx hS hP
    go_enter Try.func13, Try.ntmps13
    go_wp2_with fail
    refine (HX.out _ c0).mono ?_
    rintro e w1 ⟨rfl, rfl⟩
    go_wp2
    go_ret
    exact ⟨rfl, pnext_same H.out (Below.refl _ _)⟩
  | true =>
    cases r2 with
    | false =>
      have h1 := of_decide_eq_false hr2.symm
      obtain rfl : r = false := by cases r with | false => rfl | true => exact absurd (hr.1 rfl).2.1 h1
      clear hr hr1 hr2 h1 hx hS hP
      go_enter Try.func13, Try.ntmps13
      go_wp2_with fail
      refine (HX.out _ c0).mono ?_
      rintro e w1 ⟨rfl, rfl⟩
      go_wp2_with fail
      refine (HY.out _ c0).mono ?_
      rintro e w2 ⟨rfl, rfl⟩
      go_wp2
      go_ret
      exact ⟨rfl, pnext_same H.out (Below.refl _ _)⟩
    | true =>
      have h1 := of_decide_eq_true hr1.symm
      have h2 := of_decide_eq_true hr2.symm
      obtain ⟨i, rfl⟩ : ∃ i : Nat, x = i := ⟨x.toNat, by omega⟩
      obtain ⟨k, rfl⟩ : ∃ k : Nat, y = k := ⟨y.toNat, by omega⟩
      have hin : i < n := by omega
      have hkn : k < n := by omega
      obtain ⟨ri, hri⟩ := ex_eq (rt i)
      obtain ⟨rk', hrk⟩ := ex_eq (rt k)
      have HI : Hid (∀ W, PX W b g n f rt (cntF f n) → Calls Try.prog 29 #[.pointer (some ⟨b, 0, none⟩), .int .i64 i] W fun e w' => e = .returned (.int .i64 ri) ∧ HeadIs b g n f rt (cntF f n) W w') := fun W hW => by rw [hri]; exact head_any b g n f rt _ i W hin hW
      have HK : Hid (∀ W, PX W b g n f rt (cntF f n) → Calls Try.prog 29 #[.pointer (some ⟨b, 0, none⟩), .int .i64 k] W fun e w' => e = .returned (.int .i64 rk') ∧ HeadIs b g n f rt (cntF f n) W w') := fun W hW => by rw [hrk]; exact head_any b g n f rt _ k W hkn hW
      have hrr : r = ((ri : Int) == (rk' : Int)) := by
        have hs := hx.same hin hkn
        rw [← hri, ← hrk] at hs
        have hr3 : r = true ↔ ri = rk' := by
          rw [hr, hs]
          unfold sameI
          rw [Int.toNat_natCast, Int.toNat_natCast]
          exact ⟨fun h => h.2.2, fun h => ⟨by omega, by omega, h⟩⟩
        cases r with
        | true => rw [hr3.1 rfl]; simp
        | false => exact (beq_eq_false_iff_ne.2 (fun e => by have := hr3.2 (by omega); cases this)).symm
      rw [hrr]
      clear hrr hr hr1 hr2 h1 h2 hri hrk hx hS hP
      go_enter Try.func13, Try.ntmps13
      go_wp2_with fail
      refine (HX.out _ c0).mono ?_
      rintro e w1 ⟨rfl, rfl⟩
      go_wp2_with fail
      refine (HY.out _ c0).mono ?_
      rintro e w2 ⟨rfl, rfl⟩
      go_wp2_with fail
      refine (HI.out _ HPX.out).mono ?_
      rintro e w3 ⟨rfl, h3⟩
      have H3 := hid h3
      clear h3
      go_wp2_with fail
      refine (HK.out _ H3.out.1).mono ?_
      rintro e w4 ⟨rfl, h4⟩
      have H4 := hid (H3.out.trans h4)
      clear h4 H3
      go_wp2
      go_ret
      exact ⟨rfl, pnext_head H4.out HPP.out hn HSS.out⟩

theorem joinI_no {n : Nat} {f : Nat → Nat} {x y : Int} (h : ¬ joinI n f x y) (i : Nat) : joinR n f x y i = f i := by
  unfold joinR
  split
  · next hin =>
    have : f x.toNat = f y.toNat := by
      by_cases e : f x.toNat = f y.toNat
      · exact e
      · exact absurd ⟨hin.1, hin.2, e⟩ h
    rw [joinF_one this]
  · rfl
theorem joinI_none {n : Nat} {f : Nat → Nat} {x y : Int} (h : ¬ joinI n f x y) : joinR n f x y = f := funext (joinI_no h)

set_option maxHeartbeats 1000000 in
set_option maxRecDepth 100000 in
theorem pjoin_any (w : World) (p : Addr) (n : Nat) (f : Nat → Nat) (S : Nat → Prop) (x y : Int) (r : Bool) (h : PAp w p n f S) (hr : r = true ↔ joinI n f x y) :
    Calls Try.prog 15 #[.pointer (some p), .int .i64 x, .int .i64 y] w fun e w' => e = .returned (.bool r) ∧ PNext PAp S w w' p n (joinR n f x y) := by
  have H := hid h
  obtain ⟨b, g, rt, rfl, hx, hP, hn, hS⟩ := h
  have c0 := hx.box
  obtain ⟨r1, hr1⟩ := ex_eq (decide (0 ≤ x ∧ x < n))
  obtain ⟨r2, hr2⟩ := ex_eq (decide (0 ≤ y ∧ y < n))
  have HX : Hid (∀ W, W.cell? ⟨b, 0, none⟩ = some (.slice (some ⟨g, 0, none⟩) n n) → Calls Try.prog 28 #[.pointer (some ⟨b, 0, none⟩), .int .i64 x] W fun e w' => e = .returned (.bool r1) ∧ w' = W) := fun W hc => has_p b _ n n x r1 W hc hr1
  have HY : Hid (∀ W, W.cell? ⟨b, 0, none⟩ = some (.slice (some ⟨g, 0, none⟩) n n) → Calls Try.prog 28 #[.pointer (some ⟨b, 0, none⟩), .int .i64 y] W fun e w' => e = .returned (.bool r2) ∧ w' = W) := fun W hc => has_p b _ n n y r2 W hc hr2
  have HPX := hid hx
  have HSS := hid hS
  have HPP := hid hP
  cases r1 with
  | false =>
    have h1 := of_decide_eq_false hr1.symm
    obtain rfl : r = false := by cases r with | false => rfl | true => exact absurd (hr.1 rfl).1 h1
    rw [joinI_none (fun e => by have := hr.2 e; cases this)]
    clear hr hr1 hr2 h1 hx hS hP
    go_enter Try.func15, Try.ntmps15
    go_wp2_with fail
    refine (HX.out _ c0).mono ?_
    rintro e w1 ⟨rfl, rfl⟩
    go_wp2
    go_ret
    exact ⟨rfl, pnext_same H.out (Below.refl _ _)⟩
  | true =>
    cases r2 with
    | false =>
      have h1 := of_decide_eq_false hr2.symm
      obtain rfl : r = false := by cases r with | false => rfl | true => exact absurd (hr.1 rfl).2.1 h1
      rw [joinI_none (fun e => by have := hr.2 e; cases this)]
      clear hr hr1 hr2 h1 hx hS hP
      go_enter Try.func15, Try.ntmps15
      go_wp2_with fail
      refine (HX.out _ c0).mono ?_
      rintro e w1 ⟨rfl, rfl⟩
      go_wp2_with fail
      refine (HY.out _ c0).mono ?_
      rintro e w2 ⟨rfl, rfl⟩
      go_wp2
      go_ret
      exact ⟨rfl, pnext_same H.out (Below.refl _ _)⟩
    | true =>
      have h1 := of_decide_eq_true hr1.symm
      have h2 := of_decide_eq_true hr2.symm
      obtain ⟨i, rfl⟩ : ∃ i : Nat, x = i := ⟨x.toNat, by omega⟩
      obtain ⟨k, rfl⟩ : ∃ k : Nat, y = k := ⟨y.toNat, by omega⟩
      have hin : i < n := by omega
      have hkn : k < n := by omega
      have hJ : joinR n f (i : Int) (k : Int) = joinF f i k := by
        unfold joinR
        rw [if_pos ⟨by omega, by omega⟩, Int.toNat_natCast, Int.toNat_natCast]
      obtain ⟨ri, hri⟩ := ex_eq (rt i)
      obtain ⟨rk', hrk⟩ := ex_eq (rt k)
      have HI : Hid (∀ W, PX W b g n f rt (cntF f n) → Calls Try.prog 29 #[.pointer (some ⟨b, 0, none⟩), .int .i64 i] W fun e w' => e = .returned (.int .i64 ri) ∧ HeadIs b g n f rt (cntF f n) W w') := fun W hW => by rw [hri]; exact head_any b g n f rt _ i W hin hW
      have HK : Hid (∀ W, PX W b g n f rt (cntF f n) → Calls Try.prog 29 #[.pointer (some ⟨b, 0, none⟩), .int .i64 k] W fun e w' => e = .returned (.int .i64 rk') ∧ HeadIs b g n f rt (cntF f n) W w') := fun W hW => by rw [hrk]; exact head_any b g n f rt _ k W hkn hW
      have hs := hx.same hin hkn
      rw [← hri, ← hrk] at hs
      have hr3 : r = true ↔ ri ≠ rk' := by
        rw [hr, Ne, hs]
        unfold joinI
        rw [Int.toNat_natCast, Int.toNat_natCast]
        exact ⟨fun h => h.2.2, fun h => ⟨by omega, by omega, h⟩⟩
      have hrin : ri < n := by rw [hri]; exact (hx.top_lt hin).1
      have hrkn : rk' < n := by rw [hrk]; exact (hx.top_lt hkn).1
      by_cases he : ri = rk'
      · obtain rfl : r = false := by cases r with | false => rfl | true => exact absurd he (hr3.1 rfl)
        rw [joinI_none (fun e => by have := hr.2 e; cases this)]
        subst he
        clear hr3 hr hr1 hr2 h1 h2 hri hrk hx hS hP hs
        go_enter Try.func15, Try.ntmps15
        go_wp2_with fail
        refine (HX.out _ c0).mono ?_
        rintro e w1 ⟨rfl, rfl⟩
        go_wp2_with fail
        refine (HY.out _ c0).mono ?_
        rintro e w2 ⟨rfl, rfl⟩
        go_wp2_with fail
        refine (HI.out _ HPX.out).mono ?_
        rintro e w3 ⟨rfl, h3⟩
        have H3 := hid h3
        clear h3
        go_wp2_with fail
        refine (HK.out _ H3.out.1).mono ?_
        rintro e w4 ⟨rfl, h4⟩
        have H4 := hid (H3.out.trans h4)
        clear h4 H3
        go_wp2
        go_ret
        exact ⟨rfl, pnext_head H4.out HPP.out hn HSS.out⟩
      · obtain rfl : r = true := hr3.2 he
        have hne : f i ≠ f k := fun e => he (hs.2 e)
        have he2 : ((ri : Int) == (rk' : Int)) = false := beq_eq_false_iff_ne.2 (by omega)
        obtain ⟨c, hc⟩ := ex_eq (cntF f n)
        have hcj := cntF_join hP hin hkn hne
        rw [← hc] at hcj
        obtain ⟨c', hc'⟩ := ex_eq (cntF (joinF f i k) n)
        rw [← hc'] at hcj
        have hcn : c ≤ n := by rw [hc]; exact cntF_le f n
        have HRT : Hid (ri = rt i ∧ rk' = rt k) := ⟨hri, hrk⟩
        have HC : Hid (c = cntF f n ∧ c' = cntF (joinF f i k) n) := ⟨hc, hc'⟩
        have HCJ : Hid (c = c' + 1) := hcj
        have HNE := hid hne
        have hw1 : IntKind.i64.wrap ((c : Int) - 1) = (c' : Int) := by rw [hcj]; simp [IntKind.wrap, IntKind.bits, IntKind.signed]; omega
        have HJ := hid hJ
        have hri' : (ri : Int) < (n : Int) := by omega
        have hrk' : (rk' : Int) < (n : Int) := by omega
        rw [← hc] at HI HK HPX
        clear hr3 hr hr1 hr2 h1 h2 hri hrk hx hS hP hs hne hc hc' hcj hJ
        go_enter Try.func15, Try.ntmps15
        go_wp2_with fail
        refine (HX.out _ c0).mono ?_
        rintro e w1 ⟨rfl, rfl⟩
        go_wp2_with fail
        refine (HY.out _ c0).mono ?_
        rintro e w2 ⟨rfl, rfl⟩
        go_wp2_with fail
        refine (HI.out _ HPX.out).mono ?_
        rintro e w3 ⟨rfl, h3⟩
        have H3 := hid h3
        clear h3
        go_wp2_with fail
        refine (HK.out _ H3.out.1).mono ?_
        rintro e w4 ⟨rfl, h4⟩
        have H4 := hid (H3.out.trans h4)
        clear h4 H3 c0
        obtain ⟨L, rk, hl, hL, hT⟩ := H4.out.1
        have d0 := hl.box
        obtain ⟨ds, fs⟩ := hl.at hrkn
        obtain ⟨dc, fc⟩ := hl.cnt
        obtain ⟨W, hW⟩ := ex_eq (w4.setCell ⟨g, rk', none⟩ (.int .i64 ri))
        have hlW : LAt W b g n (fun j => if j = rk' then ri else L j) c := by rw [hW]; exact hl.put hrkn ri
        have e0 := hlW.box
        obtain ⟨ec, fec⟩ := hlW.cnt
        obtain ⟨V, hV⟩ := ex_eq (W.setCell ⟨b, 1, none⟩ (.int .i64 c'))
        have HN : Hid (PNext PAp S w2 V ⟨b, 0, none⟩ n (joinF f i k)) := by
          have hLJ : Leads n (joinF f i k) (fun j => if j = rk' then ri else L j) _ := hL.join (a := i) (b := k) (s := ri) (t := rk') hrin hrkn (by rw [HRT.out.2]; exact (hT k hkn).2.1) (by rw [HRT.out.1]; exact (hT i hin).2.2) (by rw [HRT.out.2]; exact (hT k hkn).2.2) HNE.out
          obtain ⟨rt', hrt'⟩ := hLJ.tops
          have hkV : KeptBut (fun k => k = b) W V := by rw [hV]; exact kept_set W ⟨b, 1, none⟩ _
          have hlV : LAt V b g n (fun j => if j = rk' then ri else L j) c' := by
            have hlt := block_lt_of_cell e0
            refine ⟨?_, ⟨?_, ?_⟩, ?_, hlW.ne⟩
            · rw [hV, World.cell?_setCell_other _ _ _ _ (by simp)]; exact e0
            · rw [hV]; exact World.cell?_setCell_same' _ _ _ (by rw [ec]; rfl)
            · rw [hV, World.frozen?_setCell]; exact fec
            · exact ⟨Nat.lt_of_lt_of_le hlW.row.1 hkV.size, fun j hj => ⟨(hkV.cell (p := ⟨g, j, none⟩) hlW.row.1 hlW.ne).trans (hlW.row.2 j hj).1, (hkV.frozen (p := ⟨g, j, none⟩) hlW.row.1 hlW.ne).trans (hlW.row.2 j hj).2⟩⟩
          refine ⟨S, ⟨b, g, rt', rfl, ⟨_, _, by rw [← HC.out.2]; exact hlV, hLJ, hrt'⟩, HPP.out.join hin hkn, hn, HSS.out⟩, fun _ hk => Or.inl hk, ?_⟩
          have k1 : KeptBut S w2 w4 := H4.out.2.1.mono (fun k _ e => (HSS.out k).2 (Or.inr e))
          have k2 : KeptBut S w4 W := by rw [hW]; exact (kept_set w4 ⟨g, rk', none⟩ _).mono (fun k _ e => (HSS.out k).2 (Or.inr e))
          exact (k1.trans k2).trans (hkV.mono (fun k _ e => (HSS.out k).2 (Or.inl e)))
        have HW := hid hW
        have HV := hid hV
        clear hlW hl hL hT hW hV HRT HC HNE H4 HPX HI HK HX HY
        go_wp2_with (rw [← HW.out])
        go_ret
        rw [HJ.out]
        refine ⟨rfl, ?_⟩
        first | exact HN.out | (rw [← HV.out]; exact HN.out) | (rw [← HW.out, ← HV.out]; exact HN.out)
end Go.Proofs.Ythakjmfjbibbjaa
namespace Go.Proofs.Ythakjmfjbibbjaa
open Go.RowKit Go.Lib

set_option maxHeartbeats 1000000 in
set_option maxRecDepth 100000 in
theorem pnew_any (n : Int) (w : World) :
    Calls Try.prog 11 #[.int .i64 n] w fun e w' => ∃ p, e = .returned (.pointer (some p)) ∧ PNew PAp w w' p n := by
  obtain ⟨m, hm⟩ : ∃ m : Nat, min (max n 0) 1000 = (m : Int) := ⟨(min (max n 0) 1000).toNat, by omega⟩
  have hm1 : m ≤ 1000 := by omega
  have HM : Hid ((m : Int) = max 0 (min n 1000)) := by show (m : Int) = _; omega
  obtain ⟨i0, hi, hz0, hz1, hz2⟩ := info_parts Try.info3
  obtain ⟨g, hg⟩ := ex_eq w.heap.size
  obtain ⟨w2, hrun, hown, hgrow⟩ := run_make_full (P := Try.prog) w w.heap.size 42 3 i0 (.int .i64 0) 1 Try.underlying42 hi hz0 hz1 .i64 .i64 m (by rw [hz2]; omega) (by unfold maxLen; omega) (Nat.le_refl _)
  have hs2 : w.heap.size < w2.heap.size := by
    rcases hown.2 with ⟨hv, _⟩ | ⟨g', cap, cur, hv, _, hgb, _⟩
    · simp at hv
    · simp only [Value.slice.injEq, Option.some.injEq, Addr.mk.injEq, and_true, true_and] at hv
      obtain ⟨rfl, _⟩ := hv
      exact (Array.getElem?_eq_some_iff.1 hgb).1
  have hr2 : Row1 w2 g m (fun _ => 0) := by rw [hg]; exact row1_made hown hs2
  have hb2 : Below g w w2 := by rw [hg]; exact Below.grown (Below.refl _ _) hgrow (Nat.le_refl _) (fun k hk => by cases hk)
  obtain ⟨b, hb⟩ := ex_eq w2.heap.size
  obtain ⟨W0, hW0⟩ := ex_eq (w2.alloc (.cells #[.slice (some ⟨g, 0, none⟩) m m, .int .i64 m] 55))
  have hO : W0.heap[b]? = some (.cells #[.slice (some ⟨g, 0, none⟩) m m, .int .i64 m] 55 (0, 0)) := by rw [hW0, hb]; exact heap_alloc_new _ _
  have hne : g < b := by omega
  have H0 : Hid (LAt W0 b g m (fun j => if j < 0 then j else 0) m) := by
    refine ⟨cell_of_heap hO 0, ⟨cell_of_heap hO 1, frozen_of_heap hO _⟩, ?_, by omega⟩
    rw [hW0]
    exact (hr2.alloc _).congr (fun j _ => by simp)
  have hB0 : Below g w W0 := by rw [hW0]; exact hb2.alloc (by omega) _
  rw [← hg] at hrun
  have HW0 := hid hW0
  have HG := hid hg
  have HBB := hid hb
  clear hown hgrow hi hz0 hz1 hz2 hr2 hb2 hO hW0 hs2 hb hg
  go_enter Try.func11, Try.ntmps11
  go_wp2_with fail
  rw [← HBB.out, ← HW0.out]
  have d0 := H0.out.box
  go_wp2
  clear hrun HW0 d0
  go_loopg [18] m (fun G i wz => ∃ k : Nat, k ≤ m ∧ m - k ≤ G ∧ i = .int .i64 k ∧ Hid (LAt wz b g m (fun j => if j < k then j else 0) m) ∧ Hid (Below g w wz))
  case atStart => exact ⟨0, Nat.zero_le _, by omega, rfl, H0, hB0⟩
  case round =>
    obtain ⟨k, hk, hG, rfl, hL, hbz⟩ := hrel
    have d0 := hL.out.box
    by_cases hlt : k < m
    · have q1 : (k : Int) < (m : Int) := by omega
      obtain ⟨ck, fk⟩ := hL.out.at hlt
      have HNX : Hid (LAt (wr.setCell ⟨g, k, none⟩ (.int .i64 k)) b g m (fun j => if j < k + 1 then j else 0) m) := (hL.out.put hlt k).congr (fun j _ => by
        by_cases e : j = k
        · subst e; rw [if_pos rfl, if_pos (by omega)]
        · rw [if_neg e]
          by_cases e2 : j < k
          · rw [if_pos e2, if_pos (by omega)]
          · rw [if_neg e2, if_neg (by omega)])
      have HBX : Hid (Below g w (wr.setCell ⟨g, k, none⟩ (.int .i64 k))) := hbz.out.setCell (p := ⟨g, k, none⟩) (Nat.le_refl _) _
      clear hL hbz
      go_wp2
      go_roundg (m - (k + 1))
      case measure => omega
      case rel => exact ⟨k + 1, by omega, Nat.le_refl _, by go_num, HNX, HBX⟩
    · obtain rfl : k = m := by omega
      have HX : Hid (PNew PAp w wr ⟨b, 0, none⟩ n) := by
        have hl : LAt wr b g k (fun i => i) (cntF (fun i => i) k) := by rw [cntF_new]; exact hL.out.congr (fun j hj => by rw [if_pos hj])
        have hgb : g ≤ b := by have := hl.ne; omega
        refine ⟨k, fun j => j = b ∨ j = g, HM.out, ⟨b, g, fun i => i, rfl, ⟨_, _, hl, leads_new k, fun a ha => ⟨ha, rfl, rfl⟩⟩, pt_new k, hm1, fun _ => Iff.rfl⟩, ?_, by rw [← HG.out]; exact hbz.out⟩
        rintro j (rfl | rfl)
        · rw [← HG.out]; exact hgb
        · rw [← HG.out]; exact Nat.le_refl _
      clear hL hbz HM
      go_wp2
      go_ret
      exact ⟨_, rfl, HX.out⟩
end Go.Proofs.Ythakjmfjbibbjaa
