/-
  carcanetlaw04.PartOrder answers true, for any part that keeps the contracts.
  A row of truths that the call has made, place by place.
  The document's components (Of of layer 4).
  carcanetlaw04.PartCounts answers true, for any part that keeps the contracts.
  carcanetlaw04.PartCounts answers true, for any part that keeps the contracts: the walk.
  carcanetlaw04.PartBridge answers true, for any part that keeps the contracts, and any Add that keeps its own.
  Who leads to whom in a part of the program's. No program is named here.
  The program's parts in memory; who stands for a class (has, head).
-/
import Derived.Test.YthakjmfjbibbjaaB06
import Derived.Test.YthakjmfjbibbjaaB07
import Derived.Test.YthakjmfjbibbjaaB03
import Derived.Test.YthakjmfjbibbjaaB05
import Derived.BigRegion
namespace Go.Proofs.Ythakjmfjbibbjaa
open Go.RowKit Go.Lib

/-- Two parts, side by side. -/
structure PPr (PA : World → Addr → Nat → (Nat → Nat) → (Nat → Prop) → Prop) (u w : World) (b0 : Nat) (p q : Addr) (m : Nat) (f h : Nat → Nat) (S T : Nat → Prop) : Prop where
  pa : PA w p m f S
  qa : PA w q m h T
  sep : ∀ k, S k → ¬ T k
  geS : ∀ k, S k → b0 ≤ k
  geT : ∀ k, T k → b0 ≤ k
  bel : Below b0 u w
theorem PPr.left {PA : World → Addr → Nat → (Nat → Nat) → (Nat → Prop) → Prop} (O : PartOps PA) {u w w' : World} {b0 : Nat} {p q : Addr} {m : Nat} {f f' h : Nat → Nat} {S T : Nat → Prop} (H : PPr PA u w b0 p q m f h S T) (hN : PNext PA S w w' p m f') (h0 : b0 ≤ u.heap.size) : ∃ S', PPr PA u w' b0 p q m f' h S' T := by
  obtain ⟨S', h1, h2, h3, h4, h5⟩ := hN.step H.geS H.bel (Nat.le_trans h0 H.bel.size)
  have hT := (O.own H.qa).2.2
  exact ⟨S', h1, O.keep H.qa h4 (fun k hk e => H.sep k e hk), fun k hk e => (h5 k hk).elim (fun e2 => H.sep k e2 e) (fun e2 => by have := hT k e; omega), h2, H.geT, h3⟩
theorem PPr.turn {PA : World → Addr → Nat → (Nat → Nat) → (Nat → Prop) → Prop} {u w : World} {b0 : Nat} {p q : Addr} {m : Nat} {f h : Nat → Nat} {S T : Nat → Prop} (H : PPr PA u w b0 p q m f h S T) : PPr PA u w b0 q p m h f T S := ⟨H.qa, H.pa, fun k hk e => H.sep k e hk, H.geT, H.geS, H.bel⟩
theorem PPr.right {PA : World → Addr → Nat → (Nat → Nat) → (Nat → Prop) → Prop} (O : PartOps PA) {u w w' : World} {b0 : Nat} {p q : Addr} {m : Nat} {f h h' : Nat → Nat} {S T : Nat → Prop} (H : PPr PA u w b0 p q m f h S T) (hN : PNext PA T w w' q m h') (h0 : b0 ≤ u.heap.size) : ∃ T', PPr PA u w' b0 p q m f h' S T' := by
  obtain ⟨T', h1⟩ := H.turn.left O hN h0
  exact ⟨T', h1.turn⟩
theorem PPr.drew {PA : World → Addr → Nat → (Nat → Nat) → (Nat → Prop) → Prop} (O : PartOps PA) {u w : World} {b0 : Nat} {p q : Addr} {m : Nat} {f h : Nat → Nat} {S T : Nat → Prop} (H : PPr PA u w b0 p q m f h S T) : PPr PA u w.drew b0 p q m f h S T :=
  ⟨O.keep H.pa (KeptBut.of_whole (fun _ => False) ((Below.refl _ _).drew)) (fun _ _ e => e), O.keep H.qa (KeptBut.of_whole (fun _ => False) ((Below.refl _ _).drew)) (fun _ _ e => e), H.sep, H.geS, H.geT, H.bel.drew⟩

end Go.Proofs.Ythakjmfjbibbjaa
namespace Go.Proofs.Ythakjmfjbibbjaa
open Go.RowKit Go.Lib

/-- A row of truths that may be written, place by place. -/
def RowB (w : World) (g n : Nat) (c : Nat → Bool) : Prop := g < w.heap.size ∧ ∀ j, j < n → w.cell? ⟨g, j, none⟩ = some (.bool (c j)) ∧ w.frozen? ⟨g, j, none⟩ = false
theorem RowB.put {w : World} {g n : Nat} {c : Nat → Bool} (h : RowB w g n c) {i : Nat} (hi : i < n) (x : Bool) : RowB (w.setCell ⟨g, i, none⟩ (.bool x)) g n (fun j => if j = i then x else c j) := by
  refine ⟨by simpa using h.1, fun j hj => ?_⟩
  obtain ⟨a, fa⟩ := h.2 j hj
  simp only [World.frozen?_setCell]
  refine ⟨?_, fa⟩
  by_cases e : j = i
  · subst e
    rw [if_pos rfl]
    exact World.cell?_setCell_same' _ _ _ (by rw [a]; rfl)
  · rw [if_neg e, World.cell?_setCell_other _ _ _ _ (by simp <;> omega)]
    exact a
theorem RowB.congr {w : World} {g n : Nat} {c d : Nat → Bool} (h : RowB w g n c) (e : ∀ j, j < n → c j = d j) : RowB w g n d := ⟨h.1, fun j hj => by rw [← e j hj]; exact h.2 j hj⟩
theorem RowB.below {w w' : World} {g n : Nat} {c : Nat → Bool} (h : RowB w g n c) (hB : Below w.heap.size w w') : RowB w' g n c := by
  refine ⟨Nat.lt_of_lt_of_le h.1 hB.size, fun j hj => ⟨(hB.cell (p := ⟨g, j, none⟩) h.1).trans (h.2 j hj).1, ?_⟩⟩
  rw [← (h.2 j hj).2]
  unfold World.frozen?
  rw [hB.block g h.1]
theorem RowB.drew {w : World} {g n : Nat} {c : Nat → Bool} (h : RowB w g n c) : RowB w.drew g n c := h
end Go.Proofs.Ythakjmfjbibbjaa
namespace Go.Proofs.Ythakjmfjbibbjaa
open Go.RowKit Go.Lib

theorem RowB.kept {S : Nat → Prop} {w w' : World} {g n : Nat} {c : Nat → Bool} (h : RowB w g n c) (hk : KeptBut S w w') (hs : ¬ S g) : RowB w' g n c :=
  ⟨Nat.lt_of_lt_of_le h.1 hk.size, fun j hj => ⟨(hk.cell (p := ⟨g, j, none⟩) h.1 hs).trans (h.2 j hj).1, (hk.frozen (p := ⟨g, j, none⟩) h.1 hs).trans (h.2 j hj).2⟩⟩
end Go.Proofs.Ythakjmfjbibbjaa
namespace Go.Proofs.Ythakjmfjbibbjaa
open Go.RowKit Go.Lib

theorem classesF_len (n : Nat) (f : Nat → Nat) : (classesF n f).length = (repsF n f).length := by unfold classesF; rw [List.length_map]
theorem classesF_at {n : Nat} {f : Nat → Nat} {i : Nat} (h : i < (classesF n f).length) (h' : i < (repsF n f).length) : (classesF n f)[i] = classF n f (repsF n f)[i] := by
  simp [classesF]
theorem rep_place {n : Nat} {f : Nat → Nat} (hP : Pt n f) {u : Nat} (hu : u < n) : ∃ j, ∃ h : j < (repsF n f).length, (repsF n f)[j] = f u :=
  List.getElem_of_mem (mem_reps.2 ⟨hP.lt hu, hP.idem u hu⟩)
end Go.Proofs.Ythakjmfjbibbjaa
namespace Go.Proofs.Ythakjmfjbibbjaa
open Go.RowKit Go.Lib

/-- A part, and what lies beside it. -/
structure POne (PA : World → Addr → Nat → (Nat → Nat) → (Nat → Prop) → Prop) (u w : World) (b0 : Nat) (p : Addr) (m : Nat) (f : Nat → Nat) (S : Nat → Prop) : Prop where
  pa : PA w p m f S
  ge : ∀ k, S k → b0 ≤ k
  bel : Below b0 u w
theorem POne.next {PA : World → Addr → Nat → (Nat → Nat) → (Nat → Prop) → Prop} {u w w' : World} {b0 : Nat} {p : Addr} {m : Nat} {f f' : Nat → Nat} {S : Nat → Prop} (H : POne PA u w b0 p m f S) (hN : PNext PA S w w' p m f') (h0 : b0 ≤ u.heap.size) :
    ∃ S', POne PA u w' b0 p m f' S' ∧ KeptBut S w w' ∧ ∀ k, S' k → S k ∨ w.heap.size ≤ k := by
  obtain ⟨S', h1, h2, h3, h4, h5⟩ := hN.step H.ge H.bel (Nat.le_trans h0 H.bel.size)
  exact ⟨S', ⟨h1, h2, h3⟩, h4, h5⟩
end Go.Proofs.Ythakjmfjbibbjaa
namespace Go.Proofs.Ythakjmfjbibbjaa
open Go.RowKit Go.Lib

theorem tells_other {n : Nat} {f : Nat → Nat} {P Q : List (Nat × Nat)} (h : Tells n f P) (h1 : ∀ e ∈ P, Cl Q e.1 e.2) (h2 : ∀ e ∈ Q, Cl P e.1 e.2) : Tells n f Q := fun a b ha hb => (h a b ha hb).trans ⟨fun h => h.mono h1, fun h => h.mono h2⟩
theorem tells_edge {m : Nat} {f : Nat → Nat} {ys zs : List (Int × Int)} {p q : Nat} (hR : RightG m ys) (hR2 : RightG m zs) (h : Tells m f (prsN ys)) (hp : p < m) (hq : q < m) (hz : ∀ e, e ∈ zs ↔ e ∈ ys ∨ e = (min (p : Int) q, max (p : Int) q)) : Tells m (joinF f p q) (prsN zs) := by
  refine tells_other (tells_join h (prsN_in hR) hp hq) (fun e he => ?_) (fun e he => ?_)
  · rcases List.mem_append.1 he with he | he
    · exact Cl.of ((mem_prsN hR2).2 ((hz _).2 (Or.inl ((mem_prsN hR).1 he))))
    · simp at he
      subst he
      by_cases hpq : p ≤ q
      · exact Cl.of (e := (p, q)) ((mem_prsN hR2).2 ((hz _).2 (Or.inr (Prod.ext (by simp; omega) (by simp; omega)))))
      · exact (Cl.of (e := (q, p)) ((mem_prsN hR2).2 ((hz _).2 (Or.inr (Prod.ext (by simp; omega) (by simp; omega)))))).symm
  · have he' := (mem_prsN hR2).1 he
    rcases (hz _).1 he' with h1 | h1
    · exact Cl.of (List.mem_append_left _ ((mem_prsN hR).2 h1))
    · simp only [Prod.mk.injEq] at h1
      by_cases hpq : p ≤ q
      · have e2 : e = (p, q) := Prod.ext (by omega) (by omega)
        rw [e2]
        exact Cl.of (e := (p, q)) (by simp)
      · have e2 : e = (q, p) := Prod.ext (by omega) (by omega)
        rw [e2]
        exact (Cl.of (e := (p, q)) (by simp)).symm
theorem reps_same {n : Nat} {f : Nat → Nat} {a b : Nat} (h : f a = f b) : (repsF n (joinF f a b)).length = (repsF n f).length := by
  unfold repsF
  rw [List.filter_congr (fun i _ => by rw [joinF_one h])]
theorem add_right {m p q er : Int} {ys zs : List (Int × Int)} (h : AddE m ys p q er zs) (hR : RightG m ys) (hp : 0 ≤ p ∧ p < m) (hq : 0 ≤ q ∧ q < m) (hne : p ≠ q) (hl : ys.length ≤ 300) :
    er = 0 ∧ RightG m zs ∧ ∀ e, e ∈ zs ↔ e ∈ ys ∨ e = (min p q, max p q) := by
  rcases h with ⟨h1, _⟩ | ⟨_, h2, _⟩ | ⟨h1, h2, ⟨h3, _⟩ | ⟨h3, h4, rfl, rfl⟩ | ⟨h3, h4, h5, _⟩ | ⟨h3, h4, h5, rfl, h6, h7, h8⟩⟩
  · exact absurd hR h1
  · exact absurd ⟨hp, hq⟩ h2
  · exact absurd h3 hne
  · exact ⟨rfl, hR, fun e => ⟨Or.inl, fun h => h.elim id (fun h => by rw [h]; exact h4)⟩⟩
  · omega
  · refine ⟨rfl, ⟨hR.1, hR.2.1, by omega, fun e he => ?_, h6⟩, h8⟩
    rcases (h8 e).1 he with he | rfl
    · exact hR.2.2.2.1 e he
    · simp only; omega
/-- Some class ahead of the t-th has both. -/
theorem one_step {m : Nat} {f : Nat → Nat} {t r p q : Nat} (hr : t < (repsF m f).length) (he : (repsF m f)[t] = r) (hp : p < m) (hq : q < m) :
    ((∃ j, ∃ h : j < (repsF m f).length, j < t + 1 ∧ f p = (repsF m f)[j] ∧ f q = (repsF m f)[j]) ↔ ((∃ j, ∃ h : j < (repsF m f).length, j < t ∧ f p = (repsF m f)[j] ∧ f q = (repsF m f)[j]) ∨ ((p : Int) ∈ classF m f r ∧ (q : Int) ∈ classF m f r))) := by
  rw [mem_class_nat, mem_class_nat]
  constructor
  · rintro ⟨j, h, hj, h1, h2⟩
    by_cases e : j < t
    · exact Or.inl ⟨j, h, e, h1, h2⟩
    · obtain rfl : j = t := by omega
      exact Or.inr ⟨⟨hp, by rw [h1, he]⟩, hq, by rw [h2, he]⟩
  · rintro (⟨j, h, hj, h1, h2⟩ | ⟨⟨_, h1⟩, _, h2⟩)
    · exact ⟨j, h, by omega, h1, h2⟩
    · exact ⟨t, hr, by omega, by rw [h1, he], by rw [h2, he]⟩
theorem one_all {m : Nat} {f : Nat → Nat} (hP : Pt m f) {p q : Nat} (hp : p < m) : (∃ j, ∃ h : j < (repsF m f).length, j < (repsF m f).length ∧ f p = (repsF m f)[j] ∧ f q = (repsF m f)[j]) ↔ f p = f q := by
  constructor
  · rintro ⟨j, h, _, h1, h2⟩; rw [h1, h2]
  · intro e
    obtain ⟨j, hj, h1⟩ := rep_place hP hp
    exact ⟨j, hj, hj, h1.symm, by rw [h1, e]⟩
/-- Whether some class ahead of the t-th has both. -/
def OneIs (m : Nat) (f : Nat → Nat) (p q t : Nat) (o : Bool) : Prop := o = true ↔ ∃ j, ∃ h : j < (repsF m f).length, j < t ∧ f p = (repsF m f)[j] ∧ f q = (repsF m f)[j]
theorem next_ne {m p t : Nat} (hm : 2 ≤ m) (hp : p < m) (ht : t < m - 1) : ∃ q : Nat, ((p : Int) + 1 + t).tmod m = q ∧ q < m ∧ q ≠ p := by
  refine ⟨(p + 1 + t) % m, ?_, Nat.mod_lt _ (by omega), fun e => ?_⟩
  · have e : (p : Int) + 1 + t = ((p + 1 + t : Nat) : Int) := by omega
    rw [Int.tmod_eq_emod_of_nonneg (by omega), e]
    exact (Int.natCast_emod (p + 1 + t) m).symm
  · by_cases h : p + 1 + t < m
    · rw [Nat.mod_eq_of_lt h] at e; omega
    · rw [Nat.mod_eq_sub_mod (by omega), Nat.mod_eq_of_lt (by omega)] at e; omega

set_option maxHeartbeats 4000000 in
set_option maxRecDepth 100000 in
theorem partBridge_law {PA : World → Addr → Nat → (Nat → Nat) → (Nat → Prop) → Prop} (O : PartOps PA)
    (HA0 : ∀ (n : Int) (a : Option Addr) (cap : Nat) (es : List (Int × Int)) (x y : Int) (b : Bool) (w : World), es.length ≤ 1000000 → EAt w a es → Sl a cap es.length → (b = true ↔ RightG n es) → Calls Try.prog 26 #[.agg #[.int .i64 n, .slice a es.length cap], .int .i64 x, .int .i64 y] w fun e w' => ∃ er ys a' cap', e = .returned (.tuple #[.agg #[.int .i64 (nOf' n er), .slice a' ys.length cap'], .int .i64 er]) ∧ AddE n es x y er ys ∧ Sl a' cap' ys.length ∧ EAt w' a' ys ∧ Below w.heap.size w w')
    (n : Int) (a : Option Addr) (len cap : Nat) (l : List (Int × Int)) (k0 k1 : Int) (w : World) (hl : len = l.length) (hE : EAt w a l) :
    Calls Try.prog 8 #[.int .i64 n, .slice a len cap, .agg #[.int .i64 k0, .int .i64 k1]] w fun e w' => e = .returned (.bool true) ∧ Below w.heap.size w w' := by
  have HO := hid O
  have HAD := hid HA0
  have HL := hid hl
  obtain ⟨b0, hb0⟩ := ex_eq w.heap.size
  have HB0 := hid hb0
  obtain ⟨W0, hW0⟩ := ex_eq (w.alloc (.cells #[.int .i64 k0, .int .i64 k1] 47))
  have hB0 : Below b0 w W0 := by rw [hW0, hb0]; exact below_new _ _
  have hs0 : W0.heap.size = b0 + 1 := by rw [hW0, hb0]; simp
  have HO0 : Hid (W0.heap[b0]? = some (.cells #[.int .i64 k0, .int .i64 k1] 47)) := by
    show _ = _
    rw [hW0, hb0]; exact heap_alloc_new _ _
  have HW0 := hid hW0
  have HE : Hid (∀ X, Below b0 w X → EAt X a l) := fun X h => hE.below (by rw [← hb0]; exact h)
  have h00 : b0 ≤ w.heap.size := by omega
  clear O HA0 hl hE hW0 hb0
  go_enter Try.func8, Try.ntmps8
  go_wp2_with fail
  rw [← HW0.out, ← HB0.out]
  clear HW0
  refine (pshown_any HO.out _).mono ?_
  rintro e w1 ⟨rfl, hb1⟩
  rw [hs0] at hb1
  have hBw1 : Below b0 w w1 := hB0.trans (hb1.mono (by omega))
  have HO1 : Hid (w1.heap[b0]? = some (.cells #[.int .i64 k0, .int .i64 k1] 47)) := (hb1.block _ (by omega)).trans HO0.out
  have hs1 : b0 + 1 ≤ w1.heap.size := by have := hb1.size; omega
  clear hb1 HO0 hs0 hB0
  have CA := hid (any_any n a len cap l 50 w1 (by omega) HL.out (HE.out w1 hBw1))
  go_wp2_with fail
  refine CA.out.mono ?_
  rintro e w2 ⟨m, ys, a2, c2, rfl, hm50, hR, hys, hsl, hE2, hb2⟩
  obtain ⟨K, hK⟩ := ex_eq ys.length
  rw [← hK]
  have HK := hid hK
  obtain ⟨V2, hV2⟩ := ex_eq (w2.alloc (.cells #[.int .i64 m, .slice a2 K c2] 38))
  obtain ⟨B, hB⟩ := ex_eq w2.heap.size
  have hbV2 : Below w2.heap.size w2 V2 := by rw [hV2]; exact below_new _ _
  have HG2 : Hid (GC V2 B m a2 K c2 ys) := by
    show GC V2 _ _ _ _ _ _
    rw [hV2, hB]; exact gc_new hE2
  have hBX2 : Below w1.heap.size w1 V2 := hb2.trans (hbV2.mono hb2.size)
  have HB2 : Hid (Below b0 w V2) := hBw1.trans (hBX2.mono (by omega))
  have HO2 : Hid (V2.heap[b0]? = some (.cells #[.int .i64 k0, .int .i64 k1] 47)) := (hBX2.block _ (by omega)).trans HO1.out
  have HV2 := hid hV2
  have HBB := hid hB
  have HR := hid hR
  have HSL := hid hsl
  have hK3 : K ≤ 300 := by omega
  clear hK hV2 hbV2 hBX2 hE2 hb2 hR hys hsl CA HO1 hBw1 hs1 hB HE HL
  go_upto_region 3 with fail
  rw [← HV2.out, ← HBB.out]
  clear HV2
  obtain ⟨g0, g1⟩ := HG2.out.cells
  obtain ⟨x0, x1⟩ := two_cells HO2.out
  by_cases hm2 : m < 2
  · have hm3 : (m : Int) < 2 := by omega
    go_wp2
    go_ret
    exact ⟨rfl, by rw [← HB0.out]; exact HB2.out⟩
  have hm3 : ¬ (m : Int) < 2 := by omega
  have hm4 : ¬ m = 0 := by omega
  have hm5 : ¬ (m : Int) = 0 := by omega
  obtain ⟨p, hp, hpm⟩ := rnd_of k0 (m := m) (by omega)
  obtain ⟨m1, hm1⟩ : ∃ m1 : Nat, m = m1 + 1 := ⟨m - 1, by omega⟩
  obtain ⟨t, ht, htm⟩ := rnd_of k1 (m := m1) (by omega)
  obtain ⟨q, hq, hqm, hqp⟩ := next_ne (m := m) (by omega) hpm (show t < m - 1 by omega)
  have hm6 : (m : Int) - 1 = (m1 : Int) := by omega
  have hm7 : ¬ (m1 : Int) = 0 := by omega
  have hm8 : ¬ m1 = 0 := by omega
  have r1 : IntKind.i64.wrap (m1 : Int) = (m1 : Int) := by rw [IntKind.wrap_i64]; omega
  have r2 : IntKind.i64.wrap ((p : Int) + 1) = (p : Int) + 1 := by rw [IntKind.wrap_i64]; omega
  have r3 : IntKind.i64.wrap ((p : Int) + 1 + (t : Int)) = (p : Int) + 1 + (t : Int) := by rw [IntKind.wrap_i64]; omega
  clear hm1
  go_wp2_with fail
  go_quiet (fail)
  obtain ⟨V3, hV3⟩ := ex_eq (V2.drewN nq)
  rw [← hV3]
  have hb3 : Below V2.heap.size V2 V3 := by rw [hV3]; exact below_drewN (Below.refl _ _) _
  have HG3 := hid (HG2.out.on hb3)
  have HB3 : Hid (Below b0 w V3) := HB2.out.trans (hb3.mono (Nat.le_trans h00 HB2.out.size))
  have CD : Hid (Calls Try.prog 26 #[.agg #[.int .i64 m, .slice a2 K c2], .int .i64 p, .int .i64 q] V3 fun e w' => ∃ zs a' cap', e = .returned (.tuple #[.agg #[.int .i64 m, .slice a' zs.length cap'], .int .i64 0]) ∧ (RightG m zs ∧ ∀ e, e ∈ zs ↔ e ∈ ys ∨ e = (min (p : Int) q, max (p : Int) q)) ∧ EAt w' a' zs ∧ Below V3.heap.size V3 w') := by
    show Calls _ _ _ _ _
    rw [HK.out]
    exact (HAD.out m a2 c2 ys p q true V3 (by rw [← HK.out]; omega) HG3.out.at_ HSL.out ⟨fun _ => HR.out, fun _ => rfl⟩).mono fun _ _ ⟨er, zs, a', cap', h1, h2, h3, h4, h5⟩ => by
      obtain ⟨rfl, z1, z2⟩ := add_right h2 HR.out ⟨by omega, by omega⟩ ⟨by omega, by omega⟩ (by omega) (by rw [← HK.out]; exact hK3)
      exact ⟨zs, a', cap', h1, ⟨z1, z2⟩, h4, h5⟩
  clear hV3 hb3 HG2 HB2 g0 g1 x0 x1 HO2 hp hq ht r1 r2 r3 hm6 hm7 hm8 htm hm3 hm4 hm5 HAD HBB
  obtain ⟨g0, g1⟩ := HG3.out.cells
  go_wp2_with fail
  refine CD.out.mono ?_
  rintro e w4 ⟨zs, a4, c4, rfl, ⟨hR4, hz4⟩, hE4, hb4⟩
  obtain ⟨M, hM⟩ := ex_eq zs.length
  rw [← hM]
  obtain ⟨V4, hV4⟩ := ex_eq (w4.alloc (.cells #[.int .i64 m, .slice a4 M c4] 38))
  obtain ⟨D, hD⟩ := ex_eq w4.heap.size
  have hbV4 : Below w4.heap.size w4 V4 := by rw [hV4]; exact below_new _ _
  have HH4 : Hid (GC V4 D m a4 M c4 zs) := by
    show GC V4 _ _ _ _ _ _
    rw [hV4, hD]; exact gc_new hE4
  have hBX4 : Below V3.heap.size V3 V4 := hb4.trans (hbV4.mono hb4.size)
  have HB4 : Hid (Below b0 w V4) := HB3.out.trans (hBX4.mono (Nat.le_trans h00 HB3.out.size))
  have HG4 := hid (HG3.out.on hBX4)
  obtain ⟨f, hPt, hTl⟩ := tells_ex (n := m) (prsN ys) (prsN_in HR.out)
  have hTl2 := tells_edge HR.out hR4 hTl hpm hqm hz4
  have HPT := hid hPt
  have CX : Hid (∀ W, EAt W a2 ys → Calls Try.prog 22 #[.agg #[.int .i64 m, .slice a2 K c2]] W fun e w' => ∃ v, e = .returned v ∧ PComp W w' v (classesF m f)) := fun W h => by
    have := HO.out.comps m a2 c2 ys true f W (by rw [← HK.out]; omega) h ⟨fun _ => HR.out, fun _ => rfl⟩ (fun _ => ⟨hPt, hTl⟩)
    rw [if_pos rfl, ← HK.out] at this
    exact this
  have CY : Hid (∀ W, EAt W a4 zs → Calls Try.prog 22 #[.agg #[.int .i64 m, .slice a4 M c4]] W fun e w' => ∃ v, e = .returned v ∧ PComp W w' v (classesF m (joinF f p q))) := fun W h => by
    have := HO.out.comps m a4 c4 zs true (joinF f p q) W (by have := hR4.2.2.1; omega) h ⟨fun _ => hR4, fun _ => rfl⟩ (fun _ => ⟨hPt.join hpm hqm, hTl2⟩)
    rw [if_pos rfl, ← hM] at this
    exact this
  have HV4 := hid hV4
  have HDD := hid hD
  clear hV4 hD hbV4 hBX4 hE4 hb4 hR4 hz4 hM hPt hTl hTl2 CD HG3 HB3 g0 g1 HSL HR
  go_upto_region 10 with fail
  rw [← HV4.out, ← HDD.out]
  clear HV4 HDD
  obtain ⟨g0, g1⟩ := HG4.out.cells
  go_wp2_with fail
  refine (CX.out _ HG4.out.at_).mono ?_
  rintro e w5 ⟨v5, rfl, a5, c5, rfl, hI5, hb5⟩
  have HI5 := hid hI5
  have HH5 := hid (HH4.out.on hb5)
  have HB5 : Hid (Below b0 w w5) := HB4.out.trans (hb5.mono (Nat.le_trans h00 HB4.out.size))
  clear hI5 hb5 HG4 HH4 HB4 CX g0 g1
  obtain ⟨g0, g1⟩ := HH5.out.cells
  obtain ⟨X, hX⟩ := ex_eq (classesF m f).length
  obtain ⟨Y, hY⟩ := ex_eq (classesF m (joinF f p q)).length
  rw [← hX]
  have HXX := hid hX
  have HYY := hid hY
  have HXL : Hid ((repsF m f).length = X) := by show _ = X; rw [hX, classesF_len]
  have HYL : Hid ((f p = f q → Y = X) ∧ (f p ≠ f q → X = Y + 1)) := by
    rw [hX, hY, classesF_len, classesF_len]
    exact ⟨fun h => reps_same h, fun h => reps_join HPT.out hpm hqm h⟩
  have hXm : X ≤ m := by rw [hX, classesF_len]; exact reps_len _ _
  clear hX hY
  go_wp2_with fail
  refine (CY.out _ HH5.out.at_).mono ?_
  rintro e w6 ⟨v6, rfl, a6, c6, rfl, hI6, hb6⟩
  rw [← HYY.out]
  have HI6 := hid (HI5.out.below hb6)
  have HB6 : Hid (Below b0 w w6) := HB5.out.trans (hb6.mono (Nat.le_trans h00 HB5.out.size))
  clear hI6 hb6 HI5 HB5 HH5 CY g0 g1
  go_wp2
  go_loopg [15, 16] X (fun G one i wz => ∃ (t : Nat) (o : Bool), t ≤ X ∧ X - t ≤ G ∧ one = .bool o ∧ i = .int .i64 t ∧ Hid (OneIs m f p q t o) ∧ wz = w6)
  case atStart => exact ⟨0, false, Nat.zero_le _, by omega, rfl, rfl, ⟨fun h => (by cases h), fun ⟨j, _, h, _⟩ => absurd h (by omega)⟩, rfl⟩
  case round =>
    obtain ⟨t, o, htX, hGt, rfl, rfl, ho, rfl⟩ := hrel
    by_cases htl : t < X
    · have htr : t < (repsF m f).length := by rw [HXL.out]; exact htl
      have htc : t < (classesF m f).length := by rw [← HXX.out]; exact htl
      obtain ⟨r, hr⟩ := ex_eq (repsF m f)[t]
      have hcl := classesF_at htc htr
      rw [← hr] at hcl
      have HST := hid (one_step (f := f) htr hr.symm hpm hqm)
      obtain ⟨g, off, ak, ck, rfl, c1, i1⟩ := HI6.out.cell htc
      rw [hcl] at c1 i1
      obtain ⟨R, hR⟩ := ex_eq (classF m f r).length
      rw [← hR] at c1
      have hRm : R ≤ m := by rw [hR]; exact class_len _ _ _
      obtain ⟨ra, hra⟩ := ex_eq (decide ((p : Int) ∈ classF m f r))
      obtain ⟨rb, hrb⟩ := ex_eq (decide ((q : Int) ∈ classF m f r))
      have C1 : Hid (Calls Try.prog 27 #[.slice ak R ck, .int .i64 p] wr fun e w' => e = .returned (.bool ra) ∧ w' = wr) := by
        show Calls _ _ _ _ _
        rw [hra, hR]; exact in_any ak ck (classF m f r) p wr (by omega) i1
      have C2 : Hid (Calls Try.prog 27 #[.slice ak R ck, .int .i64 q] wr fun e w' => e = .returned (.bool rb) ∧ w' = wr) := by
        show Calls _ _ _ _ _
        rw [hrb, hR]; exact in_any ak ck (classF m f r) q wr (by omega) i1
      have HRA : Hid (ra = true ↔ (p : Int) ∈ classF m f r) := by rw [hra]; exact decide_eq_true_iff
      have HRB : Hid (rb = true ↔ (q : Int) ∈ classF m f r) := by rw [hrb]; exact decide_eq_true_iff
      have q1 : (t : Int) < (X : Int) := by omega
      have q2 : (0 : Int) ≤ (t : Int) := by omega
      clear hr hcl i1 hR hra hrb
      cases o with
      | true =>
        have HNX : Hid (OneIs m f p q (t + 1) true) := ⟨fun _ => HST.out.2 (Or.inl (ho.out.1 rfl)), fun _ => rfl⟩
        clear C1 C2
        go_wp2
        go_roundg (X - (t + 1))
        case measure => omega
        case rel => exact ⟨t + 1, true, by omega, Nat.le_refl _, rfl, by go_num, HNX, rfl⟩
      | false =>
        have hno : ¬ ∃ j, ∃ h : j < (repsF m f).length, j < t ∧ f p = (repsF m f)[j] ∧ f q = (repsF m f)[j] := fun h => by have := ho.out.2 h; cases this
        have HNO := hid hno
        clear hno ho
        cases ra with
        | false =>
          have HNX : Hid (OneIs m f p q (t + 1) false) := ⟨fun h => (by cases h), fun h => by
            rcases HST.out.1 h with h | h
            · exact absurd h HNO.out
            · exact HRA.out.2 h.1⟩
          clear C2
          go_wp2_with fail
          refine C1.out.mono ?_
          rintro e w7 ⟨rfl, hw7⟩
          rw [hw7]
          go_wp2
          go_roundg (X - (t + 1))
          case measure => omega
          case rel => exact ⟨t + 1, false, by omega, Nat.le_refl _, rfl, by go_num, HNX, rfl⟩
        | true =>
          have HNX : Hid (OneIs m f p q (t + 1) rb) := ⟨fun h => HST.out.2 (Or.inr ⟨HRA.out.1 rfl, HRB.out.1 h⟩), fun h => by
            rcases HST.out.1 h with h | h
            · exact absurd h HNO.out
            · exact HRB.out.2 h.2⟩
          go_wp2_with fail
          refine C1.out.mono ?_
          rintro e w7 ⟨rfl, hw7⟩
          rw [hw7]
          go_wp2_with fail
          refine C2.out.mono ?_
          rintro e w8 ⟨rfl, hw8⟩
          rw [hw8]
          go_wp2
          go_roundg (X - (t + 1))
          case measure => omega
          case rel => exact ⟨t + 1, rb, by omega, Nat.le_refl _, rfl, by go_num, HNX, rfl⟩
    · obtain rfl : t = X := by omega
      have hoo : o = true ↔ f p = f q := by
        constructor
        · intro e
          obtain ⟨j, h, _, h1, h2⟩ := ho.out.1 e
          rw [h1, h2]
        · intro e
          obtain ⟨j, h, _, h1, h2⟩ := (one_all HPT.out (q := q) hpm).2 e
          exact ho.out.2 ⟨j, h, by rw [← HXL.out]; exact h, h1, h2⟩
      cases o with
      | true =>
        have hYX := HYL.out.1 (hoo.1 rfl)
        subst hYX
        clear ho hoo
        go_wp2
        go_ret
        exact ⟨rfl, by rw [← HB0.out]; exact HB6.out⟩
      | false =>
        have hYX := HYL.out.2 (fun e => by have := hoo.2 e; cases this)
        have e1 : (t : Int) - 1 = (Y : Int) := by omega
        have e2 : IntKind.i64.wrap (Y : Int) = (Y : Int) := by rw [IntKind.wrap_i64]; omega
        clear ho hoo
        go_wp2
        go_ret
        exact ⟨rfl, by rw [← HB0.out]; exact HB6.out⟩
end Go.Proofs.Ythakjmfjbibbjaa
namespace Go.Proofs.Ythakjmfjbibbjaa

/-- Each number below n leads to one of its class, and rk falls on the way; of each class just one leads to itself. -/
structure Leads (n : Nat) (f L rk : Nat → Nat) : Prop where
  lt : ∀ a, a < n → L a < n
  cls : ∀ a, a < n → f (L a) = f a
  down : ∀ a, a < n → L a ≠ a → rk (L a) < rk a
  one : ∀ a b, a < n → b < n → L a = a → L b = b → f a = f b → a = b
theorem leads_new (n : Nat) : Leads n (fun i => i) (fun i => i) (fun _ => 0) := ⟨fun _ h => h, fun _ _ => rfl, fun _ _ h => absurd rfl h, fun _ _ _ _ _ _ h => h⟩
theorem Leads.top {n : Nat} {f L rk : Nat → Nat} (h : Leads n f L rk) : ∀ k a, rk a ≤ k → a < n → ∃ t, t < n ∧ L t = t ∧ f t = f a
  | 0, a, hk, ha => by
    by_cases e : L a = a
    · exact ⟨a, ha, e, rfl⟩
    · have := h.down a ha e; omega
  | k + 1, a, hk, ha => by
    by_cases e : L a = a
    · exact ⟨a, ha, e, rfl⟩
    · have := h.down a ha e
      obtain ⟨t, h1, h2, h3⟩ := h.top k (L a) (by omega) (h.lt a ha)
      exact ⟨t, h1, h2, h3.trans (h.cls a ha)⟩
/-- rt tells who stands for each one's class. -/
def Tops (n : Nat) (f L rt : Nat → Nat) : Prop := ∀ a, a < n → rt a < n ∧ L (rt a) = rt a ∧ f (rt a) = f a
theorem Leads.tops {n : Nat} {f L rk : Nat → Nat} (h : Leads n f L rk) : ∃ rt, Tops n f L rt := by
  have := Classical.axiomOfChoice (r := fun a t => a < n → t < n ∧ L t = t ∧ f t = f a) (fun a => by
    by_cases ha : a < n
    · obtain ⟨t, ht⟩ := h.top (rk a) a (Nat.le_refl _) ha; exact ⟨t, fun _ => ht⟩
    · exact ⟨0, fun h => absurd h ha⟩)
  exact this
theorem Tops.at {n : Nat} {f L rk rt : Nat → Nat} (h : Tops n f L rt) (hl : Leads n f L rk) {a t : Nat} (ha : a < n) (ht : t < n) (h1 : L t = t) (h2 : f t = f a) : t = rt a :=
  hl.one _ _ ht (h a ha).1 h1 (h a ha).2.1 (h2.trans (h a ha).2.2.symm)
theorem Tops.same {n : Nat} {f L rk rt : Nat → Nat} (h : Tops n f L rt) (hl : Leads n f L rk) {a b : Nat} (ha : a < n) (hb : b < n) : rt a = rt b ↔ f a = f b :=
  ⟨fun e => by rw [← (h a ha).2.2, ← (h b hb).2.2, e], fun e => h.at hl hb (h a ha).1 (h a ha).2.1 ((h a ha).2.2.trans e)⟩
/-- The way made shorter. -/
theorem Leads.halve {n : Nat} {f L rk : Nat → Nat} (h : Leads n f L rk) {a : Nat} (ha : a < n) (hne : L a ≠ a) : Leads n f (fun j => if j = a then L (L a) else L j) rk ∧ ∀ t, L t = t → (if t = a then L (L a) else L t) = t := by
  have hd := h.down a ha hne
  have hl := h.lt a ha
  have hll := h.lt _ hl
  have hrk : rk (L (L a)) < rk a := by
    by_cases e : L (L a) = L a
    · rw [e]; exact hd
    · exact Nat.lt_trans (h.down _ hl e) hd
  refine ⟨⟨fun j hj => ?_, fun j hj => ?_, fun j hj => ?_, fun i j hi hj => ?_⟩, fun t ht => ?_⟩
  · by_cases e : j = a
    · simp only [e, if_true]; exact hll
    · simp only [e, if_false]; exact h.lt j hj
  · by_cases e : j = a
    · simp only [e, if_true]; rw [h.cls _ hl, h.cls a ha]
    · simp only [e, if_false]; exact h.cls j hj
  · by_cases e : j = a
    · simp only [e, if_true]; intro _; exact hrk
    · simp only [e, if_false]; exact h.down j hj
  · by_cases e : i = a
    · subst e
      simp only [if_true]
      intro h1
      rw [h1] at hrk; omega
    · by_cases e2 : j = a
      · subst e2
        simp only [if_true, e, if_false]
        intro _ h1
        rw [h1] at hrk; omega
      · simp only [e, e2, if_false]; exact h.one i j hi hj
  · by_cases e : t = a
    · subst e; exact absurd ht hne
    · rw [if_neg e]; exact ht
/-- Two classes made one. -/
theorem Leads.join {n : Nat} {f L rk : Nat → Nat} (h : Leads n f L rk) {a b s t : Nat} (hs : s < n) (ht : t < n) (lt : L t = t) (fs : f s = f a) (ft : f t = f b) (hne : f a ≠ f b) :
    Leads n (joinF f a b) (fun j => if j = t then s else L j) (fun j => if f j = f t then rk j + rk s + 1 else rk j) := by
  have hst : s ≠ t := fun e => hne (by rw [← fs, ← ft, e])
  have hfst : f s ≠ f t := by rw [fs, ft]; exact hne
  refine ⟨fun j hj => ?_, fun j hj => ?_, fun j hj => ?_, fun i j hi hj => ?_⟩
  · by_cases e : j = t
    · simp only [e, if_true]; exact hs
    · simp only [e, if_false]; exact h.lt j hj
  · by_cases e : j = t
    · simp only [e, if_true]
      exact (joinF_same _ _ _ _ _).2 (Or.inr (Or.inl ⟨fs, ft⟩))
    · simp only [e, if_false]
      exact (joinF_same _ _ _ _ _).2 (Or.inl (h.cls j hj))
  · by_cases e : j = t
    · subst e
      simp only [if_true, hfst, if_false]
      intro _; omega
    · simp only [e, if_false]
      intro hlj
      have hd := h.down j hj hlj
      have hc := h.cls j hj
      rw [hc]
      by_cases e2 : f j = f t
      · simp only [e2, if_true]; omega
      · simp only [e2, if_false]; exact hd
  · by_cases e : i = t
    · simp only [e, if_true]; intro h1; exact absurd h1 hst
    · by_cases e2 : j = t
      · simp only [e2, if_true]; intro _ h1; exact absurd h1 hst
      · simp only [e, e2, if_false]
        intro h1 h2 h3
        rcases (joinF_same _ _ _ _ _).1 h3 with h4 | ⟨h4, h5⟩ | ⟨h4, h5⟩
        · exact h.one i j hi hj h1 h2 h4
        · exact absurd (h.one j t hj ht h2 lt (h5.trans ft.symm)) e2
        · exact absurd (h.one i t hi ht h1 lt (h4.trans ft.symm)) e
theorem cntF_join {n : Nat} {f : Nat → Nat} (h : Pt n f) {a b : Nat} (ha : a < n) (hb : b < n) (hne : f a ≠ f b) : cntF f n = cntF (joinF f a b) n + 1 := reps_join h ha hb hne
theorem cntF_new (n : Nat) : cntF (fun i => i) n = n := by
  unfold cntF
  rw [List.filter_eq_self.2 (fun i _ => by simp)]
  simp
end Go.Proofs.Ythakjmfjbibbjaa
namespace Go.Proofs.Ythakjmfjbibbjaa
open Go.RowKit Go.Lib

/-- A part of the program's: a variable with a row of leads, and how many classes there are. -/
structure LAt (w : World) (b g n : Nat) (L : Nat → Nat) (c : Nat) : Prop where
  box : w.cell? ⟨b, 0, none⟩ = some (.slice (some ⟨g, 0, none⟩) n n)
  cnt : w.cell? ⟨b, 1, none⟩ = some (.int .i64 c) ∧ w.frozen? ⟨b, 1, none⟩ = false
  row : Row1 w g n (fun i => (L i : Int))
  ne : g ≠ b
theorem LAt.kept {S : Nat → Prop} {w w' : World} {b g n : Nat} {L : Nat → Nat} {c : Nat} (h : LAt w b g n L c) (hk : KeptBut S w w') (hb : ¬ S b) (hg : ¬ S g) : LAt w' b g n L c := by
  have hlt := block_lt_of_cell h.box
  refine ⟨(hk.cell (p := ⟨b, 0, none⟩) hlt hb).trans h.box, ⟨(hk.cell (p := ⟨b, 1, none⟩) hlt hb).trans h.cnt.1, (hk.frozen (p := ⟨b, 1, none⟩) hlt hb).trans h.cnt.2⟩, ?_, h.ne⟩
  exact ⟨Nat.lt_of_lt_of_le h.row.1 hk.size, fun j hj => ⟨(hk.cell (p := ⟨g, j, none⟩) h.row.1 hg).trans (h.row.2 j hj).1, (hk.frozen (p := ⟨g, j, none⟩) h.row.1 hg).trans (h.row.2 j hj).2⟩⟩
theorem LAt.put {w : World} {b g n : Nat} {L : Nat → Nat} {c : Nat} (h : LAt w b g n L c) {i : Nat} (hi : i < n) (x : Nat) : LAt (w.setCell ⟨g, i, none⟩ (.int .i64 x)) b g n (fun j => if j = i then x else L j) c := by
  have ho : ∀ q, (w.setCell ⟨g, i, none⟩ (.int .i64 x)).cell? ⟨b, q, none⟩ = w.cell? ⟨b, q, none⟩ := fun q => World.cell?_setCell_other _ _ _ _ (fun e => h.ne (congrArg Addr.block e))
  exact ⟨(ho 0).trans h.box, ⟨(ho 1).trans h.cnt.1, by rw [World.frozen?_setCell]; exact h.cnt.2⟩, (h.row.put hi (x : Int)).congr (fun j _ => by by_cases e : j = i <;> simp [e]), h.ne⟩
theorem LAt.congr {w : World} {b g n : Nat} {L L' : Nat → Nat} {c : Nat} (h : LAt w b g n L c) (e : ∀ j, j < n → L j = L' j) : LAt w b g n L' c := ⟨h.box, h.cnt, h.row.congr (fun j hj => by rw [e j hj]), h.ne⟩
theorem LAt.at {w : World} {b g n : Nat} {L : Nat → Nat} {c : Nat} (h : LAt w b g n L c) {k : Nat} (hk : k < n) : w.cell? ⟨g, k, none⟩ = some (.int .i64 (L k)) ∧ w.frozen? ⟨g, k, none⟩ = false := h.row.2 k hk
theorem LAt.drew {w : World} {b g n : Nat} {L : Nat → Nat} {c : Nat} (h : LAt w b g n L c) : LAt w.drew b g n L c := ⟨h.box, h.cnt, h.row, h.ne⟩

/-- A part of the program's with its classes f, and who stands for each. -/
def PX (w : World) (b g n : Nat) (f rt : Nat → Nat) (c : Nat) : Prop := ∃ L rk, LAt w b g n L c ∧ Leads n f L rk ∧ Tops n f L rt
theorem PX.kept {S : Nat → Prop} {w w' : World} {b g n : Nat} {f rt : Nat → Nat} {c : Nat} (h : PX w b g n f rt c) (hk : KeptBut S w w') (hb : ¬ S b) (hg : ¬ S g) : PX w' b g n f rt c := by
  obtain ⟨L, rk, h1, h2, h3⟩ := h
  exact ⟨L, rk, h1.kept hk hb hg, h2, h3⟩
/-- What head leaves. -/
def HeadIs (b g n : Nat) (f rt : Nat → Nat) (c : Nat) (w w' : World) : Prop := PX w' b g n f rt c ∧ KeptBut (fun k => k = g) w w' ∧ w'.heap.size = w.heap.size

set_option maxHeartbeats 400000 in
theorem has_p (b : Nat) (a : Option Addr) (n cap : Nat) (x : Int) (r : Bool) (w : World) (c0 : w.cell? ⟨b, 0, none⟩ = some (.slice a n cap)) (hr : r = decide (0 ≤ x ∧ x < n)) :
    Calls Try.prog 28 #[.pointer (some ⟨b, 0, none⟩), .int .i64 x] w fun e w' => e = .returned (.bool r) ∧ w' = w := by
  by_cases h : 0 ≤ x
  · by_cases h2 : x < n
    · rw [decide_eq_true (by omega)] at hr
      subst hr
      go_enter Try.func28, Try.ntmps28
      go_wp2
      go_ret
      exact ⟨rfl, rfl⟩
    · rw [decide_eq_false (by omega)] at hr
      subst hr
      go_enter Try.func28, Try.ntmps28
      go_wp2
      go_ret
      exact ⟨rfl, rfl⟩
  · rw [decide_eq_false (by omega)] at hr
    subst hr
    go_enter Try.func28, Try.ntmps28
    go_wp2
    go_ret
    exact ⟨rfl, rfl⟩

set_option maxHeartbeats 2000000 in
set_option maxRecDepth 100000 in
theorem head_any (b g n : Nat) (f rt : Nat → Nat) (c a : Nat) (w : World) (ha : a < n) (h : PX w b g n f rt c) :
    Calls Try.prog 29 #[.pointer (some ⟨b, 0, none⟩), .int .i64 a] w fun e w' => e = .returned (.int .i64 (rt a)) ∧ HeadIs b g n f rt c w w' := by
  obtain ⟨L0, rk, hL0, hl0, ht0⟩ := h
  have H0 := hid (show LAt w b g n L0 c ∧ Leads n f L0 rk ∧ Tops n f L0 rt from ⟨hL0, hl0, ht0⟩)
  clear hL0 hl0 ht0
  go_enter Try.func29, Try.ntmps29
  go_wp2
  go_loopg [1] (rk a) (fun G i wz => ∃ (k : Nat) (L : Nat → Nat), k < n ∧ i = .int .i64 k ∧ Hid (rk k ≤ G) ∧ Hid (f k = f a) ∧ Hid (LAt wz b g n L c ∧ Leads n f L rk ∧ Tops n f L rt) ∧ Hid (KeptBut (fun k => k = g) w wz ∧ wz.heap.size = w.heap.size))
  case atStart => exact ⟨a, L0, ha, rfl, Nat.le_refl _, rfl, H0, KeptBut.refl _ _, rfl⟩
  case round =>
    obtain ⟨k, L, hk, rfl, hG, hf, hL, hkp⟩ := hrel
    have c0 := hL.out.1.box
    obtain ⟨ck, fk⟩ := hL.out.1.at hk
    obtain ⟨l, hl⟩ := ex_eq (L k)
    rw [← hl] at ck
    have hln : l < n := by rw [hl]; exact hL.out.2.1.lt k hk
    have q1 : (k : Int) < (n : Int) := by omega
    have q2 : (l : Int) < (n : Int) := by omega
    by_cases he : l = k
    · have HT : Hid ((k : Int) = (rt a : Nat)) := by
        show (k : Int) = (rt a : Nat)
        rw [hL.out.2.2.at hL.out.2.1 ha hk (hl.symm.trans he) hf.out]
      subst he
      have HX : Hid (HeadIs b g n f rt c w wr) := ⟨⟨L, rk, hL.out⟩, hkp.out.1, hkp.out.2⟩
      clear hl hG hf hL hkp
      go_wp2
      go_ret
      exact ⟨by rw [HT.out]; rfl, HX.out⟩
    · have he2 : ((l : Int) == (k : Int)) = false := beq_eq_false_iff_ne.2 (by omega)
      obtain ⟨m, hm⟩ := ex_eq (L l)
      have cl := (hL.out.1.at hln).1
      rw [← hm] at cl
      have hmn : m < n := by rw [hm]; exact hL.out.2.1.lt l hln
      have hdn := hL.out.2.1.down k hk (by rw [← hl]; exact he)
      have hh := hL.out.2.1.halve hk (by rw [← hl]; exact he)
      rw [← hl, ← hm] at hh
      have hrk : Hid (rk m < rk k) := by
        show rk m < rk k
        by_cases e : m = l
        · rw [e, hl]; exact hdn
        · have := hL.out.2.1.down l hln (by rw [← hm]; exact e); rw [← hm] at this; rw [← hl] at hdn; omega
      obtain ⟨W, hW⟩ := ex_eq (wr.setCell ⟨g, k, none⟩ (.int .i64 m)).drew
      have HNX : Hid (LAt W b g n (fun j => if j = k then m else L j) c ∧ Leads n f (fun j => if j = k then m else L j) rk ∧ Tops n f (fun j => if j = k then m else L j) rt) := by
        refine ⟨by rw [hW]; exact (hL.out.1.put hk m).drew, hh.1, fun x hx => ⟨(hL.out.2.2 x hx).1, hh.2 _ (hL.out.2.2 x hx).2.1, (hL.out.2.2 x hx).2.2⟩⟩
      have HFX : Hid (f m = f a) := by show f m = f a; rw [hm, hL.out.2.1.cls l hln, hl, hL.out.2.1.cls k hk, hf.out]
      have HKX : Hid (KeptBut (fun k => k = g) w W ∧ W.heap.size = w.heap.size) := by
        refine ⟨(hkp.out.1.trans (kept_set wr ⟨g, k, none⟩ (.int .i64 m))).trans (by rw [hW]; exact KeptBut.of_whole _ (Below.refl _ _).drew), ?_⟩
        rw [hW]; exact (by simp : (wr.setCell ⟨g, k, none⟩ (.int .i64 m)).heap.size = wr.heap.size).trans hkp.out.2
      have HW := hid hW
      have d0 := HNX.out.1.box
      have dk : W.cell? ⟨g, k, none⟩ = some (.int .i64 m) := by
        have := (HNX.out.1.at hk).1
        rw [if_pos rfl] at this
        exact this
      clear hl hm hf hL hkp hh hdn hW
      go_wp2_with fail
      go_region
      all_goals
        rw [← HW.out]
        go_wp2
        go_roundg (rk m)
        case measure => exact Nat.lt_of_lt_of_le hrk.out hG.out
        case rel => exact ⟨m, _, hmn, rfl, Nat.le_refl _, HFX, HNX, HKX⟩
end Go.Proofs.Ythakjmfjbibbjaa
