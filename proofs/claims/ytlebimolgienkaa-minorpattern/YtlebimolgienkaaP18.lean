/-
  The document's Rows and Has (layer 8).
  The law MinorTrue.
  The document's Induced (layer 6).
  The document's Pattern (H1, layer 8).
-/
import Derived.Test.YtlebimolgienkaaP17
import Derived.Test.YtlebimolgienkaaP02
import Derived.Test.YtlebimolgienkaaP03
import Derived.Test.YtlebimolgienkaaP14
import Derived.Test.YtlebimolgienkaaP15
import Derived.Lib.Walk
import Derived.Test.YtlebimolgienkaaP04
import Derived.Deep.LoopGhost
import Derived.Test.YtlebimolgienkaaP06
import Derived.BigQuiet
import Derived.Test.YtlebimolgienkaaP12
namespace Go.Proofs.Ytlebimolgienkaa
open Go.RowKit Go.Lib

/-- The rows of the first edges. -/
def RoTo (es : List (Int × Int)) (m i : Nat) (xs : Nat → Nat) : Prop := ∀ v, v < m → xs v < 256 ∧ ∀ b : Nat, (xs v).testBit b = true ↔ ∃ e ∈ es.take i, (e.1 = (v : Int) ∧ e.2 = (b : Int)) ∨ (e.1 = (b : Int) ∧ e.2 = (v : Int))
theorem RoTo.put {es : List (Int × Int)} {m i p q : Nat} {xs : Nat → Nat} (h : RoTo es m i xs) (hi : i < es.length) (hp : (p : Int) = es[i].1) (hq : (q : Int) = es[i].2) (hpq : p < q) (hqm : q < m) (hm : m ≤ 8) :
    RoTo es m (i + 1) (fun j => if j = q then xs q ||| 2 ^ p else if j = p then xs p ||| 2 ^ q else xs j) := fun v hv => by
  obtain ⟨h1, h2⟩ := h v hv
  have hex : ∀ b : Nat, (∃ e ∈ es.take (i + 1), (e.1 = (v : Int) ∧ e.2 = (b : Int)) ∨ (e.1 = (b : Int) ∧ e.2 = (v : Int))) ↔ ((xs v).testBit b = true ∨ (v = p ∧ b = q) ∨ (v = q ∧ b = p)) := fun b => by
    rw [h2 b, ← List.take_append_getElem hi]
    constructor
    · rintro ⟨e, he, hh⟩
      rcases List.mem_append.1 he with he | he
      · exact Or.inl ⟨e, he, hh⟩
      · simp at he
        subst he
        rw [← hp, ← hq] at hh
        omega
    · rintro (⟨e, he, hh⟩ | hh)
      · exact ⟨e, List.mem_append_left _ he, hh⟩
      · refine ⟨es[i], List.mem_append_right _ (by simp), ?_⟩
        rw [← hp, ← hq]
        omega
  by_cases e1 : v = q
  · subst e1
    refine ⟨?_, fun b => ?_⟩
    · dsimp only; rw [if_pos rfl]; exact or_lt8 h1 (pow8' (by omega))
    · rw [hex b]
      dsimp only
      rw [if_pos rfl]
      rw [Nat.testBit_or, Bool.or_eq_true, Nat.testBit_two_pow, decide_eq_true_eq]
      constructor
      · rintro (h | h)
        · exact Or.inl h
        · exact Or.inr (Or.inr ⟨rfl, h.symm⟩)
      · rintro (h | h | h)
        · exact Or.inl h
        · omega
        · exact Or.inr h.2.symm
  · by_cases e2 : v = p
    · subst e2
      refine ⟨?_, fun b => ?_⟩
      · dsimp only; rw [if_neg e1, if_pos rfl]; exact or_lt8 h1 (pow8' (by omega))
      · rw [hex b]
        dsimp only
        rw [if_neg e1, if_pos rfl]
        rw [Nat.testBit_or, Bool.or_eq_true, Nat.testBit_two_pow, decide_eq_true_eq]
        constructor
        · rintro (h | h)
          · exact Or.inl h
          · exact Or.inr (Or.inl ⟨rfl, h.symm⟩)
        · rintro (h | h | h)
          · exact Or.inl h
          · exact Or.inr h.2.symm
          · omega
    · refine ⟨?_, fun b => ?_⟩
      · dsimp only; rw [if_neg e1, if_neg e2]; exact h1
      · rw [hex b]
        dsimp only
        rw [if_neg e1, if_neg e2]
        constructor
        · exact Or.inl
        · rintro (h | h | h)
          · exact h
          · exact absurd h.1 e2
          · exact absurd h.1 e1
theorem RoTo.rows {es : List (Int × Int)} {m : Nat} {xs : Nat → Nat} (h : RoTo es m es.length xs) (hR : RightG m es) : RowsOf ((List.range m).map xs) m (fun a b => Adj es (a : Int) (b : Int)) ∧ Sm ((List.range m).map xs) := by
  refine ⟨⟨by simp, fun a b ha => ?_, fun a b hab => hab.symm, fun a ha => (ha.in hR).2.2 rfl⟩, fun x hx => ?_⟩
  · rw [getD_map0 _ _ (by simpa using ha), List.getD_eq_getElem?_getD, List.getElem?_range ha]
    show (xs a).testBit b = true ↔ _
    rw [(h a ha).2 b, List.take_length]
    constructor
    · rintro ⟨e, he, hh⟩
      have hr := hR.2.2.2.1 e he
      obtain ⟨e1, e2⟩ := e
      simp only at hh hr
      rcases hh with ⟨rfl, rfl⟩ | ⟨rfl, rfl⟩
      · exact ⟨by omega, Or.inl he⟩
      · exact ⟨by omega, Or.inr he⟩
    · rintro ⟨_, hh | hh⟩
      · exact ⟨_, hh, Or.inl ⟨rfl, rfl⟩⟩
      · exact ⟨_, hh, Or.inr ⟨rfl, rfl⟩⟩
  · obtain ⟨i, hi, rfl⟩ := List.mem_map.1 hx
    exact (h i (List.mem_range.1 hi)).1
set_option maxHeartbeats 16000000 in
set_option maxRecDepth 100000 in
theorem rowsB_any (m : Nat) (a : Option Addr) (cap : Nat) (es : List (Int × Int)) (w : World) (hm : m ≤ 8) (hR : RightG m es) (hE : EAt w a es) :
    Calls Try.prog 63 #[.agg #[.int .i64 m, .slice a es.length cap]] w fun e w' => ∃ g r, e = .returned (.slice (some ⟨g, 0, none⟩) m m) ∧ IAt w' (some ⟨g, 0, none⟩) (ints r) ∧ (RowsOf r m (fun a b => Adj es (a : Int) (b : Int)) ∧ Sm r) ∧ Below w.heap.size w w' := by
  obtain ⟨i0, hi0, hz0, hz1, hz2⟩ := info_parts Try.info3
  obtain ⟨N, hNe⟩ := ex_eq es.length
  obtain ⟨b0, hb0⟩ := ex_eq w.heap.size
  obtain ⟨W1, hW1⟩ := ex_eq (w.alloc (.cells #[.int .i64 m, .slice a N cap] 26))
  have hO := heap_alloc_new w (.cells #[.int .i64 m, .slice a N cap] 26)
  have hb1 : Below w.heap.size w W1 := by rw [hW1]; exact (Below.refl _ _).alloc (Nat.le_refl _) _
  rw [← hW1] at hO
  have hbl : w.heap.size < W1.heap.size := (Array.getElem?_eq_some_iff.1 hO).1
  obtain ⟨D, hD⟩ := ex_eq W1.heap.size
  obtain ⟨w2, hrun, hown, hgrow⟩ := run_make_full (P := Try.prog) W1 D 28 3 i0 (.int .i64 0) 1 Try.underlying28 hi0 hz0 hz1 .i64 .i64 m (by rw [hz2]; omega) (by unfold maxLen; omega) (by omega)
  rw [← hD] at hrun hown
  have hb2 : Below D W1 w2 := by rw [hD]; exact Below.grown (Below.refl _ _) hgrow (Nat.le_refl _) (fun k hk => by cases hk)
  have hs2 : D < w2.heap.size := by
    rcases hown.2 with ⟨hv, _⟩ | ⟨g', cap', cur, hv, _, hgb, _⟩
    · simp at hv
    · simp only [Value.slice.injEq, Option.some.injEq, Addr.mk.injEq, and_true, true_and] at hv
      obtain ⟨rfl, _⟩ := hv
      exact (Array.getElem?_eq_some_iff.1 hgb).1
  have HRW : Hid (∃ xs : Nat → Nat, Row1 w2 D m (fun v => ((xs v : Nat) : Int)) ∧ RoTo es m 0 xs) := ⟨fun _ => 0, (row1_made hown hs2).congr (fun j _ => by simp), fun v _ => ⟨by show (0 : Nat) < 256; omega, fun b => by simp⟩⟩
  have HX : Hid (∀ X, Below D W1 X → X.cell? ⟨b0, 0, none⟩ = some (.int .i64 m) ∧ X.cell? ⟨b0, 1, none⟩ = some (.slice a N cap) ∧ EAt X a es ∧ Below w.heap.size w X) := fun X hX => by
    rw [hD] at hX
    have o := (hX.block w.heap.size hbl).trans hO
    have hb := hb1.trans (hX.mono (by omega))
    rw [hb0]
    exact ⟨cell_of_heap o 0, cell_of_heap o 1, hE.below hb, hb⟩
  have hN4 : N ≤ 4000 := by have := hR.2.2.1; omega
  have HB2 := hid hb2
  have HW1 := hid hW1
  have HB0 := hid hb0
  have HN := hid hNe
  have HR := hid hR
  obtain ⟨c0, c1, _, _⟩ := HX.out W1 (Below.refl _ _)
  rw [← hNe]
  clear hNe hE hR hb0 hW1 hO hb1 hbl hD hown hgrow hb2 hs2
  go_enter Try.func63, Try.ntmps63
  go_upto_region 1 with fail
  rw [← HB0.out]
  rw [← HW1.out]
  go_wp2
  clear hrun c0 c1
  go_loopg [4] N (fun G i wz => ∃ t : Nat, t ≤ N ∧ N - t ≤ G ∧ i = .int .i64 t ∧ Hid (∃ xs : Nat → Nat, Row1 wz D m (fun v => ((xs v : Nat) : Int)) ∧ RoTo es m t xs) ∧ Hid (Below D W1 wz))
  case atStart => exact ⟨0, Nat.zero_le _, by omega, rfl, HRW, HB2⟩
  case round =>
    clear HRW
    obtain ⟨t, ht, hG, rfl, hst, hbz⟩ := hrel
    obtain ⟨xs, hrow, hro⟩ := hst.out
    obtain ⟨c0, c1, hE, _⟩ := HX.out wr hbz.out
    by_cases hlt : t < N
    · have htr : t < es.length := by rw [← HN.out]; exact hlt
      obtain ⟨g, off, rfl, hg, hcs⟩ := hE (by omega)
      obtain ⟨d0, d1⟩ := hcs t htr
      have hin := HR.out.2.2.2.1 _ (List.getElem_mem htr)
      obtain ⟨p, hp⟩ : ∃ p : Nat, (p : Int) = es[t].1 := ⟨es[t].1.toNat, by omega⟩
      obtain ⟨q, hq⟩ : ∃ q : Nat, (q : Int) = es[t].2 := ⟨es[t].2.toNat, by omega⟩
      rw [← hp] at d0
      rw [← hq] at d1
      rw [← hp, ← hq] at hin
      have i1 : p < q := by omega
      have i2 : q < m := by omega
      have hput := hro.put htr hp hq i1 i2 hm
      obtain ⟨x, hx⟩ := ex_eq (xs p)
      obtain ⟨y, hy⟩ := ex_eq (xs q)
      have x8 : x < 256 := by rw [hx]; exact (hro p (by omega)).1
      have y8 : y < 256 := by rw [hy]; exact (hro q i2).1
      obtain ⟨P, hP⟩ := ex_eq (2 ^ p)
      obtain ⟨Q, hQ⟩ := ex_eq (2 ^ q)
      have p8 : P < 256 := by rw [hP]; exact pow8' (by omega)
      have q8 : Q < 256 := by rw [hQ]; exact pow8' (by omega)
      obtain ⟨A, hA⟩ := ex_eq (x ||| Q)
      obtain ⟨B, hB⟩ := ex_eq (y ||| P)
      have s1 : IntKind.i64.wrap ((2 : Int) ^ p) = (P : Int) := by rw [hP]; exact pow8i (by omega)
      have s2 : IntKind.i64.wrap ((2 : Int) ^ q) = (Q : Int) := by rw [hQ]; exact pow8i (by omega)
      have s3 : bits .or .i64 (x : Int) (Q : Int) = (A : Int) := by rw [bor (by omega) (by omega), hA]
      have s4 : bits .or .i64 (y : Int) (P : Int) = (B : Int) := by rw [bor (by omega) (by omega), hB]
      obtain ⟨r1, r1f⟩ := hrow.2 p (by omega)
      rw [show (fun v : Nat => ((xs v : Nat) : Int)) p = (x : Int) from by rw [hx]] at r1
      have hr2 := hrow.put (i := p) (by omega) (A : Int)
      obtain ⟨r2, r2f⟩ := hr2.2 q i2
      rw [show (fun j => if j = p then (A : Int) else (fun v : Nat => ((xs v : Nat) : Int)) j) q = (y : Int) from by dsimp only; rw [if_neg (show ¬ q = p by omega), hy]] at r2
      have hr3 := hr2.put (i := q) i2 (B : Int)
      have HNX : Hid (∃ xs : Nat → Nat, Row1 ((wr.setCell ⟨D, p, none⟩ (.int .i64 (A : Int))).setCell ⟨D, q, none⟩ (.int .i64 (B : Int))) D m (fun v => ((xs v : Nat) : Int)) ∧ RoTo es m (t + 1) xs) := by
        refine ⟨_, hr3.congr (fun j hj => ?_), hput⟩
        show (if j = q then (B : Int) else if j = p then (A : Int) else ((xs j : Nat) : Int)) = ((if j = q then xs q ||| 2 ^ p else if j = p then xs p ||| 2 ^ q else xs j : Nat) : Int)
        by_cases e1 : j = q
        · rw [if_pos e1, if_pos e1, hB, hy, hP]
        · by_cases e2 : j = p
          · rw [if_neg e1, if_neg e1, if_pos e2, if_pos e2, hA, hx, hQ]
          · rw [if_neg e1, if_neg e1, if_neg e2, if_neg e2]
      have HBX : Hid (Below D W1 ((wr.setCell ⟨D, p, none⟩ (.int .i64 (A : Int))).setCell ⟨D, q, none⟩ (.int .i64 (B : Int)))) := (hbz.out.setCell (p := ⟨D, p, none⟩) (Nat.le_refl _) _).setCell (p := ⟨D, q, none⟩) (Nat.le_refl _) _
      have q1 : (t : Int) < (N : Int) := by omega
      have q2 : (0 : Int) ≤ (t : Int) := by omega
      have q3 : (p : Int) < (m : Int) := by omega
      have q4 : (q : Int) < (m : Int) := by omega
      have q5 : (0 : Int) ≤ (p : Int) := by omega
      have q6 : (0 : Int) ≤ (q : Int) := by omega
      clear hst hrow hro hE hcs hp hq hin hput hx hy hP hQ hA hB hr2 hr3 hg hbz c0
      go_wp2
      go_roundg (N - (t + 1))
      case measure => omega
      case rel => exact ⟨t + 1, by omega, Nat.le_refl _, by go_num, HNX, HBX⟩
    · obtain rfl : t = N := by omega
      have hro' := hro
      rw [HN.out] at hro'
      have h1 := hro'.rows HR.out
      have HF : Hid (IAt wr (some ⟨D, 0, none⟩) (ints ((List.range m).map xs))) := by
        have := hrow.iat
        show IAt _ _ _
        unfold ints
        rw [List.map_map]; exact this
      have HF2 := hid h1
      have HBX := hid (HX.out wr hbz.out).2.2.2
      clear hst hrow hro hro' h1 hE hbz c0
      go_wp2
      go_ret
      exact ⟨D, _, rfl, HF.out, HF2.out, HBX.out⟩
set_option maxHeartbeats 8000000 in
set_option maxRecDepth 100000 in
theorem has8_any (m : Nat) (a : Option Addr) (cap : Nat) (es : List (Int × Int)) (k : Int) (w : World) (hk : k = 1 ∨ k = 2) (hm : m ≤ 8) (hR : RightG m es) (hE : EAt w a es) :
    Calls Try.prog 30 #[.agg #[.int .i64 m, .slice a es.length cap], .int .i64 k] w fun e w' => ∃ r, e = .returned (.bool (comesN 8 r k)) ∧ (RowsOf r m (fun a b => Adj es (a : Int) (b : Int)) ∧ Sm r) ∧ Below w.heap.size w w' := by
  obtain ⟨N, hNe⟩ := ex_eq es.length
  obtain ⟨b0, hb0⟩ := ex_eq w.heap.size
  obtain ⟨W1, hW1⟩ := ex_eq (w.alloc (.cells #[.int .i64 m, .slice a N cap] 26))
  have hO := heap_alloc_new w (.cells #[.int .i64 m, .slice a N cap] 26)
  have hb1 : Below w.heap.size w W1 := by rw [hW1]; exact (Below.refl _ _).alloc (Nat.le_refl _) _
  rw [← hW1] at hO
  have hbl : w.heap.size < W1.heap.size := (Array.getElem?_eq_some_iff.1 hO).1
  have HX : Hid (∀ X, Below W1.heap.size W1 X → X.cell? ⟨b0, 0, none⟩ = some (.int .i64 m) ∧ X.cell? ⟨b0, 1, none⟩ = some (.slice a N cap) ∧ EAt X a es ∧ Below w.heap.size w X) := fun X hX => by
    have o := (hX.block w.heap.size hbl).trans hO
    have hb := hb1.trans (hX.mono (by omega))
    rw [hb0]
    exact ⟨cell_of_heap o 0, cell_of_heap o 1, hE.below hb, hb⟩
  have hE1 := (HX.out W1 (Below.refl _ _)).2.2.1
  have hlen : es.length ≤ 1000000 := by have := hR.2.2.1; omega
  have CR := hid (rright_any m a cap es true W1 hlen hE1 ⟨fun _ => hR, fun _ => rfl⟩)
  have CB : Hid (∀ X, Below W1.heap.size W1 X → Calls Try.prog 63 #[.agg #[.int .i64 m, .slice a N cap]] X fun e w' => ∃ g r, e = .returned (.slice (some ⟨g, 0, none⟩) m m) ∧ IAt w' (some ⟨g, 0, none⟩) (ints r) ∧ (RowsOf r m (fun a b => Adj es (a : Int) (b : Int)) ∧ Sm r) ∧ Below X.heap.size X w') := fun X hX => by
    rw [hNe]; exact rowsB_any m a cap es X hm hR (HX.out X hX).2.2.1
  rw [← hNe] at CR
  have CS : Hid (∀ X, Calls Try.prog 50 #[.int .i64 k] X fun e w' => e = .returned (.int .i64 (patN k : Nat)) ∧ w' = X) := fun X => size_any k X
  obtain ⟨K, hK⟩ := ex_eq (patN k)
  have hK4 : 4 ≤ K := by rw [hK]; unfold patN; rcases hk with rfl | rfl <;> decide
  rw [← hK] at CS
  have CC : Hid (∀ (X : World) (g : Nat) (r : List Nat), r.length = m → Sm r → IAt X (some ⟨g, 0, none⟩) (ints r) → Calls Try.prog 62 #[.slice (some ⟨g, 0, none⟩) m m, .int .i64 k] X fun e w' => e = .returned (.bool (comesN 8 r k)) ∧ Below X.heap.size X w') := fun X g r h1 h2 h3 => by
    have := comesB_any k hk 8 (some ⟨g, 0, none⟩) m r X (by omega) (by omega) h2 h3
    rw [h1] at this
    exact this
  have HW1 := hid hW1
  have HB0 := hid hb0
  have q1 : ¬ (8 : Int) < (m : Int) := by omega
  have q2 : decide ((m : Int) > 8) = false := decide_eq_false (by omega)
  have q3 : decide ((8 : Int) < (m : Int)) = false := decide_eq_false (by omega)
  have q4 : ((K : Int) == 0) = false := by simp; omega
  obtain ⟨c0, c1, _, _⟩ := HX.out W1 (Below.refl _ _)
  rw [← hNe]
  clear hNe hE hR hb0 hW1 hO hb1 hbl hE1 hlen hK
  go_enter Try.func30, Try.ntmps30
  go_upto_region 1 with fail
  rw [← HB0.out]
  rw [← HW1.out]
  go_wp2_with fail
  refine CR.out.mono ?_
  rintro e w2 ⟨rfl, hb2⟩
  obtain ⟨d0, d1, _, _⟩ := HX.out w2 hb2
  have HB2 := hid hb2
  clear c0 c1 CR hb2
  go_wp2_with fail
  refine (CS.out w2).mono ?_
  rintro e w3 ⟨rfl, hw3⟩
  rw [hw3]
  clear hw3 CS
  go_wp2_with fail
  refine (CB.out w2 HB2.out).mono ?_
  rintro e w4 ⟨g, r, rfl, hI, hrs, hb4⟩
  have C := CC.out w4 g r hrs.1.len hrs.2 hI
  obtain ⟨R, hRR⟩ := ex_eq (comesN 8 r k)
  rw [← hRR] at C
  have HC := hid C
  have HRR := hid hRR
  have HRS := hid hrs
  have HB4 : Hid (Below W1.heap.size W1 w4) := HB2.out.trans (hb4.mono HB2.out.size)
  clear hI hrs hb4 C hRR CB CC d0 d1
  go_wp2_with fail
  refine HC.out.mono ?_
  rintro e w5 ⟨rfl, hb5⟩
  have HF := hid (HX.out w5 (HB4.out.trans (hb5.mono HB4.out.size))).2.2.2
  clear hb5 HC
  go_wp2
  go_ret
  exact ⟨r, (by rw [← HRR.out]; rfl), HRS.out, HF.out⟩
end Go.Proofs.Ytlebimolgienkaa
namespace Go.Proofs.Ytlebimolgienkaa
open Go.RowKit Go.Lib

/-- A model by each vertex's place. -/
theorem model_mod {m : Nat} {es : List (Int × Int)} {k : Int} {Ss : List (List Int)} (h : ModelL m es k Ss) : ∃ f, ModA m (fun a b => Adj es (a : Int) (b : Int)) k f := by
  obtain ⟨D, hD⟩ := home_ex h
  have hl := h.len
  have hf : ∀ v i : Nat, v < m → i < patN k → ((if 0 ≤ D v ∧ D v < patN k then (D v).toNat else patN k) = i ↔ (v : Int) ∈ Ss.getD i []) := fun v i hv hi => by
    rw [← hD v (by omega) (by omega) i (by omega)]
    split <;> omega
  have hin : ∀ i x, x ∈ Ss.getD i [] → 0 ≤ x ∧ x < (m : Int) := h.inn
  refine ⟨fun v => if 0 ≤ D v ∧ D v < patN k then (D v).toNat else patN k, fun i hi => ?_, fun u v hu hv he hp S h0 hst => ?_, fun e he => ?_⟩
  · have hne := (h.whole _ (getD_mem (by omega : i < Ss.length))).ne
    obtain ⟨x, hx⟩ := List.exists_mem_of_ne_nil _ hne
    have := hin i x hx
    refine ⟨x.toNat, by omega, (hf x.toNat i (by omega) hi).2 ?_⟩
    rw [show ((x.toNat : Nat) : Int) = x by omega]; exact hx
  · try simp only at he hp
    obtain ⟨i, hi⟩ := ex_eq (if 0 ≤ D u ∧ D u < patN k then (D u).toNat else patN k)
    rw [← hi] at he hp
    have hui := (hf u i hu hp).1 hi.symm
    have hvi := (hf v i hv hp).1 he.symm
    have := (h.whole _ (getD_mem (by omega : i < Ss.length))).one _ hui _ hvi (fun z => 0 ≤ z ∧ z ∈ Ss.getD i [] ∧ S z.toNat) ⟨by omega, hui, by simpa using h0⟩ (fun x y hx ha hy => by
      have hxi := hin i x hx.2.1
      have hyi := hin i y hy
      refine ⟨hyi.1, hy, hst x.toNat y.toNat hx.2.2 (by omega) (by omega) ?_ ?_ ?_⟩
      · try simp only
        rw [← hi]
        refine (hf x.toNat i (by omega) hp).2 ?_
        rw [show ((x.toNat : Nat) : Int) = x by omega]; exact hx.2.1
      · try simp only
        rw [← hi]
        refine (hf y.toNat i (by omega) hp).2 ?_
        rw [show ((y.toNat : Nat) : Int) = y by omega]; exact hy
      · rw [show ((x.toNat : Nat) : Int) = x by omega, show ((y.toNat : Nat) : Int) = y by omega]; exact ha)
    simpa using this.2.2
  · obtain ⟨x, y, hx, hy, ha⟩ := h.meet e he
    have hp := patE_in he
    unfold setAt at hx hy
    have hxi := hin _ x hx
    have hyi := hin _ y hy
    refine ⟨x.toNat, y.toNat, by omega, by omega, ?_, ?_, ?_⟩
    · have := (hf x.toNat e.1.toNat (by omega) (by omega)).2 (by rw [show ((x.toNat : Nat) : Int) = x by omega]; exact hx)
      try simp only
      rw [this]; omega
    · have := (hf y.toNat e.2.toNat (by omega) (by omega)).2 (by rw [show ((y.toNat : Nat) : Int) = y by omega]; exact hy)
      try simp only
      rw [this]; omega
    · rw [show ((x.toNat : Nat) : Int) = x by omega, show ((y.toNat : Nat) : Int) = y by omega]; exact ha
theorem model_comes {m : Nat} {es : List (Int × Int)} {k : Int} {Ss : List (List Int)} {r : List Nat} (h : ModelL m es k Ss) (hm : m ≤ 8) (hr : RowsOf r m (fun a b => Adj es (a : Int) (b : Int))) : comesN 8 r k = true := by
  obtain ⟨f, hf⟩ := model_mod h
  exact comes_of h.kind 8 r m _ f hr hf (by omega)
end Go.Proofs.Ytlebimolgienkaa
namespace Go.Proofs.Ytlebimolgienkaa
open Go.RowKit Go.Lib

/-- A graph's edges are put behind each other in its variable. -/
structure EAcc (w : World) (B : Nat) (m : Int) (sv : Value) (es : List (Int × Int)) : Prop where
  box : w.heap[B]? = some (.cells #[.int .i64 m, sv] 26 (0, 0))
  own : w.ownsRow (B + 1) 56 2 sv es.length (cellsE es)
theorem EAcc.below {w w' : World} {B : Nat} {m : Int} {sv : Value} {es : List (Int × Int)} (h : EAcc w B m sv es) (hb : Below w.heap.size w w') : EAcc w' B m sv es :=
  ⟨(hb.block B (Array.getElem?_eq_some_iff.1 h.box).1).trans h.box, own_below h.own hb⟩
theorem EAcc.put {w w4 : World} {B : Nat} {m p q : Int} {sv sv' : Value} {es : List (Int × Int)} {o : Obj} (h : EAcc w B m sv es) (hg : (w.alloc o).grownBy w4 sv.ownBlock) (hown : w4.ownsRow (B + 1) 56 2 sv' (es.length + 1) (cellsE es ++ [.int .i64 p, .int .i64 q])) : EAcc (w4.setCell ⟨B, 1, none⟩ sv') B m sv' (es ++ [(p, q)]) ∧ w4.cell? ⟨B, 1, none⟩ = some sv ∧ w4.frozen? ⟨B, 1, none⟩ = false := by
  have hB : B < w.heap.size := (Array.getElem?_eq_some_iff.1 h.box).1
  have hb4 : w4.heap[B]? = some (.cells #[.int .i64 m, sv] 26 (0, 0)) := by
    rw [hg.block B (by simp; omega) (fun e => by have := (h.own.lt B e.symm).1; omega), Below.heap_alloc w _ _ hB]
    exact h.box
  refine ⟨⟨box_put hb4, ?_⟩, cell_of_heap hb4 1, frozen_of_heap hb4 1⟩
  refine own_set ?_ (by simp) _
  rw [cellsE_append, List.length_append]
  exact hown

end Go.Proofs.Ytlebimolgienkaa
namespace Go.Proofs.Ytlebimolgienkaa
open Go.RowKit Go.Lib

/-- The pattern's edges, as far as they are gone through. -/
def ptTo (k : Int) (x y : Nat) : List (Int × Int) := (patE k).filter (fun e => decide (e.1 < (x : Int)) || (decide (e.1 = (x : Int)) && decide (e.2 < (y : Int))))
theorem pt_next {k : Int} (hk : k = 1 ∨ k = 2) {x y : Nat} (hxy : x < y) (hy : y < patN k) : ptTo k x (y + 1) = ptTo k x y ++ (if joinedB k (x : Int) (y : Int) = true then [((x : Int), (y : Int))] else []) := by
  rcases hk with rfl | rfl
  · have h : ∀ y < 4, ∀ x < y, ptTo 1 x (y + 1) = ptTo 1 x y ++ (if joinedB 1 ((x : Nat) : Int) ((y : Nat) : Int) = true then [(((x : Nat) : Int), ((y : Nat) : Int))] else []) := by decide
    exact h y hy x hxy
  · have h : ∀ y < 5, ∀ x < y, ptTo 2 x (y + 1) = ptTo 2 x y ++ (if joinedB 2 ((x : Nat) : Int) ((y : Nat) : Int) = true then [(((x : Nat) : Int), ((y : Nat) : Int))] else []) := by decide
    exact h y hy x hxy
theorem pt_start {k : Int} (hk : k = 1 ∨ k = 2) {x : Nat} (hx : x < patN k) : ptTo k x (x + 1) = ptTo k x 0 := by
  rcases hk with rfl | rfl
  · have h : ∀ x < 4, ptTo 1 x (x + 1) = ptTo 1 x 0 := by decide
    exact h x hx
  · have h : ∀ x < 5, ptTo 2 x (x + 1) = ptTo 2 x 0 := by decide
    exact h x hx
theorem pt_row {k : Int} (hk : k = 1 ∨ k = 2) {x : Nat} (hx : x < patN k) : ptTo k x (patN k) = ptTo k (x + 1) 0 := by
  rcases hk with rfl | rfl
  · have h : ∀ x < 4, ptTo 1 x 4 = ptTo 1 (x + 1) 0 := by decide
    exact h x hx
  · have h : ∀ x < 5, ptTo 2 x 5 = ptTo 2 (x + 1) 0 := by decide
    exact h x hx
theorem pt_zero (k : Int) : ptTo k 0 0 = [] := by
  unfold ptTo
  rw [List.filter_eq_nil_iff]
  intro e he
  have := patE_in he
  simp; omega
theorem pt_all (k : Int) : ptTo k (patN k) 0 = patE k := by
  unfold ptTo
  rw [List.filter_eq_self]
  intro e he
  have := patE_in he
  simp; omega
theorem patE_len' (k : Int) : (patE k).length ≤ 6 := by
  unfold patE; split
  · simp
  · split <;> simp
theorem pt_len (k : Int) (x y : Nat) : (ptTo k x y).length ≤ 6 := Nat.le_trans (List.length_filter_le _ _) (patE_len' k)
set_option maxHeartbeats 16000000 in
set_option maxRecDepth 100000 in
theorem rpattern_any (k : Int) (w : World) :
    Calls Try.prog 29 #[.int .i64 k] w fun e w' => ∃ v, e = .returned v ∧ PatAt k w w' v := by
  obtain ⟨i1, hj, hy0, hy1, hy2⟩ := info_parts Try.info56
  obtain ⟨K, hK⟩ := ex_eq (patN k)
  obtain ⟨b0, hb0⟩ := ex_eq w.heap.size
  obtain ⟨W1, hW1⟩ := ex_eq (w.alloc (.cells #[.int .i64 0, .slice none 0 0] 26))
  have hO0 := heap_alloc_new w (.cells #[.int .i64 0, .slice none 0 0] 26)
  have hb1 : Below w.heap.size w W1 := by rw [hW1]; exact (Below.refl _ _).alloc (Nat.le_refl _) _
  have hs1 : W1.heap.size = w.heap.size + 1 := by rw [hW1]; simp
  rw [← hW1] at hO0
  obtain ⟨B, hB⟩ := ex_eq W1.heap.size
  obtain ⟨W, hW⟩ := ex_eq (W1.alloc (.cells #[.int .i64 (K : Nat), .slice none 0 0] 26))
  have hO1 := heap_alloc_new W1 (.cells #[.int .i64 (K : Nat), .slice none 0 0] 26)
  have hb2 : Below W1.heap.size W1 W := by rw [hW]; exact (Below.refl _ _).alloc (Nat.le_refl _) _
  rw [← hW, ← hB] at hO1
  have hbW : Below b0 w W := by rw [hb0]; exact hb1.trans (hb2.mono hb1.size)
  have hBb : B = b0 + 1 := by omega
  have HX : Hid (∀ X, Below B W X → X.heap[b0]? = some (.cells #[.int .i64 0, .slice none 0 0] 26 (0, 0)) ∧ Below b0 w X) := fun X hX => by
    have hbl : b0 < W.heap.size := by have := hb2.size; omega
    have o : W.heap[b0]? = some (.cells #[.int .i64 0, .slice none 0 0] 26 (0, 0)) := by rw [hb0, hb2.block w.heap.size (by omega)]; exact hO0
    exact ⟨(hX.block b0 (by omega)).trans o, hbW.trans (hX.mono (by omega))⟩
  have HA0 : Hid (∃ sv, EAcc W B (K : Nat) sv (ptTo k 0 0)) := ⟨.slice none 0 0, hO1, by rw [pt_zero]; exact World.ownsRow_nil _ _ _ _⟩
  have CS : Hid (∀ X, Calls Try.prog 50 #[.int .i64 k] X fun e w' => e = .returned (.int .i64 (K : Nat)) ∧ w' = X) := fun X => by rw [hK]; exact size_any k X
  have hK5 : K ≤ 5 := by rw [hK]; unfold patN; split <;> (try split) <;> omega
  have HKK := hid hK
  have HW1 := hid hW1
  have HW := hid hW
  have HB := hid hB
  have HB0 := hid hb0
  have HBB := hid hBb
  have hkk : 0 < K → k = 1 ∨ k = 2 := fun h => by
    by_cases e : k = 1 ∨ k = 2
    · exact e
    · rw [hK, patN_none e] at h; omega
  have HKN := hid hkk
  clear hK hb0 hW1 hO0 hb1 hs1 hB hW hO1 hb2 hbW hkk hBb
  go_enter Try.func29, Try.ntmps29
  go_upto_region 1 with fail
  rw [← HB0.out]
  rw [← HW1.out]
  go_wp2_with fail
  refine (CS.out W1).mono ?_
  rintro e w2 ⟨rfl, hw2⟩
  rw [hw2]
  clear hw2
  go_upto_region 2 with fail
  rw [← HB.out, ← HW.out]
  clear CS
  obtain ⟨sv0, ha0⟩ := HA0.out
  have g0 : W.cell? ⟨B, 0, none⟩ = some (.int .i64 (K : Nat)) := cell_of_heap ha0.box 0
  clear ha0
  go_wp2
  clear g0
  go_loopg [4] K (fun G i wz => ∃ x : Nat, x ≤ K ∧ K - x ≤ G ∧ i = .int .i64 x ∧ Hid (∃ sv, EAcc wz B (K : Nat) sv (ptTo k x 0)) ∧ Hid (Below B W wz))
  case atStart => exact ⟨0, Nat.zero_le _, by omega, rfl, HA0, Below.refl _ _⟩
  case round =>
    clear HA0
    obtain ⟨x, hx, hG, rfl, hacc, hbz⟩ := hrel
    obtain ⟨sv1, ha1⟩ := hacc.out
    have g0 : wr.cell? ⟨B, 0, none⟩ = some (.int .i64 (K : Nat)) := cell_of_heap ha1.box 0
    by_cases hlt : x < K
    · have hk := HKN.out (by omega)
      have q1 : (x : Int) < (K : Int) := by omega
      have HST : Hid (∃ sv, EAcc wr B (K : Nat) sv (ptTo k x (x + 1))) := by
        show ∃ _, _
        rw [pt_start hk (by rw [← HKK.out]; exact hlt)]; exact hacc.out
      clear hacc ha1
      go_wp2
      clear g0
      go_loopg [5] K (fun G i wz => ∃ y : Nat, x < y ∧ y ≤ K ∧ K - y ≤ G ∧ i = .int .i64 y ∧ Hid (∃ sv, EAcc wz B (K : Nat) sv (ptTo k x y)) ∧ Hid (Below B W wz))
      case atStart => exact ⟨x + 1, by omega, by omega, by omega, by go_num, HST, hbz⟩
      case round =>
        clear HST hbz
        obtain ⟨y, hxy, hy, hG2, rfl, hacc, hbz⟩ := hrel
        obtain ⟨sv, ha⟩ := hacc.out
        have g0 : wr.cell? ⟨B, 0, none⟩ = some (.int .i64 (K : Nat)) := cell_of_heap ha.box 0
        by_cases hlt2 : y < K
        · have q2 : (y : Int) < (K : Int) := by omega
          have hnx := pt_next hk hxy (by rw [← HKK.out]; exact hlt2)
          have CJ := joined_any k (x : Int) (y : Int) wr
          have hle := pt_len k x y
          obtain ⟨E, hE⟩ := ex_eq (ptTo k x y)
          rw [← hE] at hnx ha hle
          obtain ⟨J, hJ⟩ := ex_eq (joinedB k (x : Int) (y : Int))
          rw [← hJ] at hnx CJ
          have HCJ := hid CJ
          obtain ⟨aS, cs, hsv, _, _⟩ := eat_own ha.own
          subst hsv
          obtain ⟨Q, hQ⟩ := ex_eq E.length
          have g1 : wr.cell? ⟨B, 1, none⟩ = some (.slice aS Q cs) := by rw [hQ]; exact cell_of_heap ha.box 1
          have HA := hid ha
          have HQ := hid hQ
          have hQ6 : Q ≤ 6 := by omega
          have HNX := hid hnx
          clear hacc ha hE hJ CJ hQ hnx hle
          go_wp2_with fail
          refine HCJ.out.mono ?_
          rintro e w3 ⟨rfl, hw3⟩
          rw [hw3]
          clear hw3 HCJ
          cases J with
          | false =>
            have HNY : Hid (∃ sv, EAcc wr B (K : Nat) sv (ptTo k x (y + 1))) := by
              show ∃ _, _
              rw [HNX.out, if_neg (by simp), List.append_nil]; exact ⟨_, HA.out⟩
            clear HNX HA g0 g1
            go_wp2
            go_roundg (K - (y + 1))
            case measure => omega
            case rel => exact ⟨y + 1, by omega, by omega, Nat.le_refl _, by go_num, HNY, hbz⟩
          | true =>
            have HOW : Hid ((wr.alloc (.cells #[.int .i64 x, .int .i64 y] 56)).ownsRow (B + 1) 56 2 (.slice aS Q cs) Q (cellsE E)) := by
              show World.ownsRow _ _ _ _ _ _ _
              rw [HQ.out]; exact HA.out.own.alloc _
            have HNW : Hid (∀ p', some (⟨wr.heap.size, 0, none⟩ : Addr) = some p' → ∀ i v, [Value.int .i64 (x : Int), .int .i64 (y : Int)][i]? = some v → (wr.alloc (.cells #[.int .i64 x, .int .i64 y] 56)).cell? (p'.add i) = some v) := fun p' hp' => by cases hp'; exact cells_two (heap_alloc_new wr _)
            have HON : Hid (∀ v ∈ [Value.int .i64 (x : Int), .int .i64 (y : Int)], v.oneCell' = true) := fun v hv => by simp at hv; rcases hv with rfl | rfl <;> rfl
            have H63 : Hid (Q + 1 ≤ maxLen) := by show Q + 1 ≤ maxLen; unfold maxLen; omega
            have HBY : Hid ((Q + 1) * 16 ≤ 140737488355328) := by show _ ≤ _; omega
            have hB7 : B < wr.heap.size := (Array.getElem?_eq_some_iff.1 HA.out.box).1
            have HBS : Hid (B + 1 ≤ (wr.alloc (.cells #[.int .i64 x, .int .i64 y] 56)).heap.size) := by show B + 1 ≤ _; simp; omega
            have HPUT : Hid (∀ v4 w4, w4.ownsRow (B + 1) 56 2 v4 (Q + 1) (cellsE E ++ [.int .i64 (x : Int), .int .i64 (y : Int)]) → (wr.alloc (.cells #[.int .i64 x, .int .i64 y] 56)).grownBy w4 (Value.slice aS Q cs).ownBlock → (∃ sv, EAcc (w4.setCell ⟨B, 1, none⟩ v4) B (K : Nat) sv (ptTo k x (y + 1))) ∧ w4.cell? ⟨B, 1, none⟩ = some (.slice aS Q cs) ∧ w4.frozen? ⟨B, 1, none⟩ = false ∧ Below B W (w4.setCell ⟨B, 1, none⟩ v4)) := fun v4 w4 h1 h2 => by
              rw [HQ.out] at h1 h2
              obtain ⟨e1, e2, e3⟩ := HA.out.put h2 h1
              rw [HNX.out, if_pos rfl]
              refine ⟨⟨_, e1⟩, by rw [HQ.out]; exact e2, e3, ?_⟩
              refine (Below.grown (hbz.out.alloc (by omega) _) h2 (by simp; omega) (fun j hj => ?_)).setCell (p := ⟨B, 1, none⟩) (Nat.le_refl _) _
              have := (HA.out.own.lt j hj).1
              omega
            clear HA HNX hbz hB7 g0
            go_wp2_with (at_builtin; refine wpList_append_any _ rfl _ _ 22 rfl (B + 1) 56 i1 _ 2 16 Try.underlying22 hj hy0 hy1 hy2 rfl (by decide) _ _ _ rfl HOW.out (some ⟨wr.heap.size, 0, none⟩) 1 1 [.int .i64 x, .int .i64 y] rfl (fun h => by cases h) rfl HNW.out HON.out H63.out HBY.out HBS.out ?_)
            intro v4 w4 hown4 hgrow4 _
            obtain ⟨e1, e2, e3, e4⟩ := HPUT.out v4 w4 hown4 hgrow4
            obtain ⟨g', cap', rfl⟩ := ownsRow_succ hown4
            have HE1 := hid e1
            have HE4 := hid e4
            clear hown4 hgrow4 e1 e4 HPUT HOW HNW HON H63 HBY HBS g1
            go_wp2
            go_roundg (K - (y + 1))
            case measure => omega
            case rel => exact ⟨y + 1, by omega, by omega, Nat.le_refl _, by go_num, HE1, HE4⟩
        · obtain rfl : y = K := by omega
          have HNY : Hid (∃ sv, EAcc wr B (y : Nat) sv (ptTo k (x + 1) 0)) := by
            show ∃ _, _
            rw [← pt_row hk (by rw [← HKK.out]; exact hlt), ← HKK.out]; exact hacc.out
          clear hacc ha
          go_wp2
          go_roundg (y - (x + 1))
          case measure => omega
          case rel => exact ⟨x + 1, by omega, Nat.le_refl _, by go_num, HNY, hbz⟩
    · obtain rfl : x = K := by omega
      have e := pt_all k
      rw [← HKK.out] at e
      rw [e] at ha1
      obtain ⟨aS, cs, hsv, hsl, hE⟩ := eat_own ha1.own
      subst hsv
      obtain ⟨Q, hQ⟩ := ex_eq (patE k).length
      have g1 : wr.cell? ⟨B, 1, none⟩ = some (.slice aS Q cs) := by rw [hQ]; exact cell_of_heap ha1.box 1
      obtain ⟨ho, hbx⟩ := HX.out wr hbz.out
      have z0 := cell_of_heap ho 0
      have z1 := cell_of_heap ho 1
      have zf0 := frozen_of_heap ho 0
      have zf1 := frozen_of_heap ho 1
      have HF : Hid (PatAt k w ((wr.setCell ⟨b0, 0, none⟩ (.int .i64 (x : Nat))).setCell ⟨b0, 1, none⟩ (.slice aS Q cs)) (.agg #[.int .i64 (x : Nat), .slice aS Q cs])) := by
        have hkk : KeptBut (fun q => q = b0) wr ((wr.setCell ⟨b0, 0, none⟩ (.int .i64 (x : Nat))).setCell ⟨b0, 1, none⟩ (.slice aS Q cs)) := (kept_set wr ⟨b0, 0, none⟩ _).trans (kept_set _ ⟨b0, 1, none⟩ _)
        have hown := own_kept ha1.own hkk (fun g hg e => by have := (ha1.own.lt g hg).1; have h2 := HBB.out; omega)
        obtain ⟨a2, c2, hv2, hs2, hE2⟩ := eat_own hown
        simp only [Value.slice.injEq, true_and] at hv2
        obtain ⟨rfl, rfl⟩ := hv2
        refine ⟨aS, cs, by rw [← HKK.out, hQ], hE2, hs2, ?_⟩
        rw [← HB0.out]
        exact (hbx.setCell (p := ⟨b0, 0, none⟩) (Nat.le_refl _) _).setCell (p := ⟨b0, 1, none⟩) (Nat.le_refl _) _
      clear hacc ha1 hsl hE hQ ho hbx e
      go_wp2
      refine bodyPost_ret (v := .agg #[.int .i64 (x : Nat), .slice aS Q cs]) ?_ rfl ⟨_, rfl, HF.out⟩
      rw [results_cell1 rfl]
      go_simp
end Go.Proofs.Ytlebimolgienkaa
