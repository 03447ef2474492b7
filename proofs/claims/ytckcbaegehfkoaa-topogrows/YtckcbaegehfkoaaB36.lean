/-
  The document's Rows and Has (layer 8).
  Where there is a model, one comes to the pattern (layer 8's thought, for layer 9).
  The law TopoTrue.
  carcanetlaw04.PartTells answers true, for any part that keeps the contracts.
  carcanetlaw04.PartOrder answers true, for any part that keeps the contracts.
  The document's components (Of of layer 4).
  carcanetlaw04.PartCounts answers true, for any part that keeps the contracts: the walk.
  carcanetlaw04.PartBridge answers true, for any part that keeps the contracts, and any Add that keeps its own.
-/
import Derived.Test.YtckcbaegehfkoaaB35
import Derived.Test.YtckcbaegehfkoaaB04
import Derived.Test.YtckcbaegehfkoaaB06
import Derived.Test.YtckcbaegehfkoaaB31
import Derived.Lib.Walk
import Derived.Test.YtckcbaegehfkoaaB14
import Derived.Test.YtckcbaegehfkoaaB09
import Derived.Test.YtckcbaegehfkoaaB12
import Derived.Test.YtckcbaegehfkoaaB10
import Derived.Test.YtckcbaegehfkoaaB03
namespace Go.Proofs.Ytckcbaegehfkoaa
open Go.RowKit Go.Lib

/-- The rows of the first edges. -/
def RoTo (es : List (Int × Int)) (m i : Nat) (xs : Nat → Nat) : Prop := ∀ v, v < m → xs v < 256 ∧ ∀ b : Nat, (xs v).testBit b = true ↔ ∃ e ∈ es.take i, (e.1 = (v : Int) ∧ e.2 = (b : Int)) ∨ (e.1 = (b : Int) ∧ e.2 = (v : Int))
theorem RoTo.put {es : List (Int × Int)} {m i p q : Nat} {xs : Nat → Nat} (h : RoTo es m i xs) (hi : i < es.length) (hp : (p : Int) = es[i].1) (hq : (q : Int) = es[i].2) (hpq : p < q) (hqm : q < m) (hm : m ≤ 8) :
    RoTo es m (i + 1) (fun j => if j = q then xs q ||| 2 ^ p else if j = p then xs p ||| 2 ^ q else xs j) := fun v hv => by
  obtain ⟨h1, h2⟩ := h v hv
  have hex : ∀ b : Nat, (∃ e ∈ es.take (i + 1), (e.1 = (v : Int) ∧ e.2 = (b : Int)) ∨ (e.1 = (b : Int) ∧ e.2 = (v : Int))) ↔ ((xs v).testBit b = true ∨ (v = p ∧ b = q) ∨ (v = q ∧ b = p)) := fun b => by
    rw [h2 b, ← List.take_append_getElem hi]
    constructor
    · rintro ⟨e, he, hh⟩
      rcases List.mem_append.1 he with he | he
      · exact Or.inl ⟨e, he, hh⟩
      · simp at he
        subst he
        rw [← hp, ← hq] at hh
        omega
    · rintro (⟨e, he, hh⟩ | hh)
      · exact ⟨e, List.mem_append_left _ he, hh⟩
      · refine ⟨es[i], List.mem_append_right _ (by simp), ?_⟩
        rw [← hp, ← hq]
        omega
  by_cases e1 : v = q
  · subst e1
    refine ⟨?_, fun b => ?_⟩
    · dsimp only; rw [if_pos rfl]; exact or_lt8 h1 (pow8' (by omega))
    · rw [hex b]
      dsimp only
      rw [if_pos rfl]
      rw [Nat.testBit_or, Bool.or_eq_true, Nat.testBit_two_pow, decide_eq_true_eq]
      constructor
      · rintro (h | h)
        · exact Or.inl h
        · exact Or.inr (Or.inr ⟨rfl, h.symm⟩)
      · rintro (h | h | h)
        · exact Or.inl h
        · omega
        · exact Or.inr h.2.symm
  · by_cases e2 : v = p
    · subst e2
      refine ⟨?_, fun b => ?_⟩
      · dsimp only; rw [if_neg e1, if_pos rfl]; exact or_lt8 h1 (pow8' (by omega))
      · rw [hex b]
        dsimp only
        rw [if_neg e1, if_pos rfl]
        rw [Nat.testBit_or, Bool.or_eq_true, Nat.testBit_two_pow, decide_eq_true_eq]
        constructor
        · rintro (h | h)
          · exact Or.inl h
          · exact Or.inr (Or.inl ⟨rfl, h.symm⟩)
        · rintro (h | h | h)
          · exact Or.inl h
          · exact Or.inr h.2.symm
          · omega
    · refine ⟨?_, fun b => ?_⟩
      · dsimp only; rw [if_neg e1, if_neg e2]; exact h1
      · rw [hex b]
        dsimp only
        rw [if_neg e1, if_neg e2]
        constructor
        · exact Or.inl
        · rintro (h | h | h)
          · exact h
          · exact absurd h.1 e2
          · exact absurd h.1 e1
theorem RoTo.rows {es : List (Int × Int)} {m : Nat} {xs : Nat → Nat} (h : RoTo es m es.length xs) (hR : RightG m es) : RowsOf ((List.range m).map xs) m (fun a b => Adj es (a : Int) (b : Int)) ∧ Sm ((List.range m).map xs) := by
  refine ⟨⟨by simp, fun a b ha => ?_, fun a b hab => hab.symm, fun a ha => (ha.in hR).2.2 rfl⟩, fun x hx => ?_⟩
  · rw [getD_map0 _ _ (by simpa using ha), List.getD_eq_getElem?_getD, List.getElem?_range ha]
    show (xs a).testBit b = true ↔ _
    rw [(h a ha).2 b, List.take_length]
    constructor
    · rintro ⟨e, he, hh⟩
      have hr := hR.2.2.2.1 e he
      obtain ⟨e1, e2⟩ := e
      simp only at hh hr
      rcases hh with ⟨rfl, rfl⟩ | ⟨rfl, rfl⟩
      · exact ⟨by omega, Or.inl he⟩
      · exact ⟨by omega, Or.inr he⟩
    · rintro ⟨_, hh | hh⟩
      · exact ⟨_, hh, Or.inl ⟨rfl, rfl⟩⟩
      · exact ⟨_, hh, Or.inr ⟨rfl, rfl⟩⟩
  · obtain ⟨i, hi, rfl⟩ := List.mem_map.1 hx
    exact (h i (List.mem_range.1 hi)).1
set_option maxHeartbeats 16000000 in
set_option maxRecDepth 100000 in
theorem rowsB_any (m : Nat) (a : Option Addr) (cap : Nat) (es : List (Int × Int)) (w : World) (hm : m ≤ 8) (hR : RightG m es) (hE : EAt w a es) :
    Calls Try.prog 69 #[.agg #[.int .i64 m, .slice a es.length cap]] w fun e w' => ∃ g r, e = .returned (.slice (some ⟨g, 0, none⟩) m m) ∧ IAt w' (some ⟨g, 0, none⟩) (ints r) ∧ (RowsOf r m (fun a b => Adj es (a : Int) (b : Int)) ∧ Sm r) ∧ Below w.heap.size w w' := by
  obtain ⟨i0, hi0, hz0, hz1, hz2⟩ := info_parts Try.info3
  obtain ⟨N, hNe⟩ := ex_eq es.length
  obtain ⟨b0, hb0⟩ := ex_eq w.heap.size
  obtain ⟨W1, hW1⟩ := ex_eq (w.alloc (.cells #[.int .i64 m, .slice a N cap] 30))
  have hO := heap_alloc_new w (.cells #[.int .i64 m, .slice a N cap] 30)
  have hb1 : Below w.heap.size w W1 := by rw [hW1]; exact (Below.refl _ _).alloc (Nat.le_refl _) _
  rw [← hW1] at hO
  have hbl : w.heap.size < W1.heap.size := (Array.getElem?_eq_some_iff.1 hO).1
  obtain ⟨D, hD⟩ := ex_eq W1.heap.size
  obtain ⟨w2, hrun, hown, hgrow⟩ := run_make_full (P := Try.prog) W1 D 25 3 i0 (.int .i64 0) 1 Try.underlying25 hi0 hz0 hz1 .i64 .i64 m (by rw [hz2]; omega) (by unfold maxLen; omega) (by omega)
  rw [← hD] at hrun hown
  have hb2 : Below D W1 w2 := by rw [hD]; exact Below.grown (Below.refl _ _) hgrow (Nat.le_refl _) (fun k hk => by cases hk)
  have hs2 : D < w2.heap.size := by
    rcases hown.2 with ⟨hv, _⟩ | ⟨g', cap', cur, hv, _, hgb, _⟩
    · simp at hv
    · simp only [Value.slice.injEq, Option.some.injEq, Addr.mk.injEq, and_true, true_and] at hv
      obtain ⟨rfl, _⟩ := hv
      exact (Array.getElem?_eq_some_iff.1 hgb).1
  have HRW : Hid (∃ xs : Nat → Nat, Row1 w2 D m (fun v => ((xs v : Nat) : Int)) ∧ RoTo es m 0 xs) := ⟨fun _ => 0, (row1_made hown hs2).congr (fun j _ => by simp), fun v _ => ⟨by show (0 : Nat) < 256; omega, fun b => by simp⟩⟩
  have HX : Hid (∀ X, Below D W1 X → X.cell? ⟨b0, 0, none⟩ = some (.int .i64 m) ∧ X.cell? ⟨b0, 1, none⟩ = some (.slice a N cap) ∧ EAt X a es ∧ Below w.heap.size w X) := fun X hX => by
    rw [hD] at hX
    have o := (hX.block w.heap.size hbl).trans hO
    have hb := hb1.trans (hX.mono (by omega))
    rw [hb0]
    exact ⟨cell_of_heap o 0, cell_of_heap o 1, hE.below hb, hb⟩
  have hN4 : N ≤ 4000 := by have := hR.2.2.1; omega
  have HB2 := hid hb2
  have HW1 := hid hW1
  have HB0 := hid hb0
  have HN := hid hNe
  have HR := hid hR
  obtain ⟨c0, c1, _, _⟩ := HX.out W1 (Below.refl _ _)
  rw [← hNe]
  clear hNe hE hR hb0 hW1 hO hb1 hbl hD hown hgrow hb2 hs2
  go_enter Try.func69, Try.ntmps69
  go_upto_region 1 with fail
  rw [← HB0.out]
  rw [← HW1.out]
  go_wp2
  clear hrun c0 c1
  go_loopg [4] N (fun G i wz => ∃ t : Nat, t ≤ N ∧ N - t ≤ G ∧ i = .int .i64 t ∧ Hid (∃ xs : Nat → Nat, Row1 wz D m (fun v => ((xs v : Nat) : Int)) ∧ RoTo es m t xs) ∧ Hid (Below D W1 wz))
  case atStart => exact ⟨0, Nat.zero_le _, by omega, rfl, HRW, HB2⟩
  case round =>
    clear HRW
    obtain ⟨t, ht, hG, rfl, hst, hbz⟩ := hrel
    obtain ⟨xs, hrow, hro⟩ := hst.out
    obtain ⟨c0, c1, hE, _⟩ := HX.out wr hbz.out
    by_cases hlt : t < N
    · have htr : t < es.length := by rw [← HN.out]; exact hlt
      obtain ⟨g, off, rfl, hg, hcs⟩ := hE (by omega)
      obtain ⟨d0, d1⟩ := hcs t htr
      have hin := HR.out.2.2.2.1 _ (List.getElem_mem htr)
      obtain ⟨p, hp⟩ : ∃ p : Nat, (p : Int) = es[t].1 := ⟨es[t].1.toNat, by omega⟩
      obtain ⟨q, hq⟩ : ∃ q : Nat, (q : Int) = es[t].2 := ⟨es[t].2.toNat, by omega⟩
      rw [← hp] at d0
      rw [← hq] at d1
      rw [← hp, ← hq] at hin
      have i1 : p < q := by omega
      have i2 : q < m := by omega
      have hput := hro.put htr hp hq i1 i2 hm
      obtain ⟨x, hx⟩ := ex_eq (xs p)
      obtain ⟨y, hy⟩ := ex_eq (xs q)
      have x8 : x < 256 := by rw [hx]; exact (hro p (by omega)).1
      have y8 : y < 256 := by rw [hy]; exact (hro q i2).1
      obtain ⟨P, hP⟩ := ex_eq (2 ^ p)
      obtain ⟨Q, hQ⟩ := ex_eq (2 ^ q)
      have p8 : P < 256 := by rw [hP]; exact pow8' (by omega)
      have q8 : Q < 256 := by rw [hQ]; exact pow8' (by omega)
      obtain ⟨A, hA⟩ := ex_eq (x ||| Q)
      obtain ⟨B, hB⟩ := ex_eq (y ||| P)
      have s1 : IntKind.i64.wrap ((2 : Int) ^ p) = (P : Int) := by rw [hP]; exact pow8i (by omega)
      have s2 : IntKind.i64.wrap ((2 : Int) ^ q) = (Q : Int) := by rw [hQ]; exact pow8i (by omega)
      have s3 : bits .or .i64 (x : Int) (Q : Int) = (A : Int) := by rw [bor (by omega) (by omega), hA]
      have s4 : bits .or .i64 (y : Int) (P : Int) = (B : Int) := by rw [bor (by omega) (by omega), hB]
      obtain ⟨r1, r1f⟩ := hrow.2 p (by omega)
      rw [show (fun v : Nat => ((xs v : Nat) : Int)) p = (x : Int) from by rw [hx]] at r1
      have hr2 := hrow.put (i := p) (by omega) (A : Int)
      obtain ⟨r2, r2f⟩ := hr2.2 q i2
      rw [show (fun j => if j = p then (A : Int) else (fun v : Nat => ((xs v : Nat) : Int)) j) q = (y : Int) from by dsimp only; rw [if_neg (show ¬ q = p by omega), hy]] at r2
      have hr3 := hr2.put (i := q) i2 (B : Int)
      have HNX : Hid (∃ xs : Nat → Nat, Row1 ((wr.setCell ⟨D, p, none⟩ (.int .i64 (A : Int))).setCell ⟨D, q, none⟩ (.int .i64 (B : Int))) D m (fun v => ((xs v : Nat) : Int)) ∧ RoTo es m (t + 1) xs) := by
        refine ⟨_, hr3.congr (fun j hj => ?_), hput⟩
        show (if j = q then (B : Int) else if j = p then (A : Int) else ((xs j : Nat) : Int)) = ((if j = q then xs q ||| 2 ^ p else if j = p then xs p ||| 2 ^ q else xs j : Nat) : Int)
        by_cases e1 : j = q
        · rw [if_pos e1, if_pos e1, hB, hy, hP]
        · by_cases e2 : j = p
          · rw [if_neg e1, if_neg e1, if_pos e2, if_pos e2, hA, hx, hQ]
          · rw [if_neg e1, if_neg e1, if_neg e2, if_neg e2]
      have HBX : Hid (Below D W1 ((wr.setCell ⟨D, p, none⟩ (.int .i64 (A : Int))).setCell ⟨D, q, none⟩ (.int .i64 (B : Int)))) := (hbz.out.setCell (p := ⟨D, p, none⟩) (Nat.le_refl _) _).setCell (p := ⟨D, q, none⟩) (Nat.le_refl _) _
      have q1 : (t : Int) < (N : Int) := by omega
      have q2 : (0 : Int) ≤ (t : Int) := by omega
      have q3 : (p : Int) < (m : Int) := by omega
      have q4 : (q : Int) < (m : Int) := by omega
      have q5 : (0 : Int) ≤ (p : Int) := by omega
      have q6 : (0 : Int) ≤ (q : Int) := by omega
      clear hst hrow hro hE hcs hp hq hin hput hx hy hP hQ hA hB hr2 hr3 hg hbz c0
      go_wp2
      go_roundg (N - (t + 1))
      case measure => omega
      case rel => exact ⟨t + 1, by omega, Nat.le_refl _, by go_num, HNX, HBX⟩
    · obtain rfl : t = N := by omega
      have hro' := hro
      rw [HN.out] at hro'
      have h1 := hro'.rows HR.out
      have HF : Hid (IAt wr (some ⟨D, 0, none⟩) (ints ((List.range m).map xs))) := by
        have := hrow.iat
        show IAt _ _ _
        unfold ints
        rw [List.map_map]; exact this
      have HF2 := hid h1
      have HBX := hid (HX.out wr hbz.out).2.2.2
      clear hst hrow hro hro' h1 hE hbz c0
      go_wp2
      go_ret
      exact ⟨D, _, rfl, HF.out, HF2.out, HBX.out⟩
set_option maxHeartbeats 8000000 in
set_option maxRecDepth 100000 in
theorem has8_any (m : Nat) (a : Option Addr) (cap : Nat) (es : List (Int × Int)) (k : Int) (w : World) (hk : k = 1 ∨ k = 2) (hm : m ≤ 8) (hR : RightG m es) (hE : EAt w a es) :
    Calls Try.prog 31 #[.agg #[.int .i64 m, .slice a es.length cap], .int .i64 k] w fun e w' => ∃ r, e = .returned (.bool (comesN 8 r k)) ∧ (RowsOf r m (fun a b => Adj es (a : Int) (b : Int)) ∧ Sm r) ∧ Below w.heap.size w w' := by
  obtain ⟨N, hNe⟩ := ex_eq es.length
  obtain ⟨b0, hb0⟩ := ex_eq w.heap.size
  obtain ⟨W1, hW1⟩ := ex_eq (w.alloc (.cells #[.int .i64 m, .slice a N cap] 30))
  have hO := heap_alloc_new w (.cells #[.int .i64 m, .slice a N cap] 30)
  have hb1 : Below w.heap.size w W1 := by rw [hW1]; exact (Below.refl _ _).alloc (Nat.le_refl _) _
  rw [← hW1] at hO
  have hbl : w.heap.size < W1.heap.size := (Array.getElem?_eq_some_iff.1 hO).1
  have HX : Hid (∀ X, Below W1.heap.size W1 X → X.cell? ⟨b0, 0, none⟩ = some (.int .i64 m) ∧ X.cell? ⟨b0, 1, none⟩ = some (.slice a N cap) ∧ EAt X a es ∧ Below w.heap.size w X) := fun X hX => by
    have o := (hX.block w.heap.size hbl).trans hO
    have hb := hb1.trans (hX.mono (by omega))
    rw [hb0]
    exact ⟨cell_of_heap o 0, cell_of_heap o 1, hE.below hb, hb⟩
  have hE1 := (HX.out W1 (Below.refl _ _)).2.2.1
  have hlen : es.length ≤ 1000000 := by have := hR.2.2.1; omega
  have CR := hid (rright_any m a cap es true W1 hlen hE1 ⟨fun _ => hR, fun _ => rfl⟩)
  have CB : Hid (∀ X, Below W1.heap.size W1 X → Calls Try.prog 69 #[.agg #[.int .i64 m, .slice a N cap]] X fun e w' => ∃ g r, e = .returned (.slice (some ⟨g, 0, none⟩) m m) ∧ IAt w' (some ⟨g, 0, none⟩) (ints r) ∧ (RowsOf r m (fun a b => Adj es (a : Int) (b : Int)) ∧ Sm r) ∧ Below X.heap.size X w') := fun X hX => by
    rw [hNe]; exact rowsB_any m a cap es X hm hR (HX.out X hX).2.2.1
  rw [← hNe] at CR
  have CS : Hid (∀ X, Calls Try.prog 59 #[.int .i64 k] X fun e w' => e = .returned (.int .i64 (patN k : Nat)) ∧ w' = X) := fun X => size_any k X
  obtain ⟨K, hK⟩ := ex_eq (patN k)
  have hK4 : 4 ≤ K := by rw [hK]; unfold patN; rcases hk with rfl | rfl <;> decide
  rw [← hK] at CS
  have CC : Hid (∀ (X : World) (g : Nat) (r : List Nat), r.length = m → Sm r → IAt X (some ⟨g, 0, none⟩) (ints r) → Calls Try.prog 68 #[.slice (some ⟨g, 0, none⟩) m m, .int .i64 k] X fun e w' => e = .returned (.bool (comesN 8 r k)) ∧ Below X.heap.size X w') := fun X g r h1 h2 h3 => by
    have := comesB_any k hk 8 (some ⟨g, 0, none⟩) m r X (by omega) (by omega) h2 h3
    rw [h1] at this
    exact this
  have HW1 := hid hW1
  have HB0 := hid hb0
  have q1 : ¬ (8 : Int) < (m : Int) := by omega
  have q2 : decide ((m : Int) > 8) = false := decide_eq_false (by omega)
  have q3 : decide ((8 : Int) < (m : Int)) = false := decide_eq_false (by omega)
  have q4 : ((K : Int) == 0) = false := by simp; omega
  obtain ⟨c0, c1, _, _⟩ := HX.out W1 (Below.refl _ _)
  rw [← hNe]
  clear hNe hE hR hb0 hW1 hO hb1 hbl hE1 hlen hK
  go_enter Try.func31, Try.ntmps31
  go_upto_region 1 with fail
  rw [← HB0.out]
  rw [← HW1.out]
  go_wp2_with fail
  refine CR.out.mono ?_
  rintro e w2 ⟨rfl, hb2⟩
  obtain ⟨d0, d1, _, _⟩ := HX.out w2 hb2
  have HB2 := hid hb2
  clear c0 c1 CR hb2
  go_wp2_with fail
  refine (CS.out w2).mono ?_
  rintro e w3 ⟨rfl, hw3⟩
  rw [hw3]
  clear hw3 CS
  go_wp2_with fail
  refine (CB.out w2 HB2.out).mono ?_
  rintro e w4 ⟨g, r, rfl, hI, hrs, hb4⟩
  have C := CC.out w4 g r hrs.1.len hrs.2 hI
  obtain ⟨R, hRR⟩ := ex_eq (comesN 8 r k)
  rw [← hRR] at C
  have HC := hid C
  have HRR := hid hRR
  have HRS := hid hrs
  have HB4 : Hid (Below W1.heap.size W1 w4) := HB2.out.trans (hb4.mono HB2.out.size)
  clear hI hrs hb4 C hRR CB CC d0 d1
  go_wp2_with fail
  refine HC.out.mono ?_
  rintro e w5 ⟨rfl, hb5⟩
  have HF := hid (HX.out w5 (HB4.out.trans (hb5.mono HB4.out.size))).2.2.2
  clear hb5 HC
  go_wp2
  go_ret
  exact ⟨r, (by rw [← HRR.out]; rfl), HRS.out, HF.out⟩
end Go.Proofs.Ytckcbaegehfkoaa
namespace Go.Proofs.Ytckcbaegehfkoaa
open Go.RowKit Go.Lib

/-- A model by each vertex's place. -/
theorem model_mod {m : Nat} {es : List (Int × Int)} {k : Int} {Ss : List (List Int)} (h : ModelL m es k Ss) : ∃ f, ModA m (fun a b => Adj es (a : Int) (b : Int)) k f := by
  obtain ⟨D, hD⟩ := home_ex h
  have hl := h.len
  have hf : ∀ v i : Nat, v < m → i < patN k → ((if 0 ≤ D v ∧ D v < patN k then (D v).toNat else patN k) = i ↔ (v : Int) ∈ Ss.getD i []) := fun v i hv hi => by
    rw [← hD v (by omega) (by omega) i (by omega)]
    split <;> omega
  have hin : ∀ i x, x ∈ Ss.getD i [] → 0 ≤ x ∧ x < (m : Int) := h.inn
  refine ⟨fun v => if 0 ≤ D v ∧ D v < patN k then (D v).toNat else patN k, fun i hi => ?_, fun u v hu hv he hp S h0 hst => ?_, fun e he => ?_⟩
  · have hne := (h.whole _ (getD_mem (by omega : i < Ss.length))).ne
    obtain ⟨x, hx⟩ := List.exists_mem_of_ne_nil _ hne
    have := hin i x hx
    refine ⟨x.toNat, by omega, (hf x.toNat i (by omega) hi).2 ?_⟩
    rw [show ((x.toNat : Nat) : Int) = x by omega]; exact hx
  · try simp only at he hp
    obtain ⟨i, hi⟩ := ex_eq (if 0 ≤ D u ∧ D u < patN k then (D u).toNat else patN k)
    rw [← hi] at he hp
    have hui := (hf u i hu hp).1 hi.symm
    have hvi := (hf v i hv hp).1 he.symm
    have := (h.whole _ (getD_mem (by omega : i < Ss.length))).one _ hui _ hvi (fun z => 0 ≤ z ∧ z ∈ Ss.getD i [] ∧ S z.toNat) ⟨by omega, hui, by simpa using h0⟩ (fun x y hx ha hy => by
      have hxi := hin i x hx.2.1
      have hyi := hin i y hy
      refine ⟨hyi.1, hy, hst x.toNat y.toNat hx.2.2 (by omega) (by omega) ?_ ?_ ?_⟩
      · try simp only
        rw [← hi]
        refine (hf x.toNat i (by omega) hp).2 ?_
        rw [show ((x.toNat : Nat) : Int) = x by omega]; exact hx.2.1
      · try simp only
        rw [← hi]
        refine (hf y.toNat i (by omega) hp).2 ?_
        rw [show ((y.toNat : Nat) : Int) = y by omega]; exact hy
      · rw [show ((x.toNat : Nat) : Int) = x by omega, show ((y.toNat : Nat) : Int) = y by omega]; exact ha)
    simpa using this.2.2
  · obtain ⟨x, y, hx, hy, ha⟩ := h.meet e he
    have hp := patE_in he
    unfold setAt at hx hy
    have hxi := hin _ x hx
    have hyi := hin _ y hy
    refine ⟨x.toNat, y.toNat, by omega, by omega, ?_, ?_, ?_⟩
    · have := (hf x.toNat e.1.toNat (by omega) (by omega)).2 (by rw [show ((x.toNat : Nat) : Int) = x by omega]; exact hx)
      try simp only
      rw [this]; omega
    · have := (hf y.toNat e.2.toNat (by omega) (by omega)).2 (by rw [show ((y.toNat : Nat) : Int) = y by omega]; exact hy)
      try simp only
      rw [this]; omega
    · rw [show ((x.toNat : Nat) : Int) = x by omega, show ((y.toNat : Nat) : Int) = y by omega]; exact ha
theorem model_comes {m : Nat} {es : List (Int × Int)} {k : Int} {Ss : List (List Int)} {r : List Nat} (h : ModelL m es k Ss) (hm : m ≤ 8) (hr : RowsOf r m (fun a b => Adj es (a : Int) (b : Int))) : comesN 8 r k = true := by
  obtain ⟨f, hf⟩ := model_mod h
  exact comes_of h.kind 8 r m _ f hr hf (by omega)
end Go.Proofs.Ytckcbaegehfkoaa
namespace Go.Proofs.Ytckcbaegehfkoaa
open Go.RowKit Go.Lib

set_option maxHeartbeats 8000000 in
set_option maxRecDepth 100000 in
theorem topoTrue_law (n : Int) (a : Option Addr) (len cap : Nat) (l : List (Int × Int)) (kk : Int) (ta : Option Addr) (tl tc : Nat) (tt : List Int) (am : Option Addr) (lm cm : Nat) (LM : List (List Int)) (w : World) (hl : len = l.length) (hE : EAt w a l) (hI : CameI w ta tl tc tt) (hM : CameR w am lm cm LM) :
    Calls Try.prog 10 #[.agg #[.int .i64 n, .slice a len cap], .agg #[.int .i64 kk, .slice ta tl tc, .slice am lm cm]] w fun e w' => e = .returned (.bool true) ∧ Below w.heap.size w w' := by
  obtain ⟨b, hbb⟩ := ex_eq w.heap.size
  obtain ⟨W0, hW0, hs0, hO0, hO1, hB0⟩ := new_two w (.cells #[.int .i64 n, .slice a len cap] 24) (.cells #[.int .i64 kk, .slice ta tl tc, .slice am lm cm] 28)
  rw [← hbb] at hs0 hO0 hO1 hB0
  have HBB0 := hid hbb
  have HK0 : Hid (∀ X, Below W0.heap.size W0 X → (X.cell? ⟨b, 0, none⟩ = some (.int .i64 n) ∧ X.cell? ⟨b, 1, none⟩ = some (.slice a len cap)) ∧ (X.cell? ⟨b + 1, 0, none⟩ = some (.int .i64 kk) ∧ X.cell? ⟨b + 1, 1, none⟩ = some (.slice ta tl tc) ∧ X.cell? ⟨b + 1, 2, none⟩ = some (.slice am lm cm)) ∧ (CameI X ta tl tc tt ∧ CameR X am lm cm LM) ∧ EAt X a l ∧ Below w.heap.size w X) := fun X hX => by
    have o0 := (hX.block b (by omega)).trans hO0
    have o1 := (hX.block (b + 1) (by omega)).trans hO1
    have hbx : Below b w X := hB0.trans (hX.mono (by omega))
    have hbx' : Below w.heap.size w X := by rw [← hbb]; exact hbx
    exact ⟨⟨cell_of_heap o0 0, cell_of_heap o0 1⟩, ⟨cell_of_heap o1 0, cell_of_heap o1 1, cell_of_heap o1 2⟩, ⟨hI.belowM hbx', hM.belowM hbx'⟩, hE.below hbx', hbx'⟩
  have HL := hid hl
  have HW0 := hid hW0
  clear hl hE hI hM hW0 hB0 hO0 hO1 hbb hs0
  go_enter Try.func10, Try.ntmps10
  go_wp2_with fail
  rw [← HW0.out]
  refine (yshown_any _).mono ?_
  rintro e w1 ⟨rfl, hb1⟩
  rw [← HBB0.out]
  obtain ⟨⟨x0, x1⟩, _, _, hE1, _⟩ := HK0.out w1 hb1
  have CA := hid (net_any n a len cap l 7 w1 (by omega) HL.out hE1)
  have HB1 := hid hb1
  clear hb1 HW0 hE1
  go_wp2_with fail
  refine CA.out.mono ?_
  rintro e w2 ⟨m, ys, a2, c2, rfl, hm20, hR, hys, hsl, hE2, hb2⟩
  obtain ⟨K, hK⟩ := ex_eq ys.length
  rw [← hK]
  have HK := hid hK
  obtain ⟨B, hBB⟩ := ex_eq w2.heap.size
  obtain ⟨V2, hV2⟩ := ex_eq (w2.alloc (.cells #[.int .i64 m, .slice a2 K c2] 30))
  have HG2 : Hid (GC V2 B m a2 K c2 ys) := by
    show GC V2 _ _ _ _ _ _
    rw [hV2, hBB]; exact gc_new8 hE2
  have HX2 : Hid (Below W0.heap.size W0 V2) := by
    have h1 : Below w2.heap.size w2 V2 := by rw [hV2]; exact below_one _ _
    have h2 : Below W0.heap.size W0 w2 := HB1.out.trans (hb2.mono HB1.out.size)
    exact h2.trans (h1.mono h2.size)
  have HV2 := hid hV2
  have HBB := hid hBB
  have HR := hid hR
  have HSL := hid hsl
  have hK3 : K ≤ 300 := by omega
  clear hK hV2 hE2 hb2 hR hys hsl CA x0 x1 HB1 hBB
  go_upto_region 3 with fail
  rw [← HV2.out, ← HBB.out]
  clear HV2 HBB
  have CS := hid (ysmall_any kk ta tl tc tt am lm cm LM V2 (HK0.out V2 HX2.out).2.2.1.1 (HK0.out V2 HX2.out).2.2.1.2)
  obtain ⟨_, ⟨m0, m1, m2⟩, ⟨_, hcr⟩, _, _⟩ := HK0.out V2 HX2.out
  have HWF := hid (wf_cut8 hcr)
  clear hcr
  go_wp2_with fail
  refine CS.out.mono ?_
  rintro e w5 ⟨v5, rfl, a1, c1, a5, c5, rfl, hI5, hL5, hb5⟩
  have hP8 := cut8_len LM
  have HEA := hid (@cut8_each LM)
  obtain ⟨P, hPe⟩ := ex_eq (cut8 LM)
  obtain ⟨T, hTe⟩ := ex_eq (tt.take 6)
  rw [← hPe] at hL5 hP8 HEA HWF ⊢
  rw [← hTe] at hI5 ⊢
  obtain ⟨NT, hNT⟩ := ex_eq T.length
  obtain ⟨NP, hNP⟩ := ex_eq P.length
  rw [← hNT, ← hNP]
  have HNT := hid hNT
  have HNP := hid hNP
  obtain ⟨B5, hB5⟩ := ex_eq w5.heap.size
  obtain ⟨V5, hV5⟩ := ex_eq (w5.alloc (.cells #[.int .i64 kk, .slice a1 NT c1, .slice a5 NP c5] 32))
  have hb55 : Below w5.heap.size w5 V5 := by rw [hV5]; exact below_one _ _
  have hSC5 : SC V5 B5 kk a1 NT c1 T a5 NP c5 P := by rw [hV5, hB5]; exact sc_new hI5 (lls_llat hL5)
  have hLS5 := hL5.below hb55
  have hbV : Below V2.heap.size V2 V5 := hb5.trans (hb55.mono hb5.size)
  have hX5 : Below W0.heap.size W0 V5 := HX2.out.trans (hbV.mono HX2.out.size)
  have HKP : Hid (∀ X, Below V5.heap.size V5 X → GC X B m a2 K c2 ys ∧ SC X B5 kk a1 NT c1 T a5 NP c5 P ∧ LLS X a5 P ∧ Below w.heap.size w X) := fun X hX => ⟨HG2.out.on (hbV.trans (hX.mono hbV.size)), hSC5.on hX, hLS5.below hX, (HK0.out X (hX5.trans (hX.mono hX5.size))).2.2.2.2⟩
  have HV5 := hid hV5
  have HB5 := hid hB5
  obtain ⟨rc, hrc⟩ := boolR_of (SubL m ys kk T P)
  have CK : Hid (∀ X, Below V5.heap.size V5 X → Calls Try.prog 14 #[.agg #[.int .i64 m, .slice a2 K c2], .agg #[.int .i64 kk, .slice a1 NT c1, .slice a5 NP c5]] X fun e w' => e = .returned (.bool rc) ∧ Below X.heap.size X w') := fun X hX => by
    obtain ⟨g, s, ls, _⟩ := HKP.out X hX
    have h := tcheck_any m a2 c2 ys true kk a1 c1 T a5 c5 P rc X (by rw [← HK.out]; omega) g.at_ ⟨fun _ => HR.out, fun _ => rfl⟩ s.ts (by omega) (fun L hL => by have := HEA.out L hL; omega) s.at_ HWF.out hrc
    rw [← HK.out, ← HNT.out, ← HNP.out] at h
    exact h
  have HRC := hid hrc
  clear hPe hTe hNT hNP hB5 hV5 hI5 hL5 hb5 hb55 hSC5 hLS5 hbV hX5 hrc CS m0 m1 m2
  obtain ⟨g, s, _, hF5⟩ := HKP.out V5 (Below.refl _ _)
  obtain ⟨k0, k1⟩ := g.cells
  have s0 := s.c0
  have s1 := s.c1
  have s2 := s.c2
  have CK5 := hid (CK.out V5 (Below.refl _ _))
  clear g s hF5 CK
  go_upto_region 4 with fail
  rw [← HV5.out, ← HB5.out]
  clear HV5 HB5
  go_wp2_with fail
  refine CK5.out.mono ?_
  rintro e w6 ⟨rfl, hb6⟩
  have HB6 := hid hb6
  clear CK5 hb6 k0 k1 s0 s1 s2
  cases rc with
  | false =>
    have HF := hid (HKP.out w6 HB6.out).2.2.2
    clear HRC
    go_wp2
    go_ret
    exact ⟨rfl, HF.out⟩
  | true =>
    have hsub := HRC.out.1 rfl
    have hmod := sub_model hsub
    obtain ⟨g, s, _, _⟩ := HKP.out w6 HB6.out
    obtain ⟨k0, k1⟩ := g.cells
    have s0 := s.c0
    have hm8 : m ≤ 8 := by omega
    have C := has8_any m a2 c2 ys kk w6 hmod.kind hm8 HR.out g.at_
    rw [← HK.out] at C
    have HC := hid C
    have HMOD := hid hmod
    clear HRC hmod C hsub g s
    go_wp2_with fail
    refine HC.out.mono ?_
    rintro e w7 ⟨r, rfl, hrs, hb7⟩
    have HF := hid (HKP.out w7 (HB6.out.trans (hb7.mono HB6.out.size))).2.2.2
    have htrue := model_comes HMOD.out hm8 hrs.1
    rw [htrue]
    clear hrs hb7 HC htrue k0 k1 s0
    go_wp2
    go_ret
    exact ⟨rfl, HF.out⟩
end Go.Proofs.Ytckcbaegehfkoaa
namespace Go.Proofs.Ytckcbaegehfkoaa
open Go.RowKit Go.Lib

/-- Both parts, side by side. -/
structure TwoP (PA : World → Addr → Nat → (Nat → Nat) → (Nat → Prop) → Prop) (u w : World) (b0 : Nat) (p : Addr) (b g : Nat) (a : Option Addr) (n cap : Nat) (f : Nat → Nat) (S : Nat → Prop) : Prop where
  pa : PA w p n f S
  ge : ∀ k, S k → b0 ≤ k
  nb : ¬ S b
  ng : 0 < n → ¬ S g
  qa : QAt w b g a n cap f
  qb : b0 ≤ b
  qg : b0 ≤ g
  bel : Below b0 u w
theorem TwoP.next {PA : World → Addr → Nat → (Nat → Nat) → (Nat → Prop) → Prop} {u w w' : World} {b0 : Nat} {p : Addr} {b g : Nat} {a : Option Addr} {n cap : Nat} {f f' : Nat → Nat} {S : Nat → Prop} (h : TwoP PA u w b0 p b g a n cap f S) (hN : PNext PA S w w' p n f') (h0 : b0 ≤ u.heap.size) :
    ∃ S', PA w' p n f' S' ∧ (∀ k, S' k → b0 ≤ k) ∧ ¬ S' b ∧ (0 < n → ¬ S' g) ∧ QAt w' b g a n cap f ∧ Below b0 u w' := by
  obtain ⟨S', h1, h2, h3, h4, h5⟩ := hN.step h.ge h.bel (Nat.le_trans h0 h.bel.size)
  have hbl := block_lt_of_cell h.qa.box
  refine ⟨S', h1, h2, fun e => (h5 b e).elim h.nb (fun e => by simp at hbl; omega), fun hn e => (h5 g e).elim (h.ng hn) (fun e => by have := (h.qa.row hn).2.1; omega), h.qa.kept h4 h.nb h.ng, h3⟩
theorem TwoP.same {PA : World → Addr → Nat → (Nat → Nat) → (Nat → Prop) → Prop} {u w w' : World} {b0 : Nat} {p : Addr} {b g : Nat} {a : Option Addr} {n cap : Nat} {f : Nat → Nat} {S : Nat → Prop} (h : TwoP PA u w b0 p b g a n cap f S) (hN : PNext PA S w w' p n f) (h0 : b0 ≤ u.heap.size) : ∃ S', TwoP PA u w' b0 p b g a n cap f S' := by
  obtain ⟨S', h1, h2, h3, h4, h5, h6⟩ := h.next hN h0
  exact ⟨S', h1, h2, h3, h4, h5, h.qb, h.qg, h6⟩
end Go.Proofs.Ytckcbaegehfkoaa
namespace Go.Proofs.Ytckcbaegehfkoaa
open Go.RowKit Go.Lib

/-- Two parts, side by side. -/
structure PPr (PA : World → Addr → Nat → (Nat → Nat) → (Nat → Prop) → Prop) (u w : World) (b0 : Nat) (p q : Addr) (m : Nat) (f h : Nat → Nat) (S T : Nat → Prop) : Prop where
  pa : PA w p m f S
  qa : PA w q m h T
  sep : ∀ k, S k → ¬ T k
  geS : ∀ k, S k → b0 ≤ k
  geT : ∀ k, T k → b0 ≤ k
  bel : Below b0 u w
theorem PPr.turn {PA : World → Addr → Nat → (Nat → Nat) → (Nat → Prop) → Prop} {u w : World} {b0 : Nat} {p q : Addr} {m : Nat} {f h : Nat → Nat} {S T : Nat → Prop} (H : PPr PA u w b0 p q m f h S T) : PPr PA u w b0 q p m h f T S := ⟨H.qa, H.pa, fun k hk e => H.sep k e hk, H.geT, H.geS, H.bel⟩
end Go.Proofs.Ytckcbaegehfkoaa
namespace Go.Proofs.Ytckcbaegehfkoaa
open Go.RowKit Go.Lib

theorem RowB.kept {S : Nat → Prop} {w w' : World} {g n : Nat} {c : Nat → Bool} (h : RowB w g n c) (hk : KeptBut S w w') (hs : ¬ S g) : RowB w' g n c :=
  ⟨Nat.lt_of_lt_of_le h.1 hk.size, fun j hj => ⟨(hk.cell (p := ⟨g, j, none⟩) h.1 hs).trans (h.2 j hj).1, (hk.frozen (p := ⟨g, j, none⟩) h.1 hs).trans (h.2 j hj).2⟩⟩
end Go.Proofs.Ytckcbaegehfkoaa
namespace Go.Proofs.Ytckcbaegehfkoaa
open Go.RowKit Go.Lib

/-- A part, and what lies beside it. -/
structure POne (PA : World → Addr → Nat → (Nat → Nat) → (Nat → Prop) → Prop) (u w : World) (b0 : Nat) (p : Addr) (m : Nat) (f : Nat → Nat) (S : Nat → Prop) : Prop where
  pa : PA w p m f S
  ge : ∀ k, S k → b0 ≤ k
  bel : Below b0 u w
theorem POne.next {PA : World → Addr → Nat → (Nat → Nat) → (Nat → Prop) → Prop} {u w w' : World} {b0 : Nat} {p : Addr} {m : Nat} {f f' : Nat → Nat} {S : Nat → Prop} (H : POne PA u w b0 p m f S) (hN : PNext PA S w w' p m f') (h0 : b0 ≤ u.heap.size) :
    ∃ S', POne PA u w' b0 p m f' S' ∧ KeptBut S w w' ∧ ∀ k, S' k → S k ∨ w.heap.size ≤ k := by
  obtain ⟨S', h1, h2, h3, h4, h5⟩ := hN.step H.ge H.bel (Nat.le_trans h0 H.bel.size)
  exact ⟨S', ⟨h1, h2, h3⟩, h4, h5⟩
end Go.Proofs.Ytckcbaegehfkoaa
namespace Go.Proofs.Ytckcbaegehfkoaa
open Go.RowKit Go.Lib

theorem add_right {m p q er : Int} {ys zs : List (Int × Int)} (h : AddE m ys p q er zs) (hR : RightG m ys) (hp : 0 ≤ p ∧ p < m) (hq : 0 ≤ q ∧ q < m) (hne : p ≠ q) (hl : ys.length ≤ 300) :
    er = 0 ∧ RightG m zs ∧ ∀ e, e ∈ zs ↔ e ∈ ys ∨ e = (min p q, max p q) := by
  rcases h with ⟨h1, _⟩ | ⟨_, h2, _⟩ | ⟨h1, h2, ⟨h3, _⟩ | ⟨h3, h4, rfl, rfl⟩ | ⟨h3, h4, h5, _⟩ | ⟨h3, h4, h5, rfl, h6, h7, h8⟩⟩
  · exact absurd hR h1
  · exact absurd ⟨hp, hq⟩ h2
  · exact absurd h3 hne
  · exact ⟨rfl, hR, fun e => ⟨Or.inl, fun h => h.elim id (fun h => by rw [h]; exact h4)⟩⟩
  · omega
  · refine ⟨rfl, ⟨hR.1, hR.2.1, by omega, fun e he => ?_, h6⟩, h8⟩
    rcases (h8 e).1 he with he | rfl
    · exact hR.2.2.2.1 e he
    · simp only; omega
theorem next_ne {m p t : Nat} (hm : 2 ≤ m) (hp : p < m) (ht : t < m - 1) : ∃ q : Nat, ((p : Int) + 1 + t).tmod m = q ∧ q < m ∧ q ≠ p := by
  refine ⟨(p + 1 + t) % m, ?_, Nat.mod_lt _ (by omega), fun e => ?_⟩
  · have e : (p : Int) + 1 + t = ((p + 1 + t : Nat) : Int) := by omega
    rw [Int.tmod_eq_emod_of_nonneg (by omega), e]
    exact (Int.natCast_emod (p + 1 + t) m).symm
  · by_cases h : p + 1 + t < m
    · rw [Nat.mod_eq_of_lt h] at e; omega
    · rw [Nat.mod_eq_sub_mod (by omega), Nat.mod_eq_of_lt (by omega)] at e; omega

end Go.Proofs.Ytckcbaegehfkoaa
