/-
  The program's Lift and Drop: the sets anew (H3).
-/
import Derived.Test.YtlebimolgienkaaP09
namespace Go.Proofs.Ytlebimolgienkaa
open Go.RowKit Go.Lib Go.Shelf

theorem NewRow.cell {L : List Int} {w w' : World} {v : Value} (h : NewRow L w w' v) {B : Nat} {x : Value} (hb : w.cell? ⟨B, 0, none⟩ = some x) : w'.cell? ⟨B, 0, none⟩ = some x := (h.2.cell (p := ⟨B, 0, none⟩) (block_lt_of_cell hb)).trans hb
set_option maxHeartbeats 2000000 in
set_option maxRecDepth 100000 in
theorem lift1_any (lo hi : Int) (Bh Bl : Nat) (a : Option Addr) (c : Nat) (l : List Int) (w : World) (hl : l.length ≤ 1000000) (hI : IAt w a l) (hx : InR l) (hh : w.cell? ⟨Bh, 0, none⟩ = some (.int .i64 hi)) (hlo : w.cell? ⟨Bl, 0, none⟩ = some (.int .i64 lo)) :
    Calls Try.prog 57 #[.slice a l.length c, .pointer (some ⟨Bh, 0, none⟩), .pointer (some ⟨Bl, 0, none⟩)] w fun e w' => ∃ v, e = .returned v ∧ NewRow (liftS lo hi l) w w' v := by
  obtain ⟨i0, hi0, hz0, hz1, hz2⟩ := info_parts Try.info3
  have C := room_any hi a c l w hl hI hx
  obtain ⟨L0, hL0⟩ := ex_eq (l.map (upI hi))
  have hL0l : L0.length ≤ 1000000 := by rw [hL0, List.length_map]; exact hl
  rw [← hL0] at C
  have HC := hid C
  have CC : Hid (∀ X, Below w.heap.size w X → Calls Try.prog 59 #[.slice a l.length c, .int .i64 lo] X fun e w' => e = .returned (.bool (decide (lo ∈ l))) ∧ w' = X) := fun X hX => contains_any a c l lo X hl (hI.below hX)
  obtain ⟨N, hN⟩ := ex_eq l.length
  obtain ⟨D0, hD0⟩ := ex_eq w.heap.size
  have HD0 := hid hD0
  rw [← hN] at HC CC ⊢
  clear C hI hx hl hN
  go_enter Try.func57, Try.ntmps57
  go_wp2_with fail
  refine HC.out.mono ?_
  rintro e w2 ⟨v, rfl, hr⟩
  have b1 := hr.cell hh
  have b2 := hr.cell hlo
  have C2 := hid (CC.out w2 hr.2)
  obtain ⟨va, vc, rfl, _⟩ := sl_own hr.1
  have HR := hid hr
  clear HC CC hr hh hlo
  by_cases hin : lo ∈ l
  · rw [decide_eq_true hin] at C2
    have HE : Hid (liftS lo hi l = L0 ++ [hi]) := by show _ = _; unfold liftS; rw [if_pos hin, hL0]
    have HOW : Hid ((w2.alloc (.cells #[.int .i64 hi] 3)).ownsRow D0 3 1 (.slice va L0.length vc) L0.length (L0.map (Value.int .i64))) := by
      show World.ownsRow _ _ _ _ _ _ _
      rw [hD0]; exact HR.out.1.alloc _
    have HNW : Hid (∀ p', some (⟨w2.heap.size, 0, none⟩ : Addr) = some p' → ∀ j u, [Value.int .i64 hi][j]? = some u → (w2.alloc (.cells #[.int .i64 hi] 3)).cell? (p'.add j) = some u) := news_one _
    have HON : Hid (∀ v' ∈ [Value.int .i64 hi], v'.oneCell' = true) := fun v' hv => by simp at hv; rw [hv]; rfl
    have H63 : Hid (L0.length + 1 ≤ maxLen) := by show _ ≤ _; unfold maxLen; omega
    have HBY : Hid ((L0.length + 1) * 8 ≤ 140737488355328) := by show _ ≤ _; omega
    have HBS : Hid (D0 ≤ (w2.alloc (.cells #[.int .i64 hi] 3)).heap.size) := by
      have h1 := HR.out.2.size
      show D0 ≤ _; simp; omega
    clear hin hL0 hD0
    go_wp2_with fail
    refine C2.out.mono ?_
    rintro e w7 ⟨rfl, hw7⟩
    rw [hw7]
    clear hw7 C2
    go_wp2_with (at_builtin; refine wpList_append_any _ rfl _ _ 28 rfl D0 3 i0 _ 1 8 Try.underlying28 hi0 hz0 hz1 hz2 rfl (by decide) _ _ _ rfl HOW.out (some ⟨w2.heap.size, 0, none⟩) 1 1 [.int .i64 hi] rfl (fun h => by cases h) rfl HNW.out HON.out H63.out HBY.out HBS.out ?_)
    intro v4 w4 hown4 hgrow hat4
    have HF : Hid (NewRow (liftS lo hi l) w w4 v4) := by
      have hb2 := HR.out.2
      rw [← HD0.out] at hb2
      refine ⟨?_, ?_⟩
      · rw [HE.out, ← HD0.out, List.length_append, List.map_append]; exact hown4
      · rw [← HD0.out]
        exact (hb2.alloc (by have := HR.out.2.size; have := HD0.out; omega) _).grown hgrow HBS.out (fun q hq => by have := (HR.out.1.lt q hq).1; rw [← HD0.out] at this; exact this)
    clear hown4 hgrow hat4 HOW HNW HON H63 HBY HBS
    go_wp2
    go_ret
    exact ⟨v4, rfl, HF.out⟩
  · rw [decide_eq_false hin] at C2
    have HF : Hid (NewRow (liftS lo hi l) w w2 (.slice va L0.length vc)) := by
      have e : liftS lo hi l = L0 := by unfold liftS; rw [if_neg hin, hL0, List.append_nil]
      rw [Hid, e]; exact HR.out
    clear hin hL0 hD0
    go_wp2_with fail
    refine C2.out.mono ?_
    rintro e w7 ⟨rfl, hw7⟩
    rw [hw7]
    clear hw7 C2
    go_wp2
    go_ret
    exact ⟨_, rfl, HF.out⟩
/-- A model that a call tells: its sets in rows of their own. -/
def ModTold (k : Int) (Ts : List (List Int)) (w w' : World) (v : Value) : Prop := ∃ a' c' us, v = .agg #[.int .i64 k, .slice a' Ts.length c'] ∧ LLOwn w' w.heap.size (fun q => w.heap.size ≤ q) (.slice a' Ts.length c') us Ts ∧ Below w.heap.size w w'
theorem LLOwn.lower {w : World} {B B' : Nat} {v : Value} {us : List Value} {LL : List (List Int)} (h : LLOwn w B (fun q => B ≤ q) v us LL) (hB : B' ≤ B) : LLOwn w B' (fun q => B' ≤ q) v us LL := by
  refine ⟨⟨h.1.1, ?_⟩, h.2.1, fun g hg => Nat.le_trans hB (h.2.2.1 g hg), fun k hk => ?_⟩
  · rcases h.1.2 with h1 | ⟨g, cap, cur, h1, h2, h3⟩
    · exact Or.inl h1
    · exact Or.inr ⟨g, cap, cur, h1, Nat.le_trans hB h2, h3⟩
  · obtain ⟨ak, ck, h1, h2, h3⟩ := h.2.2.2 k hk
    exact ⟨ak, ck, h1, h2, fun g off ha h0 => ⟨Nat.le_trans hB (h3 g off ha h0).1, (h3 g off ha h0).2⟩⟩
theorem ModTold.at {k : Int} {Ts : List (List Int)} {w w' : World} {v : Value} (h : ModTold k Ts w w' v) : ∃ a' c', v = .agg #[.int .i64 k, .slice a' Ts.length c'] ∧ LLAt w' a' Ts ∧ Below w.heap.size w w' := by
  obtain ⟨a', c', us, hv, hl, hb⟩ := h
  obtain ⟨a2, c2, e, _, hat⟩ := hl.at
  simp only [Value.slice.injEq] at e
  rw [← e.1] at hat
  exact ⟨a', c', hv, hat, hb⟩
/-- It is stored in a variable that was there already. -/
theorem ModTold.store {k : Int} {Ts : List (List Int)} {w0 w w' : World} {a' : Option Addr} {c' O : Nat} (h : ModTold k Ts w w' (.agg #[.int .i64 k, .slice a' Ts.length c'])) (hb0 : Below w0.heap.size w0 w) (hO : O < w.heap.size) (hO0 : w0.heap.size ≤ O) (x y : Value) :
    ModTold k Ts w0 ((w'.setCell ⟨O, 0, none⟩ x).setCell ⟨O, 1, none⟩ y) (.agg #[.int .i64 k, .slice a' Ts.length c']) := by
  obtain ⟨a2, c2, us, hv, hl, hb⟩ := h
  simp at hv
  obtain ⟨rfl, rfl⟩ := hv
  have hkk : KeptBut (fun q => q = O) w' ((w'.setCell ⟨O, 0, none⟩ x).setCell ⟨O, 1, none⟩ y) := (kept_set w' ⟨O, 0, none⟩ _).trans (kept_set _ ⟨O, 1, none⟩ _)
  exact ⟨a', c', us, rfl, (hl.kept hkk (fun q hq _ e => by omega)).lower hb0.size, ((hb0.trans (hb.mono hb0.size)).setCell (p := ⟨O, 0, none⟩) hO0 _).setCell (p := ⟨O, 1, none⟩) hO0 _⟩
set_option maxHeartbeats 4000000 in
set_option maxRecDepth 100000 in
theorem anew_clone (g : List Int → List Int) (sa : Option Addr) (sc : Nat) (Ss : List (List Int)) (w : World) (hS : Ss.length ≤ 1000000) (hL : LLAt w sa Ss)
    (hC : ∀ (X : World) ak ck S, Below w.heap.size w X → S ∈ Ss → IAt X ak S → Calls Try.prog 56 #[.slice ak S.length ck] X fun e w' => ∃ v, e = .returned v ∧ NewRow (g S) X w' v) :
    Calls Try.prog 92 #[.slice sa Ss.length sc, .func (.func 56) #[] #[]] w fun e w' => ∃ a' c' us, e = .returned (.slice a' (Ss.map g).length c') ∧ LLOwn w' w.heap.size (fun q => w.heap.size ≤ q) (.slice a' (Ss.map g).length c') us (Ss.map g) ∧ Below w.heap.size w w' := by
  obtain ⟨i1, hi, hz0, hz1, hz2⟩ := info_parts Try.info28
  obtain ⟨N, hNe⟩ := ex_eq Ss.length
  obtain ⟨D0, hD0⟩ := ex_eq w.heap.size
  obtain ⟨w1, hrun, hown, hgrow⟩ := run_make_own (P := Try.prog) w D0 29 28 i1 (.slice none 0 0) 1 Try.underlying29 hi hz0 hz1 .i64 .i64 N (by rw [hz2]; omega) (by unfold maxLen; omega) (by omega)
  rw [← hD0] at hrun hown hC
  have hb1 : Below D0 w w1 := by rw [hD0]; exact Below.grown (Below.refl _ _) hgrow (Nat.le_refl _) (fun k hk => by cases hk)
  have HL := hid hL
  have HN := hid hNe
  have HC := hid hC
  have HD0 := hid hD0
  have HST : Hid (∃ us, LLOwn w1 D0 (fun q => D0 ≤ q) (.slice (some ⟨D0, 0, none⟩) 0 N) us ((Ss.take 0).map g)) := ⟨[], hown, rfl, fun q hq => (hown.lt q hq).1, fun k hk => by simp at hk⟩
  have HB1 := hid hb1
  rw [← hNe] at hS ⊢
  clear hNe hown hgrow hL hC hb1 hD0
  go_enter Try.func92, Try.ntmps92
  go_wp2
  clear hrun
  go_loopw [5, 13] (fun v5 i wz => ∃ k : Nat, k ≤ N ∧ i = .int .i64 k ∧ Hid (∃ us, LLOwn wz D0 (fun q => D0 ≤ q) v5 us ((Ss.take k).map g)) ∧ Hid (Below D0 w wz)) (fun _ i _ => N - (RowKit.intOf i).toNat)
  case atStart => exact ⟨0, Nat.zero_le _, rfl, HST, HB1⟩
  case round =>
    clear HST HB1
    obtain ⟨k, hk, rfl, hll, hbz⟩ := hrel
    obtain ⟨us, hLO⟩ := hll.out
    by_cases hlt : k < N
    · have hkr : k < Ss.length := by rw [← HN.out]; exact hlt
      obtain ⟨g0, off, ak, ck, rfl, c00, hI0⟩ := HL.out.at hkr
      have c0 := (hbz.out.cell (p := ⟨g0, off + k, none⟩) (by simp only; rw [HD0.out]; exact block_lt_of_cell c00)).trans c00
      obtain ⟨L, hLg⟩ := ex_eq (g Ss[k])
      have C := hid (HC.out wr ak ck Ss[k] hbz.out (List.getElem_mem hkr) (hI0.below (by rw [← HD0.out]; exact hbz.out)))
      obtain ⟨J, hJ⟩ := ex_eq Ss[k].length
      rw [← hJ] at c0 C
      rw [← hLg] at C
      obtain ⟨LL0, hLL0⟩ := ex_eq ((Ss.take k).map g)
      rw [← hLL0] at hLO
      have hLLl : LL0.length = k := by rw [hLL0, List.length_map, List.length_take]; omega
      have HNX : Hid ((Ss.take (k + 1)).map g = LL0 ++ [L]) := by
        show _ = _
        rw [hLL0, hLg, ← List.take_append_getElem hkr, List.map_append]; rfl
      have hw5 := hLO.1
      rw [hLLl] at hw5
      obtain ⟨va, vc, rfl, _⟩ := sl_own hw5
      have HLO := hid hLO
      have HLL := hid hLLl
      have q1 : (k : Int) < (N : Int) := by omega
      clear hI0 c00 hLg hJ hll hLL0 hLO hw5 hLLl
      go_wp2_with fail
      refine C.out.mono ?_
      rintro e w3 ⟨v3, rfl, hr3⟩
      obtain ⟨ra, rc, rfl, hI3⟩ := own_form hr3.1
      have hLO3 := HLO.out.below hr3.2
      have hb3 : Below D0 w w3 := hbz.out.trans (hr3.2.mono (by rw [HD0.out]; exact hbz.out.size))
      have HRA : Hid (∀ g1 o1, ra = some ⟨g1, o1, none⟩ → 0 < L.length → D0 ≤ g1 ∧ Value.ownBlock (.slice va k vc) ≠ some g1) := fun g1 o1 ha h0 => by
        have h1 := (hr3.1.lt g1 (by rw [ha]; rfl)).1
        refine ⟨by have := hbz.out.size; have := HD0.out; omega, fun e => ?_⟩
        have := (HLO.out.1.lt g1 e).2
        omega
      have HI3 := hid hI3
      have HLO3 := hid hLO3
      have HB3 := hid hb3
      have HOW : Hid ((w3.alloc (.cells #[.slice ra L.length rc] 28)).ownsRow D0 28 1 (.slice va k vc) k us) := by
        show World.ownsRow _ _ _ _ _ _ _
        have h1 := hLO3.1
        rw [HLL.out] at h1
        exact h1.alloc _
      have HNW : Hid (∀ p', some (⟨w3.heap.size, 0, none⟩ : Addr) = some p' → ∀ j u, [Value.slice ra L.length rc][j]? = some u → (w3.alloc (.cells #[.slice ra L.length rc] 28)).cell? (p'.add j) = some u) := news_one _
      have HON : Hid (∀ v' ∈ [Value.slice ra L.length rc], v'.oneCell' = true) := fun v' hv => by simp at hv; rw [hv]; rfl
      have H63 : Hid (k + 1 ≤ maxLen) := by show _ ≤ _; unfold maxLen; omega
      have HBY : Hid ((k + 1) * 24 ≤ 140737488355328) := by show _ ≤ _; omega
      have hsz3 : D0 ≤ w3.heap.size := by have h1 := hb3.size; have h2 := HD0.out; omega
      have HBS : Hid (D0 ≤ (w3.alloc (.cells #[.slice ra L.length rc] 28)).heap.size) := by show D0 ≤ _; simp; omega
      clear hr3 hI3 hLO3 hb3 C c0 hbz
      go_wp2_with (at_builtin; refine wpList_append_any _ rfl _ _ 29 rfl D0 28 i1 _ 1 24 Try.underlying29 hi hz0 hz1 hz2 rfl (by decide) _ _ _ rfl HOW.out (some ⟨w3.heap.size, 0, none⟩) 1 1 [.slice ra L.length rc] rfl (fun h => by cases h) rfl HNW.out HON.out H63.out HBY.out HBS.out ?_)
      intro v4 w4 hown4 hgrow hat4
      have HLN : Hid (∃ us, LLOwn w4 D0 (fun q => D0 ≤ q) v4 us ((Ss.take (k + 1)).map g)) := by
        refine ⟨us ++ [.slice ra L.length rc], ?_⟩
        rw [HNX.out]
        exact HLO3.out.put HI3.out HRA.out (by show D0 ≤ _; exact HBS.out) (by rw [HLL.out]; exact hown4) hgrow (hat4.imp id (fun h => by rw [World.size_alloc]; exact h))
      have HB4 : Hid (Below D0 w w4) := (HB3.out.alloc hsz3 _).grown hgrow HBS.out (fun q hq => (HLO3.out.1.lt q hq).1)
      clear hown4 hgrow hat4 HNX HOW HNW HON H63 HBY HBS HRA HI3 HLO3 HLO HB3
      go_wp2
      go_roundw
      case rel => exact ⟨k + 1, by omega, by go_num, HLN, HB4⟩
      case measure => simp [RowKit.intOf]; omega
    · obtain rfl : k = N := by omega
      have e : (Ss.take k).map g = Ss.map g := by rw [HN.out, List.take_length]
      rw [e] at hLO
      obtain ⟨a', c', rfl, _, _⟩ := hLO.at
      have HA : Hid (LLOwn wr w.heap.size (fun q => w.heap.size ≤ q) (.slice a' (Ss.map g).length c') us (Ss.map g)) := by rw [← HD0.out]; exact hLO
      have HBF : Hid (Below w.heap.size w wr) := by rw [← HD0.out]; exact hbz.out
      obtain ⟨M, hM⟩ := ex_eq (Ss.map g).length
      rw [← hM]
      have HM := hid hM
      clear hll hLO hbz e hM
      go_wp2
      go_ret
      exact ⟨a', c', us, by rw [← HM.out]; rfl, HA.out, HBF.out⟩

set_option maxHeartbeats 4000000 in
set_option maxRecDepth 100000 in
theorem changed_clone (g : List Int → List Int) (k : Int) (sa : Option Addr) (sc : Nat) (Ss : List (List Int)) (w : World) (hS : Ss.length ≤ 1000000) (hL : LLAt w sa Ss)
    (hC : ∀ (X : World) ak ck S, Below w.heap.size w X → S ∈ Ss → IAt X ak S → Calls Try.prog 56 #[.slice ak S.length ck] X fun e w' => ∃ v, e = .returned v ∧ NewRow (g S) X w' v) :
    Calls Try.prog 55 #[.agg #[.int .i64 k, .slice sa Ss.length sc], .func (.func 56) #[] #[]] w fun e w' => ∃ v, e = .returned v ∧ ModTold k (Ss.map g) w w' v := by
  obtain ⟨N, hNe⟩ := ex_eq Ss.length
  obtain ⟨M, hMe⟩ := ex_eq (Ss.map g).length
  obtain ⟨W, hW, hsW, hO0, hO1, hbW⟩ := new_two w (.cells #[.int .i64 k, .slice sa N sc] 40) (.cells #[.int .i64 0, .slice none 0 0] 40)
  have CA := anew_clone g sa sc Ss W.drew hS (hL.below (hbW.drew)) (fun X ak ck S hX hm hI => hC X ak ck S (hbW.drew.trans (hX.mono hbW.drew.size)) hm hI)
  rw [← hNe, ← hMe] at CA
  have HCA := hid CA
  have HX : Hid (∀ X, Below W.drew.heap.size W.drew X → (X.cell? ⟨w.heap.size, 0, none⟩ = some (.int .i64 k) ∧ X.cell? ⟨w.heap.size, 1, none⟩ = some (.slice sa N sc)) ∧ (X.cell? ⟨w.heap.size + 1, 0, none⟩ = some (.int .i64 0) ∧ X.cell? ⟨w.heap.size + 1, 1, none⟩ = some (.slice none 0 0) ∧ X.frozen? ⟨w.heap.size + 1, 0, none⟩ = false ∧ X.frozen? ⟨w.heap.size + 1, 1, none⟩ = false) ∧ Below w.heap.size w X) := fun X hX => by
    have o0 := (hX.block w.heap.size (by show _ < W.heap.size; omega)).trans hO0
    have o1 := (hX.block (w.heap.size + 1) (by show _ < W.heap.size; omega)).trans hO1
    exact ⟨⟨cell_of_heap o0 0, cell_of_heap o0 1⟩, ⟨cell_of_heap o1 0, cell_of_heap o1 1, frozen_of_heap o1 0, frozen_of_heap o1 1⟩, hbW.drew.trans (hX.mono hbW.drew.size)⟩
  have HS7 : Hid (∀ X, Below W.drew.heap.size W.drew X → ∀ x y, ((X.setCell ⟨w.heap.size + 1, 0, none⟩ x).setCell ⟨w.heap.size + 1, 1, none⟩ y).cell? ⟨w.heap.size, 0, none⟩ = some (.int .i64 k) ∧ ((X.setCell ⟨w.heap.size + 1, 0, none⟩ x).setCell ⟨w.heap.size + 1, 1, none⟩ y).cell? ⟨w.heap.size, 1, none⟩ = some (.slice sa N sc)) := fun X hX x y => by
    obtain ⟨⟨h0, h1⟩, _⟩ := HX.out X hX
    refine ⟨?_, ?_⟩
    · rw [World.cell?_setCell_other _ _ _ _ (fun e => by have := congrArg Addr.block e; simp at this), World.cell?_setCell_other _ _ _ _ (fun e => by have := congrArg Addr.block e; simp at this)]; exact h0
    · rw [World.cell?_setCell_other _ _ _ _ (fun e => by have := congrArg Addr.block e; simp at this), World.cell?_setCell_other _ _ _ _ (fun e => by have := congrArg Addr.block e; simp at this)]; exact h1
  have HF : Hid (∀ X a' c' us, Below W.drew.heap.size W.drew X → LLOwn X W.drew.heap.size (fun q => W.drew.heap.size ≤ q) (.slice a' M c') us (Ss.map g) → ModTold k (Ss.map g) w ((X.setCell ⟨w.heap.size + 1, 0, none⟩ (.int .i64 k)).setCell ⟨w.heap.size + 1, 1, none⟩ (.slice a' M c')) (.agg #[.int .i64 k, .slice a' M c'])) := fun X a' c' us hX hLL => by
    refine ⟨a', c', us, by rw [hMe], ?_, ((HX.out X hX).2.2.setCell (p := ⟨w.heap.size + 1, 0, none⟩) (by simp) _).setCell (p := ⟨w.heap.size + 1, 1, none⟩) (by simp) _⟩
    have hkk : KeptBut (fun q => q = w.heap.size + 1) X ((X.setCell ⟨w.heap.size + 1, 0, none⟩ (.int .i64 k)).setCell ⟨w.heap.size + 1, 1, none⟩ (.slice a' M c')) := (kept_set X ⟨w.heap.size + 1, 0, none⟩ _).trans (kept_set _ ⟨w.heap.size + 1, 1, none⟩ _)
    have hk := hLL.kept hkk (fun q hq _ e => by have hq' : W.heap.size ≤ q := hq; omega)
    rw [← hMe]
    exact hk.lower hbW.size
  rw [← hNe]
  clear CA hNe hMe hbW hL hC
  have hS : W.drew.cell? ⟨w.heap.size, 0, none⟩ = some (.int .i64 k) ∧ W.drew.cell? ⟨w.heap.size, 1, none⟩ = some (.slice sa N sc) := (HX.out W.drew (Below.refl _ _)).1
  have HW := hid hW
  clear hW hO0 hO1
  go_enter Try.func55, Try.ntmps55
  go_upto_region 1 with fail
  rw [← HW.out]
  refine wp_region_held_drew (S := (fun X : World => X.cell? ⟨w.heap.size, 0, none⟩ = some (.int .i64 k) ∧ X.cell? ⟨w.heap.size, 1, none⟩ = some (.slice sa N sc))) (by kernel_rfl) hS (fun hHeld => ?_)
  (refine takeW (i := 0) (dst := some 5) (v := ?_) rfl rfl (by kernel_rfl) (by kernel_rfl) (by kernel_rfl) (fun _ _ _ h => h) (Or.inl ⟨by rfl, ?_⟩) hHeld ?_; rotate_left; focus (intro w hSw; (try dsimp only at hSw); go_simp; (try with_reducible rfl); done))
  try simp only [Act.put, List.setIfInBounds_toArray, List.set_cons_zero, List.set_cons_succ]
  (refine takeW (i := 1) (dst := some 6) (v := ?_) rfl rfl (by kernel_rfl) (by kernel_rfl) (by kernel_rfl) (fun _ _ _ h => h) (Or.inl ⟨by rfl, ?_⟩) hHeld ?_; rotate_left; focus (intro w hSw; (try dsimp only at hSw); go_simp; (try with_reducible rfl); done))
  try simp only [Act.put, List.setIfInBounds_toArray, List.set_cons_zero, List.set_cons_succ]
  (refine takeW (i := 2) (dst := some 7) (v := ?_) rfl rfl (by kernel_rfl) (by kernel_rfl) (by kernel_rfl) (fun _ _ _ h => h) (Or.inl ⟨by rfl, ?_⟩) hHeld ?_; rotate_left; focus (intro w hSw; (try dsimp only at hSw); go_simp; (try with_reducible rfl); done))
  try simp only [Act.put, List.setIfInBounds_toArray, List.set_cons_zero, List.set_cons_succ]
  (refine takeW (i := 3) (dst := some 8) (v := ?_) rfl rfl (by kernel_rfl) (by kernel_rfl) (by kernel_rfl) (fun _ _ _ h => h) (Or.inl ⟨by rfl, ?_⟩) hHeld ?_; rotate_left; focus (intro w hSw; (try dsimp only at hSw); go_simp; (try with_reducible rfl); done))
  try simp only [Act.put, List.setIfInBounds_toArray, List.set_cons_zero, List.set_cons_succ]
  (refine takeW (i := 4) (dst := some 9) (v := ?_) rfl rfl (by kernel_rfl) (by kernel_rfl) (by kernel_rfl) (fun _ _ _ h => h) (Or.inl ⟨by rfl, ?_⟩) hHeld ?_; rotate_left; focus (intro w hSw; (try dsimp only at hSw); go_simp; (try with_reducible rfl); done))
  try simp only [Act.put, List.setIfInBounds_toArray, List.set_cons_zero, List.set_cons_succ]
  refine wpAnyH_ready (rs := [5]) (by kernel_rfl) (by simp) ?_
  refine AllReadyH.cons (o := _) rfl (fun KK hK => ?_) AllReadyH.nil
  go_simp
  refine HCA.out.mono ?_
  rintro e y1 ⟨a', c', us, rfl, hll, hby⟩
  have HLL := hid hll
  have HBY := hid hby
  obtain ⟨z0, z1, zf0, zf1⟩ := (HX.out y1 hby).2.1
  have hS1 := (HX.out y1 hby).1
  clear hll hby
  refine hK.out _ _ hS1 (fun hHeld => ?_)
  clear hK KK
  try simp only [Act.put]
  try simp only [List.setIfInBounds_toArray]
  try simp only [List.set_cons_succ]
  try simp only [List.set_cons_zero]
  (refine takeW (i := 6) (dst := some 11) (v := ?_) rfl rfl (by kernel_rfl) (by kernel_rfl) (by kernel_rfl) (fun _ _ _ h => h) (Or.inl ⟨by rfl, ?_⟩) hHeld ?_; rotate_left; focus (intro w hSw; (try dsimp only at hSw); go_simp; (try with_reducible rfl); done))
  try simp only [Act.put, List.setIfInBounds_toArray, List.set_cons_zero, List.set_cons_succ]
  refine wpAnyH_ready (rs := [7]) (by kernel_rfl) (by simp) ?_
  refine AllReadyH.cons (o := _) rfl (fun KK hK => ?_) AllReadyH.nil
  go_simp
  refine hK.out _ _ (HS7.out y1 HBY.out _ _) (fun hHeld => ?_)
  clear hK KK
  try simp only [Act.put]
  try simp only [List.setIfInBounds_toArray]
  try simp only [List.set_cons_succ]
  try simp only [List.set_cons_zero]
  refine wpAnyH_done (by kernel_rfl) ?_ _
  have HFF := hid (HF.out y1 a' c' us HBY.out HLL.out)
  clear HF hHeld HLL hS
  go_wp2
  refine bodyPost_ret (v := .agg #[.int .i64 k, .slice a' M c']) ?_ rfl ⟨_, rfl, HFF.out⟩
  rw [results_cell1 rfl]
  go_simp

set_option maxHeartbeats 4000000 in
set_option maxRecDepth 100000 in
theorem anew_lift (Bh Bl : Nat) (g : List Int → List Int) (sa : Option Addr) (sc : Nat) (Ss : List (List Int)) (w : World) (hS : Ss.length ≤ 1000000) (hL : LLAt w sa Ss)
    (hC : ∀ (X : World) ak ck S, Below w.heap.size w X → S ∈ Ss → IAt X ak S → Calls Try.prog 57 #[.slice ak S.length ck, .pointer (some ⟨Bh, 0, none⟩), .pointer (some ⟨Bl, 0, none⟩)] X fun e w' => ∃ v, e = .returned v ∧ NewRow (g S) X w' v) :
    Calls Try.prog 92 #[.slice sa Ss.length sc, .func (.func 57) #[] #[.pointer (some ⟨Bh, 0, none⟩), .pointer (some ⟨Bl, 0, none⟩)]] w fun e w' => ∃ a' c' us, e = .returned (.slice a' (Ss.map g).length c') ∧ LLOwn w' w.heap.size (fun q => w.heap.size ≤ q) (.slice a' (Ss.map g).length c') us (Ss.map g) ∧ Below w.heap.size w w' := by
  obtain ⟨i1, hi, hz0, hz1, hz2⟩ := info_parts Try.info28
  obtain ⟨N, hNe⟩ := ex_eq Ss.length
  obtain ⟨D0, hD0⟩ := ex_eq w.heap.size
  obtain ⟨w1, hrun, hown, hgrow⟩ := run_make_own (P := Try.prog) w D0 29 28 i1 (.slice none 0 0) 1 Try.underlying29 hi hz0 hz1 .i64 .i64 N (by rw [hz2]; omega) (by unfold maxLen; omega) (by omega)
  rw [← hD0] at hrun hown hC
  have hb1 : Below D0 w w1 := by rw [hD0]; exact Below.grown (Below.refl _ _) hgrow (Nat.le_refl _) (fun k hk => by cases hk)
  have HL := hid hL
  have HN := hid hNe
  have HC := hid hC
  have HD0 := hid hD0
  have HST : Hid (∃ us, LLOwn w1 D0 (fun q => D0 ≤ q) (.slice (some ⟨D0, 0, none⟩) 0 N) us ((Ss.take 0).map g)) := ⟨[], hown, rfl, fun q hq => (hown.lt q hq).1, fun k hk => by simp at hk⟩
  have HB1 := hid hb1
  rw [← hNe] at hS ⊢
  clear hNe hown hgrow hL hC hb1 hD0
  go_enter Try.func92, Try.ntmps92
  go_wp2
  clear hrun
  go_loopw [5, 13] (fun v5 i wz => ∃ k : Nat, k ≤ N ∧ i = .int .i64 k ∧ Hid (∃ us, LLOwn wz D0 (fun q => D0 ≤ q) v5 us ((Ss.take k).map g)) ∧ Hid (Below D0 w wz)) (fun _ i _ => N - (RowKit.intOf i).toNat)
  case atStart => exact ⟨0, Nat.zero_le _, rfl, HST, HB1⟩
  case round =>
    clear HST HB1
    obtain ⟨k, hk, rfl, hll, hbz⟩ := hrel
    obtain ⟨us, hLO⟩ := hll.out
    by_cases hlt : k < N
    · have hkr : k < Ss.length := by rw [← HN.out]; exact hlt
      obtain ⟨g0, off, ak, ck, rfl, c00, hI0⟩ := HL.out.at hkr
      have c0 := (hbz.out.cell (p := ⟨g0, off + k, none⟩) (by simp only; rw [HD0.out]; exact block_lt_of_cell c00)).trans c00
      obtain ⟨L, hLg⟩ := ex_eq (g Ss[k])
      have C := hid (HC.out wr ak ck Ss[k] hbz.out (List.getElem_mem hkr) (hI0.below (by rw [← HD0.out]; exact hbz.out)))
      obtain ⟨J, hJ⟩ := ex_eq Ss[k].length
      rw [← hJ] at c0 C
      rw [← hLg] at C
      obtain ⟨LL0, hLL0⟩ := ex_eq ((Ss.take k).map g)
      rw [← hLL0] at hLO
      have hLLl : LL0.length = k := by rw [hLL0, List.length_map, List.length_take]; omega
      have HNX : Hid ((Ss.take (k + 1)).map g = LL0 ++ [L]) := by
        show _ = _
        rw [hLL0, hLg, ← List.take_append_getElem hkr, List.map_append]; rfl
      have hw5 := hLO.1
      rw [hLLl] at hw5
      obtain ⟨va, vc, rfl, _⟩ := sl_own hw5
      have HLO := hid hLO
      have HLL := hid hLLl
      have q1 : (k : Int) < (N : Int) := by omega
      clear hI0 c00 hLg hJ hll hLL0 hLO hw5 hLLl
      go_wp2_with fail
      refine C.out.mono ?_
      rintro e w3 ⟨v3, rfl, hr3⟩
      obtain ⟨ra, rc, rfl, hI3⟩ := own_form hr3.1
      have hLO3 := HLO.out.below hr3.2
      have hb3 : Below D0 w w3 := hbz.out.trans (hr3.2.mono (by rw [HD0.out]; exact hbz.out.size))
      have HRA : Hid (∀ g1 o1, ra = some ⟨g1, o1, none⟩ → 0 < L.length → D0 ≤ g1 ∧ Value.ownBlock (.slice va k vc) ≠ some g1) := fun g1 o1 ha h0 => by
        have h1 := (hr3.1.lt g1 (by rw [ha]; rfl)).1
        refine ⟨by have := hbz.out.size; have := HD0.out; omega, fun e => ?_⟩
        have := (HLO.out.1.lt g1 e).2
        omega
      have HI3 := hid hI3
      have HLO3 := hid hLO3
      have HB3 := hid hb3
      have HOW : Hid ((w3.alloc (.cells #[.slice ra L.length rc] 28)).ownsRow D0 28 1 (.slice va k vc) k us) := by
        show World.ownsRow _ _ _ _ _ _ _
        have h1 := hLO3.1
        rw [HLL.out] at h1
        exact h1.alloc _
      have HNW : Hid (∀ p', some (⟨w3.heap.size, 0, none⟩ : Addr) = some p' → ∀ j u, [Value.slice ra L.length rc][j]? = some u → (w3.alloc (.cells #[.slice ra L.length rc] 28)).cell? (p'.add j) = some u) := news_one _
      have HON : Hid (∀ v' ∈ [Value.slice ra L.length rc], v'.oneCell' = true) := fun v' hv => by simp at hv; rw [hv]; rfl
      have H63 : Hid (k + 1 ≤ maxLen) := by show _ ≤ _; unfold maxLen; omega
      have HBY : Hid ((k + 1) * 24 ≤ 140737488355328) := by show _ ≤ _; omega
      have hsz3 : D0 ≤ w3.heap.size := by have h1 := hb3.size; have h2 := HD0.out; omega
      have HBS : Hid (D0 ≤ (w3.alloc (.cells #[.slice ra L.length rc] 28)).heap.size) := by show D0 ≤ _; simp; omega
      clear hr3 hI3 hLO3 hb3 C c0 hbz
      go_wp2_with (at_builtin; refine wpList_append_any _ rfl _ _ 29 rfl D0 28 i1 _ 1 24 Try.underlying29 hi hz0 hz1 hz2 rfl (by decide) _ _ _ rfl HOW.out (some ⟨w3.heap.size, 0, none⟩) 1 1 [.slice ra L.length rc] rfl (fun h => by cases h) rfl HNW.out HON.out H63.out HBY.out HBS.out ?_)
      intro v4 w4 hown4 hgrow hat4
      have HLN : Hid (∃ us, LLOwn w4 D0 (fun q => D0 ≤ q) v4 us ((Ss.take (k + 1)).map g)) := by
        refine ⟨us ++ [.slice ra L.length rc], ?_⟩
        rw [HNX.out]
        exact HLO3.out.put HI3.out HRA.out (by show D0 ≤ _; exact HBS.out) (by rw [HLL.out]; exact hown4) hgrow (hat4.imp id (fun h => by rw [World.size_alloc]; exact h))
      have HB4 : Hid (Below D0 w w4) := (HB3.out.alloc hsz3 _).grown hgrow HBS.out (fun q hq => (HLO3.out.1.lt q hq).1)
      clear hown4 hgrow hat4 HNX HOW HNW HON H63 HBY HBS HRA HI3 HLO3 HLO HB3
      go_wp2
      go_roundw
      case rel => exact ⟨k + 1, by omega, by go_num, HLN, HB4⟩
      case measure => simp [RowKit.intOf]; omega
    · obtain rfl : k = N := by omega
      have e : (Ss.take k).map g = Ss.map g := by rw [HN.out, List.take_length]
      rw [e] at hLO
      obtain ⟨a', c', rfl, _, _⟩ := hLO.at
      have HA : Hid (LLOwn wr w.heap.size (fun q => w.heap.size ≤ q) (.slice a' (Ss.map g).length c') us (Ss.map g)) := by rw [← HD0.out]; exact hLO
      have HBF : Hid (Below w.heap.size w wr) := by rw [← HD0.out]; exact hbz.out
      obtain ⟨M, hM⟩ := ex_eq (Ss.map g).length
      rw [← hM]
      have HM := hid hM
      clear hll hLO hbz e hM
      go_wp2
      go_ret
      exact ⟨a', c', us, by rw [← HM.out]; rfl, HA.out, HBF.out⟩

set_option maxHeartbeats 4000000 in
set_option maxRecDepth 100000 in
theorem changed_lift (Bh Bl : Nat) (g : List Int → List Int) (k : Int) (sa : Option Addr) (sc : Nat) (Ss : List (List Int)) (w : World) (hS : Ss.length ≤ 1000000) (hL : LLAt w sa Ss)
    (hC : ∀ (X : World) ak ck S, Below w.heap.size w X → S ∈ Ss → IAt X ak S → Calls Try.prog 57 #[.slice ak S.length ck, .pointer (some ⟨Bh, 0, none⟩), .pointer (some ⟨Bl, 0, none⟩)] X fun e w' => ∃ v, e = .returned v ∧ NewRow (g S) X w' v) :
    Calls Try.prog 55 #[.agg #[.int .i64 k, .slice sa Ss.length sc], .func (.func 57) #[] #[.pointer (some ⟨Bh, 0, none⟩), .pointer (some ⟨Bl, 0, none⟩)]] w fun e w' => ∃ v, e = .returned v ∧ ModTold k (Ss.map g) w w' v := by
  obtain ⟨N, hNe⟩ := ex_eq Ss.length
  obtain ⟨M, hMe⟩ := ex_eq (Ss.map g).length
  obtain ⟨W, hW, hsW, hO0, hO1, hbW⟩ := new_two w (.cells #[.int .i64 k, .slice sa N sc] 40) (.cells #[.int .i64 0, .slice none 0 0] 40)
  have CA := anew_lift Bh Bl g sa sc Ss W.drew hS (hL.below (hbW.drew)) (fun X ak ck S hX hm hI => hC X ak ck S (hbW.drew.trans (hX.mono hbW.drew.size)) hm hI)
  rw [← hNe, ← hMe] at CA
  have HCA := hid CA
  have HX : Hid (∀ X, Below W.drew.heap.size W.drew X → (X.cell? ⟨w.heap.size, 0, none⟩ = some (.int .i64 k) ∧ X.cell? ⟨w.heap.size, 1, none⟩ = some (.slice sa N sc)) ∧ (X.cell? ⟨w.heap.size + 1, 0, none⟩ = some (.int .i64 0) ∧ X.cell? ⟨w.heap.size + 1, 1, none⟩ = some (.slice none 0 0) ∧ X.frozen? ⟨w.heap.size + 1, 0, none⟩ = false ∧ X.frozen? ⟨w.heap.size + 1, 1, none⟩ = false) ∧ Below w.heap.size w X) := fun X hX => by
    have o0 := (hX.block w.heap.size (by show _ < W.heap.size; omega)).trans hO0
    have o1 := (hX.block (w.heap.size + 1) (by show _ < W.heap.size; omega)).trans hO1
    exact ⟨⟨cell_of_heap o0 0, cell_of_heap o0 1⟩, ⟨cell_of_heap o1 0, cell_of_heap o1 1, frozen_of_heap o1 0, frozen_of_heap o1 1⟩, hbW.drew.trans (hX.mono hbW.drew.size)⟩
  have HS7 : Hid (∀ X, Below W.drew.heap.size W.drew X → ∀ x y, ((X.setCell ⟨w.heap.size + 1, 0, none⟩ x).setCell ⟨w.heap.size + 1, 1, none⟩ y).cell? ⟨w.heap.size, 0, none⟩ = some (.int .i64 k) ∧ ((X.setCell ⟨w.heap.size + 1, 0, none⟩ x).setCell ⟨w.heap.size + 1, 1, none⟩ y).cell? ⟨w.heap.size, 1, none⟩ = some (.slice sa N sc)) := fun X hX x y => by
    obtain ⟨⟨h0, h1⟩, _⟩ := HX.out X hX
    refine ⟨?_, ?_⟩
    · rw [World.cell?_setCell_other _ _ _ _ (fun e => by have := congrArg Addr.block e; simp at this), World.cell?_setCell_other _ _ _ _ (fun e => by have := congrArg Addr.block e; simp at this)]; exact h0
    · rw [World.cell?_setCell_other _ _ _ _ (fun e => by have := congrArg Addr.block e; simp at this), World.cell?_setCell_other _ _ _ _ (fun e => by have := congrArg Addr.block e; simp at this)]; exact h1
  have HF : Hid (∀ X a' c' us, Below W.drew.heap.size W.drew X → LLOwn X W.drew.heap.size (fun q => W.drew.heap.size ≤ q) (.slice a' M c') us (Ss.map g) → ModTold k (Ss.map g) w ((X.setCell ⟨w.heap.size + 1, 0, none⟩ (.int .i64 k)).setCell ⟨w.heap.size + 1, 1, none⟩ (.slice a' M c')) (.agg #[.int .i64 k, .slice a' M c'])) := fun X a' c' us hX hLL => by
    refine ⟨a', c', us, by rw [hMe], ?_, ((HX.out X hX).2.2.setCell (p := ⟨w.heap.size + 1, 0, none⟩) (by simp) _).setCell (p := ⟨w.heap.size + 1, 1, none⟩) (by simp) _⟩
    have hkk : KeptBut (fun q => q = w.heap.size + 1) X ((X.setCell ⟨w.heap.size + 1, 0, none⟩ (.int .i64 k)).setCell ⟨w.heap.size + 1, 1, none⟩ (.slice a' M c')) := (kept_set X ⟨w.heap.size + 1, 0, none⟩ _).trans (kept_set _ ⟨w.heap.size + 1, 1, none⟩ _)
    have hk := hLL.kept hkk (fun q hq _ e => by have hq' : W.heap.size ≤ q := hq; omega)
    rw [← hMe]
    exact hk.lower hbW.size
  rw [← hNe]
  clear CA hNe hMe hbW hL hC
  have hS : W.drew.cell? ⟨w.heap.size, 0, none⟩ = some (.int .i64 k) ∧ W.drew.cell? ⟨w.heap.size, 1, none⟩ = some (.slice sa N sc) := (HX.out W.drew (Below.refl _ _)).1
  have HW := hid hW
  clear hW hO0 hO1
  go_enter Try.func55, Try.ntmps55
  go_upto_region 1 with fail
  rw [← HW.out]
  refine wp_region_held_drew (S := (fun X : World => X.cell? ⟨w.heap.size, 0, none⟩ = some (.int .i64 k) ∧ X.cell? ⟨w.heap.size, 1, none⟩ = some (.slice sa N sc))) (by kernel_rfl) hS (fun hHeld => ?_)
  (refine takeW (i := 0) (dst := some 5) (v := ?_) rfl rfl (by kernel_rfl) (by kernel_rfl) (by kernel_rfl) (fun _ _ _ h => h) (Or.inl ⟨by rfl, ?_⟩) hHeld ?_; rotate_left; focus (intro w hSw; (try dsimp only at hSw); go_simp; (try with_reducible rfl); done))
  try simp only [Act.put, List.setIfInBounds_toArray, List.set_cons_zero, List.set_cons_succ]
  (refine takeW (i := 1) (dst := some 6) (v := ?_) rfl rfl (by kernel_rfl) (by kernel_rfl) (by kernel_rfl) (fun _ _ _ h => h) (Or.inl ⟨by rfl, ?_⟩) hHeld ?_; rotate_left; focus (intro w hSw; (try dsimp only at hSw); go_simp; (try with_reducible rfl); done))
  try simp only [Act.put, List.setIfInBounds_toArray, List.set_cons_zero, List.set_cons_succ]
  (refine takeW (i := 2) (dst := some 7) (v := ?_) rfl rfl (by kernel_rfl) (by kernel_rfl) (by kernel_rfl) (fun _ _ _ h => h) (Or.inl ⟨by rfl, ?_⟩) hHeld ?_; rotate_left; focus (intro w hSw; (try dsimp only at hSw); go_simp; (try with_reducible rfl); done))
  try simp only [Act.put, List.setIfInBounds_toArray, List.set_cons_zero, List.set_cons_succ]
  (refine takeW (i := 3) (dst := some 8) (v := ?_) rfl rfl (by kernel_rfl) (by kernel_rfl) (by kernel_rfl) (fun _ _ _ h => h) (Or.inl ⟨by rfl, ?_⟩) hHeld ?_; rotate_left; focus (intro w hSw; (try dsimp only at hSw); go_simp; (try with_reducible rfl); done))
  try simp only [Act.put, List.setIfInBounds_toArray, List.set_cons_zero, List.set_cons_succ]
  (refine takeW (i := 4) (dst := some 9) (v := ?_) rfl rfl (by kernel_rfl) (by kernel_rfl) (by kernel_rfl) (fun _ _ _ h => h) (Or.inl ⟨by rfl, ?_⟩) hHeld ?_; rotate_left; focus (intro w hSw; (try dsimp only at hSw); go_simp; (try with_reducible rfl); done))
  try simp only [Act.put, List.setIfInBounds_toArray, List.set_cons_zero, List.set_cons_succ]
  refine wpAnyH_ready (rs := [5]) (by kernel_rfl) (by simp) ?_
  refine AllReadyH.cons (o := _) rfl (fun KK hK => ?_) AllReadyH.nil
  go_simp
  refine HCA.out.mono ?_
  rintro e y1 ⟨a', c', us, rfl, hll, hby⟩
  have HLL := hid hll
  have HBY := hid hby
  obtain ⟨z0, z1, zf0, zf1⟩ := (HX.out y1 hby).2.1
  have hS1 := (HX.out y1 hby).1
  clear hll hby
  refine hK.out _ _ hS1 (fun hHeld => ?_)
  clear hK KK
  try simp only [Act.put]
  try simp only [List.setIfInBounds_toArray]
  try simp only [List.set_cons_succ]
  try simp only [List.set_cons_zero]
  (refine takeW (i := 6) (dst := some 11) (v := ?_) rfl rfl (by kernel_rfl) (by kernel_rfl) (by kernel_rfl) (fun _ _ _ h => h) (Or.inl ⟨by rfl, ?_⟩) hHeld ?_; rotate_left; focus (intro w hSw; (try dsimp only at hSw); go_simp; (try with_reducible rfl); done))
  try simp only [Act.put, List.setIfInBounds_toArray, List.set_cons_zero, List.set_cons_succ]
  refine wpAnyH_ready (rs := [7]) (by kernel_rfl) (by simp) ?_
  refine AllReadyH.cons (o := _) rfl (fun KK hK => ?_) AllReadyH.nil
  go_simp
  refine hK.out _ _ (HS7.out y1 HBY.out _ _) (fun hHeld => ?_)
  clear hK KK
  try simp only [Act.put]
  try simp only [List.setIfInBounds_toArray]
  try simp only [List.set_cons_succ]
  try simp only [List.set_cons_zero]
  refine wpAnyH_done (by kernel_rfl) ?_ _
  have HFF := hid (HF.out y1 a' c' us HBY.out HLL.out)
  clear HF hHeld HLL hS
  go_wp2
  refine bodyPost_ret (v := .agg #[.int .i64 k, .slice a' M c']) ?_ rfl ⟨_, rfl, HFF.out⟩
  rw [results_cell1 rfl]
  go_simp

set_option maxHeartbeats 4000000 in
set_option maxRecDepth 100000 in
theorem lift_any (k : Int) (sa : Option Addr) (sc : Nat) (Ss : List (List Int)) (x y : Int) (w : World) (hS : Ss.length ≤ 1000000) (hSl : ∀ S ∈ Ss, S.length ≤ 1000000) (hL : LLAt w sa Ss) (hx : ∀ S ∈ Ss, InR S) :
    Calls Try.prog 23 #[.agg #[.int .i64 k, .slice sa Ss.length sc], .int .i64 x, .int .i64 y] w fun e w' => ∃ u, e = .returned u ∧ ModTold k (liftL x y Ss) w w' u := by
  obtain ⟨N, hNe⟩ := ex_eq Ss.length
  obtain ⟨lo, hlo⟩ := ex_eq (min x y)
  obtain ⟨hi, hhi⟩ := ex_eq (max x y)
  obtain ⟨W1, hW1, hs1, hO0, hO1, hb1⟩ := new_two w (.cells #[.int .i64 k, .slice sa N sc] 40) (.cells #[.int .i64 0, .slice none 0 0] 40)
  obtain ⟨W, hW, hs2, hO2, hO3, hb2⟩ := new_two W1 (.cells #[.int .i64 lo] 3) (.cells #[.int .i64 hi] 3)
  rw [hs1] at hO2 hO3 hs2
  have hO0 := (hb2.block w.heap.size (by omega)).trans hO0
  have hO1 := (hb2.block (w.heap.size + 1) (by omega)).trans hO1
  have hbW : Below w.heap.size w W := hb1.trans (hb2.mono hb1.size)
  have c0 := cell_of_heap hO0 0
  have c1 := cell_of_heap hO0 1
  have d0 := cell_of_heap hO2 0
  have d1 := cell_of_heap hO3 0
  rw [hW1] at hW
  have HW := hid hW
  have HBW := hid hbW
  have HZ : Hid (∀ X, Below W.heap.size W X → X.cell? ⟨w.heap.size + 1, 0, none⟩ = some (.int .i64 0) ∧ X.cell? ⟨w.heap.size + 1, 1, none⟩ = some (.slice none 0 0) ∧ X.frozen? ⟨w.heap.size + 1, 0, none⟩ = false ∧ X.frozen? ⟨w.heap.size + 1, 1, none⟩ = false) := fun X hX => by
    have o := (hX.block (w.heap.size + 1) (by omega)).trans hO1
    exact ⟨cell_of_heap o 0, cell_of_heap o 1, frozen_of_heap o 0, frozen_of_heap o 1⟩
  have HO : Hid (w.heap.size + 1 < W.heap.size ∧ w.heap.size ≤ w.heap.size + 1) := ⟨by omega, by omega⟩
  have eL : liftL x y Ss = if lo < 0 ∨ lo = hi then Ss else Ss.map (liftS lo hi) := by unfold liftL; rw [← hlo, ← hhi]
  have HLO := hid hlo
  have HHI := hid hhi
  by_cases hv : lo < 0 ∨ lo = hi
  · have C := changed_clone (fun S => S) k sa sc Ss W hS (hL.below hbW) (fun X ak ck S _ hm hI => cloneM_any ak ck S X (hSl S hm) hI)
    rw [List.map_id'] at C
    rw [if_pos hv] at eL
    rw [eL]
    have HST : Hid (∀ X a' c', ModTold k Ss W X (.agg #[.int .i64 k, .slice a' Ss.length c']) → ModTold k Ss w ((X.setCell ⟨w.heap.size + 1, 0, none⟩ (.int .i64 k)).setCell ⟨w.heap.size + 1, 1, none⟩ (.slice a' Ss.length c')) (.agg #[.int .i64 k, .slice a' Ss.length c'])) := fun X a' c' h => h.store HBW.out HO.out.1 HO.out.2 _ _
    have HN := hid hNe
    rw [← hNe] at C HST ⊢
    have HC := hid C
    have hway : (decide (lo < 0) = true ∧ lo < 0) ∨ (decide (lo < 0) = false ∧ ¬ lo < 0 ∧ lo = hi ∧ (lo == hi) = true) := by
      by_cases h : lo < 0
      · exact Or.inl ⟨decide_eq_true h, h⟩
      · have e : lo = hi := hv.resolve_left h
        exact Or.inr ⟨decide_eq_false h, h, e, by simp [e]⟩
    clear C hW hW1 hO0 hO1 hO2 hO3 hbW hb1 hb2 hL hx hSl eL hNe hv hlo hhi
    go_enter Try.func23, Try.ntmps23
    go_upto_region 2 with fail
    rw [← HLO.out, ← HHI.out]
    rw [← HW.out]
    rcases hway with ⟨q1, q2⟩ | ⟨q1, q2, q3, q4⟩
    · go_wp2_with fail
      refine HC.out.mono ?_
      rintro e w2 ⟨u, rfl, hm⟩
      obtain ⟨a', c', us, rfl, hl, hb⟩ := hm
      obtain ⟨z0, z1, zf0, zf1⟩ := HZ.out w2 hb
      rw [← HN.out] at hl ⊢
      have HF := hid (HST.out w2 a' c' ⟨a', c', us, by rw [HN.out], by rw [← HN.out]; exact hl, hb⟩)
      clear hl hb HC HST
      go_wp2
      refine bodyPost_ret (v := .agg #[.int .i64 k, .slice a' N c']) ?_ rfl ⟨_, rfl, HF.out⟩
      rw [results_cell1 rfl]
      go_simp
    · go_wp2_with fail
      refine HC.out.mono ?_
      rintro e w2 ⟨u, rfl, hm⟩
      obtain ⟨a', c', us, rfl, hl, hb⟩ := hm
      obtain ⟨z0, z1, zf0, zf1⟩ := HZ.out w2 hb
      rw [← HN.out] at hl ⊢
      have HF := hid (HST.out w2 a' c' ⟨a', c', us, by rw [HN.out], by rw [← HN.out]; exact hl, hb⟩)
      clear hl hb HC HST
      go_wp2
      refine bodyPost_ret (v := .agg #[.int .i64 k, .slice a' N c']) ?_ rfl ⟨_, rfl, HF.out⟩
      rw [results_cell1 rfl]
      go_simp
  · have C := changed_lift (w.heap.size + 3) (w.heap.size + 2) (liftS lo hi) k sa sc Ss W hS (hL.below hbW) (fun X ak ck S hX hm hI => lift1_any lo hi (w.heap.size + 3) (w.heap.size + 2) ak ck S X (hSl S hm) hI (hx S hm) ((hX.cell (p := ⟨w.heap.size + 3, 0, none⟩) (by simp only; omega)).trans d1) ((hX.cell (p := ⟨w.heap.size + 2, 0, none⟩) (by simp only; omega)).trans d0))
    rw [if_neg hv] at eL
    rw [eL]
    obtain ⟨M, hM⟩ := ex_eq (Ss.map (liftS lo hi)).length
    have HST : Hid (∀ X a' c', ModTold k (Ss.map (liftS lo hi)) W X (.agg #[.int .i64 k, .slice a' (Ss.map (liftS lo hi)).length c']) → ModTold k (Ss.map (liftS lo hi)) w ((X.setCell ⟨w.heap.size + 1, 0, none⟩ (.int .i64 k)).setCell ⟨w.heap.size + 1, 1, none⟩ (.slice a' M c')) (.agg #[.int .i64 k, .slice a' (Ss.map (liftS lo hi)).length c'])) := fun X a' c' h => h.store HBW.out HO.out.1 HO.out.2 _ _
    rw [← hM] at HST
    have HM := hid hM
    rw [← hNe] at C ⊢
    have HC := hid C
    have q1 : decide (lo < 0) = false := decide_eq_false (fun h => hv (Or.inl h))
    have q2 : ¬ lo < 0 := fun h => hv (Or.inl h)
    have q3 : ¬ lo = hi := fun h => hv (Or.inr h)
    have q4 : (lo == hi) = false := by simp [q3]
    clear C hW hW1 hO0 hO1 hO2 hO3 hbW hb1 hb2 hL hx hSl eL hNe hM hv hlo hhi
    go_enter Try.func23, Try.ntmps23
    go_upto_region 2 with fail
    rw [← HLO.out, ← HHI.out]
    rw [← HW.out]
    go_wp2_with fail
    refine HC.out.mono ?_
    rintro e w2 ⟨u, rfl, hm⟩
    obtain ⟨a', c', us, rfl, hl, hb⟩ := hm
    obtain ⟨z0, z1, zf0, zf1⟩ := HZ.out w2 hb
    rw [← HM.out] at hl ⊢
    have HF := hid (HST.out w2 a' c' ⟨a', c', us, by rw [HM.out], by rw [← HM.out]; exact hl, hb⟩)
    clear hl hb HC HST
    go_wp2
    refine bodyPost_ret (v := .agg #[.int .i64 k, .slice a' M c']) ?_ rfl ⟨_, rfl, HF.out⟩
    rw [results_cell1 rfl]
    go_simp
end Go.Proofs.Ytlebimolgienkaa
