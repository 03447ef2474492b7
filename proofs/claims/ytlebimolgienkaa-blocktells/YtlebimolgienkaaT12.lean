/-
  The program's neighbours of a graph that falls apart (layer 7): each row in a block of its own.
  Who leads to whom in a part of the program's. No program is named here.
  What the laws of layer 4 ask of the program's parts: a row of contracts over any way in which a part may lie in memory.
  The program's parts in memory; who stands for a class (has, head).
  The program's New, Same, Count and Join of layer 4.
  The program's gather of layer 4: a map from who stands for a class to the numbers of it.
  maps.Values over the map of layer 4, collected: which rows come, each once, in whatever order.
  The sort of layer 4: rows of numbers by their first ones: slices.SortFunc by its contract, its closure and cmp.Compare walked.
-/
import Derived.Test.YtlebimolgienkaaT11
import Derived.Test.YtlebimolgienkaaT05
import Derived.Deep.DeepCutAuto
import Derived.Test.YtlebimolgienkaaT06
import Derived.BigRegion
import Derived.Lib.Walk
import Derived.Maps.GroupsBeside
import Derived.WalkSpells
import Derived.Test.YtlebimolgienkaaT02
import Derived.Lib.SlKeysI
import Derived.RangeFuncKeeps
import Derived.Sort.MapsRangeIn
import Derived.Test.YtlebimolgienkaaT04
import Derived.Test.YtlebimolgienkaaT01
namespace Go.Proofs.Ytlebimolgienkaa
open Go.RowKit Go.Lib

/-- Headers in block N; each row is of the call's own, in a block of its own. -/
structure NO (w : World) (base N m : Nat) (V : Nat → Value) (B : Nat → List Int) : Prop where
  lt : N < w.heap.size
  hd : ∀ j, j < m → w.cell? ⟨N, j, none⟩ = some (V j) ∧ w.frozen? ⟨N, j, none⟩ = false
  own : ∀ j, j < m → w.ownsRow base 3 1 (V j) (B j).length ((B j).map (Value.int .i64)) ∧ (V j).ownBlock ≠ some N
  apart : ∀ i j, i < m → j < m → i ≠ j → ∀ g, (V i).ownBlock = some g → (V j).ownBlock ≠ some g
theorem NO.below {w w' : World} {base N m : Nat} {V : Nat → Value} {B : Nat → List Int} (h : NO w base N m V B) (hb : Below w.heap.size w w') : NO w' base N m V B := by
  have hk := KeptBut.of_whole (fun _ => False) hb
  refine ⟨Nat.lt_of_lt_of_le h.lt hb.size, fun j hj => ?_, fun j hj => ⟨own_below (h.own j hj).1 hb, (h.own j hj).2⟩, h.apart⟩
  rw [hk.cell (p := ⟨N, j, none⟩) h.lt (fun e => e), hk.frozen (p := ⟨N, j, none⟩) h.lt (fun e => e)]
  exact h.hd j hj
/-- One number more in row j. -/
theorem NO.push {w wa w4 : World} {base N m : Nat} {V : Nat → Value} {B : Nat → List Int} (h : NO w base N m V B) {j : Nat} (hj : j < m) (hb : Below w.heap.size w wa) {x : Int} {v' : Value}
    (hown : w4.ownsRow base 3 1 v' ((B j).length + 1) ((B j).map (Value.int .i64) ++ [.int .i64 x])) (hg : wa.grownBy w4 (V j).ownBlock) (hat : v'.ownBlock = (V j).ownBlock ∨ v'.ownBlock = some wa.heap.size) :
    NO (w4.setCell ⟨N, j, none⟩ v') base N m (fun u => if u = j then v' else V u) (fun u => if u = j then B j ++ [x] else B u) := by
  have hk : KeptBut (fun k => some k = (V j).ownBlock) w w4 := (KeptBut.of_whole _ hb).trans (KeptBut.of_grown hg)
  have hN := hb.size
  have hks := kept_set w4 ⟨N, j, none⟩ v'
  have hvN : v'.ownBlock ≠ some N := fun e => by
    rcases hat with h1 | h1
    · exact (h.own j hj).2 (h1.symm.trans e)
    · rw [h1] at e; have := h.lt; simp at e; omega
  have hNj : ¬ some N = (V j).ownBlock := fun e => (h.own j hj).2 e.symm
  have hc : ∀ u, u < m → w4.cell? ⟨N, u, none⟩ = some (V u) ∧ w4.frozen? ⟨N, u, none⟩ = false := fun u hu => by
    rw [hk.cell (p := ⟨N, u, none⟩) h.lt hNj, hk.frozen (p := ⟨N, u, none⟩) h.lt hNj]
    exact h.hd u hu
  refine ⟨by simpa using Nat.lt_of_lt_of_le h.lt hk.size, fun u hu => ?_, fun u hu => ?_, fun i u hi hu hne g => ?_⟩
  · obtain ⟨h1, h2⟩ := hc u hu
    by_cases e : u = j
    · subst e
      simp only [if_pos]
      exact ⟨World.cell?_setCell_same' _ _ _ (by rw [h1]; rfl), by rw [World.frozen?_setCell]; exact h2⟩
    · simp only [if_neg e]
      exact ⟨by rw [World.cell?_setCell_other _ _ _ _ (by simp <;> omega)]; exact h1, by rw [World.frozen?_setCell]; exact h2⟩
  · by_cases e : u = j
    · subst e
      simp only [if_pos]
      refine ⟨own_kept (S := fun k => k = N) ?_ hks (fun g hg e => hvN (by rw [hg, e])), hvN⟩
      rw [List.length_append, List.map_append]
      exact hown
    · simp only [if_neg e]
      refine ⟨own_kept (S := fun k => k = N) (own_kept (h.own u hu).1 hk (fun g hg e2 => h.apart u j hu hj e g hg e2.symm)) hks (fun g hg e2 => (h.own u hu).2 (by rw [hg, e2])), (h.own u hu).2⟩
  · have key : ∀ u, u < m → u ≠ j → ∀ g, (V u).ownBlock = some g → v'.ownBlock ≠ some g := fun u hu hne g hgu e => by
      rcases hat with h1 | h1
      · exact h.apart u j hu hj hne g hgu (h1.symm.trans e)
      · have := ((h.own u hu).1.lt g hgu).2
        rw [h1] at e
        simp at e
        omega
    by_cases e1 : i = j
    · subst e1
      simp only [if_pos, if_neg (show ¬ u = i from fun e => hne e.symm)]
      intro hg1 hg2
      exact key u hu (fun e => hne e.symm) g hg2 hg1
    · simp only [if_neg e1]
      by_cases e2 : u = j
      · subst e2
        simp only [if_pos]
        exact fun hg1 => key i hi e1 g hg1
      · simp only [if_neg e2]
        exact h.apart i u hi hu hne g
theorem NO.congr {w : World} {base N m : Nat} {V : Nat → Value} {B B' : Nat → List Int} (h : NO w base N m V B) (e : ∀ j, j < m → B j = B' j) : NO w base N m V B' := ⟨h.lt, h.hd, fun j hj => by rw [← e j hj]; exact h.own j hj, h.apart⟩
theorem NO.near {w : World} {base N m : Nat} {V : Nat → Value} {es : List (Int × Int)} (h : NO w base N m V (fun j => nbL j es)) : NearAt w N m es := by
  refine ⟨h.lt, fun j hj => ?_⟩
  obtain ⟨a, cap, hv, hI⟩ := own_form (h.own j hj).1
  obtain ⟨a', cap', hv', hsl⟩ := sl_own (h.own j hj).1
  rw [hv] at hv'
  simp only [Value.slice.injEq, true_and] at hv'
  obtain ⟨rfl, rfl⟩ := hv'
  exact ⟨a, cap, by rw [← hv]; exact (h.hd j hj).1, hI, hsl.w⟩
theorem made_nil0 (n : Nat) : (madeCells (Value.slice none 0 0).cells (n * 1)).toList = List.replicate n (.slice none 0 0) := by
  apply List.ext_getElem
  · simp [madeCells]
  · intro i h1 h2
    simp [madeCells, Value.cells, Nat.mod_one]
theorem no_made {w : World} {base g m : Nat} {e : TypeId} (h : w.ownsRow base e 1 (.slice (some ⟨g, 0, none⟩) m m) m (madeCells (Value.slice none 0 0).cells (m * 1)).toList) : NO w base g m (fun _ => .slice none 0 0) (fun _ => []) := by
  rw [made_nil0] at h
  refine ⟨(h.lt g rfl).2, fun j hj => ?_, fun j _ => ⟨World.ownsRow_nil _ _ _ _, by simp [Value.ownBlock]⟩, fun _ _ _ _ _ g hg => by simp [Value.ownBlock] at hg⟩
  rcases h.2 with ⟨hv', _⟩ | ⟨g', cap, cur, hv', _, hgb, _⟩
  · simp at hv'
  · simp only [Value.slice.injEq, Option.some.injEq, Addr.mk.injEq, and_true, true_and] at hv'
    obtain ⟨rfl, _⟩ := hv'
    have := h.cells (g := g) rfl j (.slice none 0 0) (by rw [List.getElem?_replicate, if_pos hj])
    rw [add_at, Nat.zero_add] at this
    exact ⟨this, frozen_of_heap hgb _⟩
/-- What holds on the way, while one number more goes to row j: ahead of the store, and behind it. -/
theorem NO.half {w : World} {base N m b0 : Nat} {w0 : World} {V : Nat → Value} {B : Nat → List Int} (h : NO w base N m V B) {j : Nat} (hj : j < m) (hb0 : Below b0 w0 w) (hbase : b0 ≤ base) (hN : b0 ≤ N) (h0 : b0 ≤ w.heap.size) {E : Nat} (hE : E < w.heap.size) (hEN : E ≠ N) (hEV : ∀ j, j < m → (V j).ownBlock ≠ some E) (x : Int) :
    ∀ wa w4 v', Below w.heap.size w wa → w4.ownsRow base 3 1 v' ((B j).length + 1) ((B j).map (Value.int .i64) ++ [.int .i64 x]) → wa.grownBy w4 (V j).ownBlock → (v'.ownBlock = (V j).ownBlock ∨ v'.ownBlock = some wa.heap.size) →
      (w4.cell? ⟨N, j, none⟩ = some (V j) ∧ w4.frozen? ⟨N, j, none⟩ = false) ∧ (∀ i, w4.cell? ⟨E, i, none⟩ = w.cell? ⟨E, i, none⟩) ∧
      (∀ i, (w4.setCell ⟨N, j, none⟩ v').cell? ⟨E, i, none⟩ = w.cell? ⟨E, i, none⟩) ∧ Below b0 w0 (w4.setCell ⟨N, j, none⟩ v') ∧ w.heap.size ≤ (w4.setCell ⟨N, j, none⟩ v').heap.size ∧
      NO (w4.setCell ⟨N, j, none⟩ v') base N m (fun u => if u = j then v' else V u) (fun u => if u = j then B j ++ [x] else B u) ∧ (∀ u, u < m → (if u = j then v' else V u).ownBlock ≠ some E) := fun wa w4 v' hb hown hg hat => by
  have hk : KeptBut (fun k => some k = (V j).ownBlock) w w4 := (KeptBut.of_whole _ hb).trans (KeptBut.of_grown hg)
  have hNj : ¬ some N = (V j).ownBlock := fun e => (h.own j hj).2 e.symm
  have hEj : ¬ some E = (V j).ownBlock := fun e => hEV j hj e.symm
  have hv : ∀ i, w4.cell? ⟨E, i, none⟩ = w.cell? ⟨E, i, none⟩ := fun i => hk.cell (p := ⟨E, i, none⟩) hE hEj
  refine ⟨?_, hv, fun i => ?_, ?_, ?_, h.push hj hb hown hg hat, fun u hu => ?_⟩
  · rw [hk.cell (p := ⟨N, j, none⟩) h.lt hNj, hk.frozen (p := ⟨N, j, none⟩) h.lt hNj]
    exact h.hd j hj
  · rw [World.cell?_setCell_other _ _ _ _ (fun e => hEN (congrArg Addr.block e).symm)]; exact hv i
  · refine (hb0.trans (hk.below h0 (fun k _ e => ?_))).setCell (p := ⟨N, j, none⟩) hN _
    have := ((h.own j hj).1.lt k e.symm).1
    omega
  · simpa using hk.size
  · by_cases e : u = j
    · rw [if_pos e]
      intro k
      rcases hat with h1 | h1
      · exact hEV j hj (h1.symm.trans k)
      · rw [h1] at k
        have := hb.size
        simp at k
        omega
    · rw [if_neg e]; exact hEV u hu

theorem nb_len (v : Int) : ∀ (es : List (Int × Int)), (nbL v es).length ≤ 2 * es.length
  | [] => by simp [nbL]
  | e :: es => by
    have := nb_len v es
    have h : (other v e).length ≤ 2 := by
      unfold other
      split <;> (try split) <;> simp
    simp only [nbL, List.length_append, List.length_cons]
    omega
set_option maxHeartbeats 4000000 in
set_option maxRecDepth 100000 in
theorem bnear_any (m : Nat) (a : Option Addr) (cap : Nat) (es : List (Int × Int)) (w : World) (hE : EAt w a es) (hR : RightG m es) :
    Calls Try.prog 76 #[.int .i64 m, .slice a es.length cap] w fun e w' => ∃ g, e = .returned (.slice (some ⟨g, 0, none⟩) m m) ∧ w.heap.size ≤ g ∧ NearAt w' g m es ∧ Below w.heap.size w w' := by
  have hm : m ≤ 1000 := by have := hR.2.1; omega
  have hN4 : es.length ≤ 4000 := hR.2.2.1
  obtain ⟨N, hNe⟩ := ex_eq es.length
  rw [← hNe] at hN4 ⊢
  have HN := hid hNe
  have HE := hid hE
  have HRG := hid hR
  obtain ⟨i1, hj, hy0, hy1, hy2⟩ := info_parts Try.info28
  obtain ⟨w1, hrun1, hown1, hgrow1⟩ := run_make_full (P := Try.prog) w w.heap.size 29 28 i1 (.slice none 0 0) 1 Try.underlying29 hj hy0 hy1 .i64 .i64 m (by rw [hy2]; omega) (by unfold maxLen; omega) (Nat.le_refl _)
  have hb1 : Below w.heap.size w w1 := Below.grown (Below.refl _ _) hgrow1 (Nat.le_refl _) (fun k hk => by cases hk)
  have hlt1 : w.heap.size < w1.heap.size := (hown1.lt _ rfl).2
  have HNO : Hid (NO w1 (w.heap.size + 1) w.heap.size m (fun _ => .slice none 0 0) (fun j => nbL j (es.take 0))) := by
    have h := no_made hown1
    exact ⟨h.lt, h.hd, fun j hj => ⟨World.ownsRow_nil _ _ _ _, (h.own j hj).2⟩, h.apart⟩
  have HBW := hid hb1
  clear hNe hE hR hown1 hgrow1 hj hy0 hy1 hy2
  go_enter Try.func76, Try.ntmps76
  go_wp2
  clear hrun1 hb1
  obtain ⟨Nb, hNb⟩ := ex_eq w.heap.size
  rw [← hNb] at HNO hlt1 HBW ⊢
  have HNb := hid hNb
  clear hNb
  go_loopw [12] (fun i wz => ∃ t : Nat, t ≤ N ∧ i = .int .i64 t ∧ Hid (∃ V, NO wz (Nb + 1) Nb m V (fun j => nbL j (es.take t))) ∧ Hid (Below Nb w wz) ∧ w1.heap.size ≤ wz.heap.size) (fun i _ => N - (RowKit.intOf i).toNat)
  case atStart => exact ⟨0, Nat.zero_le _, rfl, ⟨_, HNO.out⟩, HBW.out, Nat.le_refl _⟩
  case round =>
    obtain ⟨t, ht, rfl, hno, hbz, hsz⟩ := hrel
    by_cases hlt : t < N
    · have hkr : t < es.length := by rw [← HN.out]; exact hlt
      obtain ⟨g, o, rfl, hg, hcs⟩ := HE.out.at hkr
      have hin := (HRG.out.at t hkr).1
      obtain ⟨p, hp⟩ : ∃ p : Nat, (p : Int) = es[t].1 := ⟨es[t].1.toNat, by omega⟩
      obtain ⟨q, hq⟩ : ∃ q : Nat, (q : Int) = es[t].2 := ⟨es[t].2.toNat, by omega⟩
      have d := hcs wr (by rw [← HNb.out]; exact hbz.out) t hkr
      rw [← hp, ← hq] at d hin
      obtain ⟨d0, d1⟩ := d
      have i1 : p < q := by omega
      have i2 : q < m := by omega
      obtain ⟨V, hno⟩ := hno.out
      obtain ⟨B, hB⟩ := ex_eq (fun j : Nat => nbL (j : Int) (es.take t))
      rw [← hB] at hno
      have HNXT : Hid (∀ j, (if j = q then (if q = p then B p ++ [(q : Int)] else B q) ++ [(p : Int)] else if j = p then B p ++ [(q : Int)] else B j) = nbL (j : Int) (es.take (t + 1))) := fun j => by
        rw [if_neg (show ¬ q = p by omega), hB]
        exact nb_next hkr hp hq i1 j
      have HBL : Hid (∀ j, (B j).length ≤ 2 * t) := fun j => by
        rw [hB]
        have := nb_len (j : Int) (es.take t)
        rw [List.length_take] at this
        show (nbL (j : Int) (es.take t)).length ≤ 2 * t
        omega
      obtain ⟨i0, hi0, hz0, hz1, hz2⟩ := info_parts Try.info3
      obtain ⟨W1, hW1⟩ := ex_eq (wr.alloc (.cells #[.int .i64 p, .int .i64 q] 56))
      have hbW0 : Below wr.heap.size wr W1 := by rw [hW1]; exact (Below.refl _ _).alloc (Nat.le_refl _) _
      have hNO1 : NO W1 (Nb + 1) Nb m V B := hno.below hbW0
      have hbW : Below Nb w W1 := by rw [hW1]; exact hbz.out.alloc (by omega) _
      have e0 : W1.cell? ⟨wr.heap.size, 0, none⟩ = some (.int .i64 p) := by rw [hW1]; exact cell_of_heap (heap_alloc_new _ _) 0
      have e1 : W1.cell? ⟨wr.heap.size, 1, none⟩ = some (.int .i64 q) := by rw [hW1]; exact cell_of_heap (heap_alloc_new _ _) 1
      have hsW : wr.heap.size < W1.heap.size := by rw [hW1]; simp
      have hEV : ∀ j, j < m → (V j).ownBlock ≠ some wr.heap.size := fun j hj e => by
        have := ((hno.own j hj).1.lt _ e).2
        omega
      obtain ⟨a1, f1⟩ := hNO1.hd p (by omega)
      have HH := hid (hNO1.half (j := p) (b0 := Nb) (w0 := w) (by omega) hbW (by omega) (Nat.le_refl _) (by omega) (E := wr.heap.size) hsW (by omega) hEV (q : Int))
      obtain ⟨v1, hv1⟩ := ex_eq (V p)
      obtain ⟨n1, hn1⟩ := ex_eq (B p).length
      obtain ⟨xs1, hxs1⟩ := ex_eq ((B p).map (Value.int .i64))
      rw [← hv1] at a1
      have HO1 : Hid (W1.ownsRow (Nb + 1) 3 1 v1 n1 xs1) := by
        show World.ownsRow _ _ _ _ _ _ _
        rw [hv1, hn1, hxs1]; exact (hNO1.own p (by omega)).1
      have hn1l : n1 ≤ 2 * t := by rw [hn1]; exact HBL.out p
      rw [← hv1, ← hn1, ← hxs1] at HH
      have HV1 := hid hv1
      have HN1 := hid hn1
      have HXS1 := hid hxs1
      have HW1 := hid hW1
      have hltN : Nb < W1.heap.size := by omega
      have q1 : (p : Int) < (m : Int) := by omega
      have q2 : (q : Int) < (m : Int) := by omega
      have q3 : (t : Int) < (N : Int) := by omega
      have HSB : Hid (∀ X : World, W1.heap.size ≤ X.heap.size → Nb + 1 ≤ X.heap.size) := fun X h => by omega
      have HI0 := hid hi0
      have HY0 := hid hz0
      have HY1 := hid hz1
      have HY2 := hid hz2
      clear hp hq hno hin hcs hkr hW1 hi0 hz0 hz1 hz2 hNO1 hbW hbW0 hEV hv1 hn1 hxs1 hbz HE
      go_upto_region 5 with fail
      rw [← HW1.out]
      go_cut [12] from 12 to 42 (fun v wx => v = .int .i64 t ∧ Hid (∃ V2, NO wx (Nb + 1) Nb m V2 (fun u => if u = p then B p ++ [(q : Int)] else B u) ∧ (∀ i, wx.cell? ⟨wr.heap.size, i, none⟩ = W1.cell? ⟨wr.heap.size, i, none⟩) ∧ Below Nb w wx ∧ W1.heap.size ≤ wx.heap.size ∧ ∀ u, u < m → (V2 u).ownBlock ≠ some wr.heap.size))
      case first =>
        go_wp2_with fail
        go_region_law (refine step_append_any _ rfl (.tmp 23) (.tmp 26) 28 rfl (Nb + 1) 3 i0 _ 1 8 Try.underlying28 HI0.out HY0.out HY1.out HY2.out rfl (by decide) v1 n1 xs1 (by simp [Act.eval]) (own_below HO1.out ((Below.refl _ _).drew.alloc (Nat.le_refl _) _)) (some ⟨W1.heap.size, 0, none⟩) 1 1 [.int .i64 q] (by simp [Act.eval]) (fun h => by cases h) rfl (fun pp hpp => by cases hpp; exact cells_one (heap_alloc_new _ _)) (fun u hu => by simp at hu; rw [hu]; rfl) (by unfold maxLen; omega) (by omega) (HSB.out _ (by simp)) ?_; intro v' w4 hown4 hgrow4 hat4; obtain ⟨va, vc, rfl, _⟩ := sl_own hown4; obtain ⟨⟨b4, f4⟩, g4, r5⟩ := HH.out _ w4 _ ((Below.refl _ _).drew.alloc (Nat.le_refl _) _) hown4 hgrow4 hat4; have g40 := (g4 0).trans e0; have R5 := hid r5; clear r5 g4 hown4 hgrow4 hat4)
        all_goals
          go_wp2_with fail
          go_meet
          case rel => exact ⟨rfl, _, R5.out.2.2.2.1, R5.out.1, R5.out.2.1, R5.out.2.2.1, R5.out.2.2.2.2⟩
      case rest =>
        obtain ⟨rfl, hcut⟩ := hcut
        obtain ⟨V2, hNO2, hE2, hbW2, hs2, hEV2⟩ := hcut.out
        obtain ⟨W3, hW3⟩ : ∃ x, x = wc := ⟨_, rfl⟩
        subst hW3
        have e30 := (hE2 0).trans e0
        have e31 := (hE2 1).trans e1
        clear HH HO1 HV1 HN1 HXS1 a1 f1 e0 e1 d0 d1 hE2 hcut
        have hsW3 : wr.heap.size < W3.heap.size := by omega
        have hltN3 : Nb < W3.heap.size := hNO2.lt
        obtain ⟨a2, f2⟩ := hNO2.hd q i2
        have HH := hid (hNO2.half (j := q) (b0 := Nb) (w0 := w) i2 hbW2 (by omega) (Nat.le_refl _) (by omega) (E := wr.heap.size) hsW3 (by omega) hEV2 (p : Int))
        obtain ⟨v2, hv2⟩ := ex_eq (V2 q)
        obtain ⟨n2, hn2⟩ := ex_eq ((fun u => if u = p then B p ++ [(q : Int)] else B u) q).length
        obtain ⟨xs2, hxs2⟩ := ex_eq (((fun u => if u = p then B p ++ [(q : Int)] else B u) q).map (Value.int .i64))
        rw [← hv2] at a2
        have HO2 : Hid (W3.ownsRow (Nb + 1) 3 1 v2 n2 xs2) := by
          show World.ownsRow _ _ _ _ _ _ _
          rw [hv2, hn2, hxs2]; exact (hNO2.own q i2).1
        have hn2l : n2 ≤ 2 * t := by
          rw [hn2]
          simp only [if_neg (show ¬ q = p by omega)]
          exact HBL.out q
        rw [← hv2, ← hn2, ← hxs2] at HH
        have HSB2 : Hid (∀ X : World, W3.heap.size ≤ X.heap.size → Nb + 1 ≤ X.heap.size) := fun X h => by omega
        clear hv2 hn2 hxs2 hNO2 hbW2 hEV2 hs2 HSB
        go_wp2_with fail
        go_region_law (refine step_append_any _ rfl (.tmp 36) (.tmp 39) 28 rfl (Nb + 1) 3 i0 _ 1 8 Try.underlying28 HI0.out HY0.out HY1.out HY2.out rfl (by decide) v2 n2 xs2 (by simp [Act.eval]) (own_below HO2.out ((Below.refl _ _).drew.alloc (Nat.le_refl _) _)) (some ⟨W3.heap.size, 0, none⟩) 1 1 [.int .i64 p] (by simp [Act.eval]) (fun h => by cases h) rfl (fun pp hpp => by cases hpp; exact cells_one (heap_alloc_new _ _)) (fun u hu => by simp at hu; rw [hu]; rfl) (by unfold maxLen; omega) (by omega) (HSB2.out _ (by simp)) ?_; intro v' w4 hown4 hgrow4 hat4; obtain ⟨va, vc, rfl, _⟩ := sl_own hown4; obtain ⟨⟨b4, f4⟩, g4, r5⟩ := HH.out _ w4 _ ((Below.refl _ _).drew.alloc (Nat.le_refl _) _) hown4 hgrow4 hat4; have g41 := (g4 1).trans e31; have R5 := hid r5; clear r5 g4 hown4 hgrow4 hat4)
        all_goals
          have HNOZ : Hid (∃ V, NO (w4.setCell ⟨Nb, q, none⟩ (.slice va (n2 + 1) vc)) (Nb + 1) Nb m V (fun j => nbL j (es.take (t + 1)))) := ⟨_, R5.out.2.2.2.1.congr (fun j _ => HNXT.out j)⟩
          have HBZ : Hid (Below Nb w (w4.setCell ⟨Nb, q, none⟩ (.slice va (n2 + 1) vc))) := R5.out.2.1
          have hsZ : w1.heap.size ≤ (w4.setCell ⟨Nb, q, none⟩ (.slice va (n2 + 1) vc)).heap.size := by have := R5.out.2.2.1; omega
          obtain ⟨W5, hW5⟩ := ex_eq (w4.setCell ⟨Nb, q, none⟩ (.slice va (n2 + 1) vc))
          rw [← hW5] at HNOZ HBZ hsZ
          have HW5 := hid hW5
          clear R5 b4 f4 g41 a2 f2 e30 e31 HH HO2 HI0 HY0 HY1 HY2 hW5
          rw [← HW5.out]
          go_wp2
          go_roundw
          case rel => exact ⟨t + 1, by omega, by go_num, HNOZ, HBZ, hsZ⟩
          case measure => simp [RowKit.intOf]; omega
    · obtain rfl : t = N := by omega
      have htk : es.take t = es := by rw [HN.out, List.take_length]
      rw [htk] at hno
      have HNR : Hid (NearAt wr Nb m es) := by
        obtain ⟨V, h⟩ := hno.out
        exact h.near
      clear hno
      go_wp2
      go_ret
      exact ⟨Nb, rfl, by rw [HNb.out]; exact Nat.le_refl _, HNR.out, by rw [← HNb.out]; exact hbz.out⟩
end Go.Proofs.Ytlebimolgienkaa
namespace Go.Proofs.Ytlebimolgienkaa

/-- Each number below n leads to one of its class, and rk falls on the way; of each class just one leads to itself. -/
structure Leads (n : Nat) (f L rk : Nat → Nat) : Prop where
  lt : ∀ a, a < n → L a < n
  cls : ∀ a, a < n → f (L a) = f a
  down : ∀ a, a < n → L a ≠ a → rk (L a) < rk a
  one : ∀ a b, a < n → b < n → L a = a → L b = b → f a = f b → a = b
theorem Leads.top {n : Nat} {f L rk : Nat → Nat} (h : Leads n f L rk) : ∀ k a, rk a ≤ k → a < n → ∃ t, t < n ∧ L t = t ∧ f t = f a
  | 0, a, hk, ha => by
    by_cases e : L a = a
    · exact ⟨a, ha, e, rfl⟩
    · have := h.down a ha e; omega
  | k + 1, a, hk, ha => by
    by_cases e : L a = a
    · exact ⟨a, ha, e, rfl⟩
    · have := h.down a ha e
      obtain ⟨t, h1, h2, h3⟩ := h.top k (L a) (by omega) (h.lt a ha)
      exact ⟨t, h1, h2, h3.trans (h.cls a ha)⟩
/-- rt tells who stands for each one's class. -/
def Tops (n : Nat) (f L rt : Nat → Nat) : Prop := ∀ a, a < n → rt a < n ∧ L (rt a) = rt a ∧ f (rt a) = f a
theorem Tops.at {n : Nat} {f L rk rt : Nat → Nat} (h : Tops n f L rt) (hl : Leads n f L rk) {a t : Nat} (ha : a < n) (ht : t < n) (h1 : L t = t) (h2 : f t = f a) : t = rt a :=
  hl.one _ _ ht (h a ha).1 h1 (h a ha).2.1 (h2.trans (h a ha).2.2.symm)
theorem Tops.same {n : Nat} {f L rk rt : Nat → Nat} (h : Tops n f L rt) (hl : Leads n f L rk) {a b : Nat} (ha : a < n) (hb : b < n) : rt a = rt b ↔ f a = f b :=
  ⟨fun e => by rw [← (h a ha).2.2, ← (h b hb).2.2, e], fun e => h.at hl hb (h a ha).1 (h a ha).2.1 ((h a ha).2.2.trans e)⟩
/-- Two classes made one. -/
theorem Leads.join {n : Nat} {f L rk : Nat → Nat} (h : Leads n f L rk) {a b s t : Nat} (hs : s < n) (ht : t < n) (lt : L t = t) (fs : f s = f a) (ft : f t = f b) (hne : f a ≠ f b) :
    Leads n (joinF f a b) (fun j => if j = t then s else L j) (fun j => if f j = f t then rk j + rk s + 1 else rk j) := by
  have hst : s ≠ t := fun e => hne (by rw [← fs, ← ft, e])
  have hfst : f s ≠ f t := by rw [fs, ft]; exact hne
  refine ⟨fun j hj => ?_, fun j hj => ?_, fun j hj => ?_, fun i j hi hj => ?_⟩
  · by_cases e : j = t
    · simp only [e, if_true]; exact hs
    · simp only [e, if_false]; exact h.lt j hj
  · by_cases e : j = t
    · simp only [e, if_true]
      exact (joinF_same _ _ _ _ _).2 (Or.inr (Or.inl ⟨fs, ft⟩))
    · simp only [e, if_false]
      exact (joinF_same _ _ _ _ _).2 (Or.inl (h.cls j hj))
  · by_cases e : j = t
    · subst e
      simp only [if_true, hfst, if_false]
      intro _; omega
    · simp only [e, if_false]
      intro hlj
      have hd := h.down j hj hlj
      have hc := h.cls j hj
      rw [hc]
      by_cases e2 : f j = f t
      · simp only [e2, if_true]; omega
      · simp only [e2, if_false]; exact hd
  · by_cases e : i = t
    · simp only [e, if_true]; intro h1; exact absurd h1 hst
    · by_cases e2 : j = t
      · simp only [e2, if_true]; intro _ h1; exact absurd h1 hst
      · simp only [e, e2, if_false]
        intro h1 h2 h3
        rcases (joinF_same _ _ _ _ _).1 h3 with h4 | ⟨h4, h5⟩ | ⟨h4, h5⟩
        · exact h.one i j hi hj h1 h2 h4
        · exact absurd (h.one j t hj ht h2 lt (h5.trans ft.symm)) e2
        · exact absurd (h.one i t hi ht h1 lt (h4.trans ft.symm)) e
end Go.Proofs.Ytlebimolgienkaa
namespace Go.Proofs.Ytlebimolgienkaa
open Go.RowKit Go.Lib

/-- A list of rows in memory, all of them in blocks of A. -/
def LLIn (w : World) (A : Nat → Prop) (a : Option Addr) (LL : List (List Int)) : Prop :=
  0 < LL.length → ∃ g off, a = some ⟨g, off, none⟩ ∧ g < w.heap.size ∧ A g ∧ ∀ k (hk : k < LL.length), ∃ ak ck, w.cell? ⟨g, off + k, none⟩ = some (.slice ak LL[k].length ck) ∧ IAt w ak LL[k] ∧ ∀ g off, ak = some ⟨g, off, none⟩ → 0 < LL[k].length → A g
theorem LLIn.at {w : World} {A : Nat → Prop} {a : Option Addr} {LL : List (List Int)} (h : LLIn w A a LL) : LLAt w a LL := fun h0 => by
  obtain ⟨g, off, ha, hg, _, hc⟩ := h h0
  exact ⟨g, off, ha, hg, fun k hk => by obtain ⟨ak, ck, h1, h2, _⟩ := hc k hk; exact ⟨ak, ck, h1, h2⟩⟩
theorem LLIn.kept {w w' : World} {A T : Nat → Prop} {a : Option Addr} {LL : List (List Int)} (h : LLIn w A a LL) (hk : KeptBut T w w') (hs : ∀ k, A k → k < w.heap.size → ¬ T k) : LLIn w' A a LL := fun h0 => by
  obtain ⟨g, off, ha, hg, hA, hc⟩ := h h0
  refine ⟨g, off, ha, Nat.lt_of_lt_of_le hg hk.size, hA, fun k hk' => ?_⟩
  obtain ⟨ak, ck, h1, h2, h3⟩ := hc k hk'
  refine ⟨ak, ck, (hk.cell (p := ⟨g, off + k, none⟩) hg (hs g hA hg)).trans h1, h2.kept hk (fun g' off' e h0' => hs g' (h3 g' off' e h0') ?_), h3⟩
  obtain ⟨g2, off2, e2, hg2, _⟩ := h2 h0'
  rw [e] at e2
  cases e2
  exact hg2
theorem LLIn.below {w w' : World} {A : Nat → Prop} {a : Option Addr} {LL : List (List Int)} (h : LLIn w A a LL) (hb : Below w.heap.size w w') : LLIn w' A a LL := h.kept (KeptBut.of_whole (fun _ => False) hb) (fun _ _ _ e => e)
theorem LLIn.mono {w : World} {A A' : Nat → Prop} {a : Option Addr} {LL : List (List Int)} (h : LLIn w A a LL) (hA : ∀ k, A k → A' k) : LLIn w A' a LL := fun h0 => by
  obtain ⟨g, off, ha, hg, hAg, hc⟩ := h h0
  refine ⟨g, off, ha, hg, hA g hAg, fun k hk => ?_⟩
  obtain ⟨ak, ck, h1, h2, h3⟩ := hc k hk
  exact ⟨ak, ck, h1, h2, fun g off e h0 => hA g (h3 g off e h0)⟩
theorem LLOwn.in {w : World} {base : Nat} {A : Nat → Prop} {v : Value} {us : List Value} {LL : List (List Int)} (h : LLOwn w base A v us LL) : ∃ a cap, v = .slice a LL.length cap ∧ LLIn w A a LL := by
  obtain ⟨a, cap, hv, hsl⟩ := sl_own h.1
  refine ⟨a, cap, hv, fun h0 => ?_⟩
  obtain ⟨g, cap', hv', hb, hg, hc, hcs⟩ := own_row h.1 h0
  rw [hv] at hv'
  simp only [Value.slice.injEq, true_and] at hv'
  refine ⟨g, 0, hv'.1, hg, h.2.2.1 g (by rw [hv, hv'.1]; rfl), fun k hk => ?_⟩
  obtain ⟨ak, ck, h1, h2, h3⟩ := h.2.2.2 k hk
  exact ⟨ak, ck, by rw [Nat.zero_add]; exact hcs k _ h1, h2, fun g off e h0 => (h3 g off e h0).1⟩

/-- What a call on a part leaves: the part with its classes f, in blocks that it had or that are new; all else as it was. -/
def PNext (PA : World → Addr → Nat → (Nat → Nat) → (Nat → Prop) → Prop) (S : Nat → Prop) (w w' : World) (p : Addr) (n : Nat) (f : Nat → Nat) : Prop :=
  ∃ S', PA w' p n f S' ∧ (∀ k, S' k → S k ∨ w.heap.size ≤ k) ∧ KeptBut S w w'
theorem LLIn.cell {w : World} {A : Nat → Prop} {a : Option Addr} {LL : List (List Int)} (h : LLIn w A a LL) {k : Nat} (hk : k < LL.length) : ∃ g off ak ck, a = some ⟨g, off, none⟩ ∧ w.cell? ⟨g, off + k, none⟩ = some (.slice ak LL[k].length ck) ∧ IAt w ak LL[k] := h.at.at hk
/-- What a call on a part leaves, over the world of the law. -/
theorem PNext.step {PA : World → Addr → Nat → (Nat → Nat) → (Nat → Prop) → Prop} {S : Nat → Prop} {u w w' : World} {p : Addr} {n b0 : Nat} {f : Nat → Nat} (h : PNext PA S w w' p n f) (hS : ∀ k, S k → b0 ≤ k) (hb : Below b0 u w) (h0 : b0 ≤ w.heap.size) :
    ∃ S', PA w' p n f S' ∧ (∀ k, S' k → b0 ≤ k) ∧ Below b0 u w' ∧ KeptBut S w w' ∧ (∀ k, S' k → S k ∨ w.heap.size ≤ k) := by
  obtain ⟨S', h1, h2, h3⟩ := h
  exact ⟨S', h1, fun k hk => (h2 k hk).elim (hS k) (fun e => by omega), hb.trans (h3.below h0 (fun k _ e => hS k e)), h3, h2⟩

end Go.Proofs.Ytlebimolgienkaa
namespace Go.Proofs.Ytlebimolgienkaa
open Go.RowKit Go.Lib

/-- A part of the program's: a variable with a row of leads, and how many classes there are. -/
structure LAt (w : World) (b g n : Nat) (L : Nat → Nat) (c : Nat) : Prop where
  box : w.cell? ⟨b, 0, none⟩ = some (.slice (some ⟨g, 0, none⟩) n n)
  cnt : w.cell? ⟨b, 1, none⟩ = some (.int .i64 c) ∧ w.frozen? ⟨b, 1, none⟩ = false
  row : Row1 w g n (fun i => (L i : Int))
  ne : g ≠ b
theorem LAt.kept {S : Nat → Prop} {w w' : World} {b g n : Nat} {L : Nat → Nat} {c : Nat} (h : LAt w b g n L c) (hk : KeptBut S w w') (hb : ¬ S b) (hg : ¬ S g) : LAt w' b g n L c := by
  have hlt := block_lt_of_cell h.box
  refine ⟨(hk.cell (p := ⟨b, 0, none⟩) hlt hb).trans h.box, ⟨(hk.cell (p := ⟨b, 1, none⟩) hlt hb).trans h.cnt.1, (hk.frozen (p := ⟨b, 1, none⟩) hlt hb).trans h.cnt.2⟩, ?_, h.ne⟩
  exact ⟨Nat.lt_of_lt_of_le h.row.1 hk.size, fun j hj => ⟨(hk.cell (p := ⟨g, j, none⟩) h.row.1 hg).trans (h.row.2 j hj).1, (hk.frozen (p := ⟨g, j, none⟩) h.row.1 hg).trans (h.row.2 j hj).2⟩⟩
theorem LAt.put {w : World} {b g n : Nat} {L : Nat → Nat} {c : Nat} (h : LAt w b g n L c) {i : Nat} (hi : i < n) (x : Nat) : LAt (w.setCell ⟨g, i, none⟩ (.int .i64 x)) b g n (fun j => if j = i then x else L j) c := by
  have ho : ∀ q, (w.setCell ⟨g, i, none⟩ (.int .i64 x)).cell? ⟨b, q, none⟩ = w.cell? ⟨b, q, none⟩ := fun q => World.cell?_setCell_other _ _ _ _ (fun e => h.ne (congrArg Addr.block e))
  exact ⟨(ho 0).trans h.box, ⟨(ho 1).trans h.cnt.1, by rw [World.frozen?_setCell]; exact h.cnt.2⟩, (h.row.put hi (x : Int)).congr (fun j _ => by by_cases e : j = i <;> simp [e]), h.ne⟩
theorem LAt.congr {w : World} {b g n : Nat} {L L' : Nat → Nat} {c : Nat} (h : LAt w b g n L c) (e : ∀ j, j < n → L j = L' j) : LAt w b g n L' c := ⟨h.box, h.cnt, h.row.congr (fun j hj => by rw [e j hj]), h.ne⟩
theorem LAt.at {w : World} {b g n : Nat} {L : Nat → Nat} {c : Nat} (h : LAt w b g n L c) {k : Nat} (hk : k < n) : w.cell? ⟨g, k, none⟩ = some (.int .i64 (L k)) ∧ w.frozen? ⟨g, k, none⟩ = false := h.row.2 k hk
theorem LAt.drew {w : World} {b g n : Nat} {L : Nat → Nat} {c : Nat} (h : LAt w b g n L c) : LAt w.drew b g n L c := ⟨h.box, h.cnt, h.row, h.ne⟩

/-- A part of the program's with its classes f, and who stands for each. -/
def PX (w : World) (b g n : Nat) (f rt : Nat → Nat) (c : Nat) : Prop := ∃ L rk, LAt w b g n L c ∧ Leads n f L rk ∧ Tops n f L rt
theorem PX.kept {S : Nat → Prop} {w w' : World} {b g n : Nat} {f rt : Nat → Nat} {c : Nat} (h : PX w b g n f rt c) (hk : KeptBut S w w') (hb : ¬ S b) (hg : ¬ S g) : PX w' b g n f rt c := by
  obtain ⟨L, rk, h1, h2, h3⟩ := h
  exact ⟨L, rk, h1.kept hk hb hg, h2, h3⟩
/-- What head leaves. -/
def HeadIs (b g n : Nat) (f rt : Nat → Nat) (c : Nat) (w w' : World) : Prop := PX w' b g n f rt c ∧ KeptBut (fun k => k = g) w w' ∧ w'.heap.size = w.heap.size

end Go.Proofs.Ytlebimolgienkaa
namespace Go.Proofs.Ytlebimolgienkaa
open Go.RowKit Go.Lib

theorem PX.lt {w : World} {b g n : Nat} {f rt : Nat → Nat} {c : Nat} (h : PX w b g n f rt c) : b < w.heap.size ∧ g < w.heap.size ∧ g ≠ b := by
  obtain ⟨L, rk, h1, _⟩ := h
  exact ⟨block_lt_of_cell h1.box, h1.row.1, h1.ne⟩
theorem HeadIs.trans {b g n : Nat} {f rt : Nat → Nat} {c : Nat} {w w1 w2 : World} (h : HeadIs b g n f rt c w w1) (k : HeadIs b g n f rt c w1 w2) : HeadIs b g n f rt c w w2 := ⟨k.1, h.2.1.trans k.2.1, k.2.2.trans h.2.2⟩
theorem PX.box {w : World} {b g n : Nat} {f rt : Nat → Nat} {c : Nat} (h : PX w b g n f rt c) : w.cell? ⟨b, 0, none⟩ = some (.slice (some ⟨g, 0, none⟩) n n) := by
  obtain ⟨L, rk, h1, _⟩ := h
  exact h1.box
theorem PX.same {w : World} {b g n : Nat} {f rt : Nat → Nat} {c : Nat} (h : PX w b g n f rt c) {x y : Nat} (hx : x < n) (hy : y < n) : rt x = rt y ↔ f x = f y := by
  obtain ⟨L, rk, h1, h2, h3⟩ := h
  exact h3.same h2 hx hy
end Go.Proofs.Ytlebimolgienkaa
namespace Go.Proofs.Ytlebimolgienkaa
open Go.RowKit Go.Lib Go.Maps Go.ChangeShapes

theorem KeptBut.grown {g : Nat} {w w' : World} (h : KeptBut (fun k => k = g) w w') : w.grownBy w' (some g) := ⟨h.os, h.tape, h.output, h.size, fun i hi hne => h.block i hi (fun e => hne (by rw [e]))⟩
theorem KeptBut.one {w w' : World} {row : Option Nat} {B : Nat} (h : w.grownBy w' row) (hr : ∀ j, row = some j → B ≤ j) : KeptBut (fun k => B ≤ k) w w' := ⟨h.os, h.tape, h.output, h.size, fun i hi hne => h.block i hi (fun e => hne (hr i e.symm))⟩

end Go.Proofs.Ytlebimolgienkaa
namespace Go.Proofs.Ytlebimolgienkaa
open Go.RowKit Go.Lib Go.Shelf Go.Maps Go.MapKept Go.WideShapes
open Go.WideElems (Fit rd rg pl rd_key rd_val rg_of)
attribute [local go_sem] Oper.semAt_some

/-- A slice as a value: where it lies, how long it is, how long it may be. -/
def slv (c : Option Addr × Nat × Nat) : Value := .slice c.1 c.2.1 c.2.2
end Go.Proofs.Ytlebimolgienkaa
namespace Go.Proofs.Ytlebimolgienkaa
open Go.RowKit Go.Lib Go.Shelf Go.Sort

def cmpI (x y : Int) : Int := if x < y then -1 else if y < x then 1 else 0
set_option maxHeartbeats 400000 in
theorem isnan_any (x : Int) (w : World) : Calls Try.prog 116 #[.int .i64 x] w fun e w' => e = .returned (.bool false) ∧ w' = w := by
  go_enter Try.func116, Try.ntmps116
  go_wp2
  go_ret
  exact ⟨rfl, rfl⟩
set_option maxHeartbeats 400000 in
theorem compare_any (x y : Int) (w : World) : Calls Try.prog 81 #[.int .i64 x, .int .i64 y] w fun e w' => e = .returned (.int .i64 (cmpI x y)) ∧ w' = w := by
  have HN : Hid (∀ (z : Int) W, Calls Try.prog 116 #[.int .i64 z] W fun e w' => e = .returned (.bool false) ∧ w' = W) := fun z W => isnan_any z W
  unfold cmpI
  by_cases h : x < y
  · rw [if_pos h]
    go_enter Try.func81, Try.ntmps81
    go_wp2_with fail
    refine (HN.out _ _).mono ?_
    rintro e w1 ⟨rfl, rfl⟩
    go_wp2_with fail
    refine (HN.out _ _).mono ?_
    rintro e w2 ⟨rfl, rfl⟩
    go_wp2
    go_ret
    exact ⟨rfl, rfl⟩
  · rw [if_neg h]
    by_cases h2 : y < x
    · rw [if_pos h2]
      go_enter Try.func81, Try.ntmps81
      go_wp2_with fail
      refine (HN.out _ _).mono ?_
      rintro e w1 ⟨rfl, rfl⟩
      go_wp2_with fail
      refine (HN.out _ _).mono ?_
      rintro e w2 ⟨rfl, rfl⟩
      go_wp2
      go_ret
      exact ⟨rfl, rfl⟩
    · rw [if_neg h2]
      go_enter Try.func81, Try.ntmps81
      go_wp2_with fail
      refine (HN.out _ _).mono ?_
      rintro e w1 ⟨rfl, rfl⟩
      go_wp2_with fail
      refine (HN.out _ _).mono ?_
      rintro e w2 ⟨rfl, rfl⟩
      go_wp2
      go_ret
      exact ⟨rfl, rfl⟩
theorem grown_sortW {w : World} {enc : Nat → Value} {g n : Nat} {os : Array Obj} (d : Array Nat) : w.grownBy (sortWorld enc w g 0 n d os) (some g) := by
  refine ⟨rfl, rfl, rfl, ?_, fun k hk hne => ?_⟩
  · unfold sortWorld
    rw [size_grow]
    simp [putRow, mapBlock, Sort.ahead]
  · unfold sortWorld
    rw [heap_grow_old _ _ (by simpa [putRow, mapBlock, Sort.ahead] using hk)]
    have : g ≠ k := fun e => hne (by rw [e])
    simp [putRow, mapBlock, Sort.ahead, Array.getElem?_modify, this]
end Go.Proofs.Ytlebimolgienkaa
