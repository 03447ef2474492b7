/-
  The program's Model keeps its contract (I3).
-/
import Derived.Test.YtckcbaegehfkoaaC13
import Derived.Test.YtckcbaegehfkoaaC24
import Derived.Test.YtckcbaegehfkoaaC03
namespace Go.Proofs.Ytckcbaegehfkoaa
open Go.RowKit Go.Lib

/-- A row has been made longer: its header is written. -/
theorem RW.turnK {X w4 : World} {base gh cap : Nat} {us : List Value} {LL : List (List Int)} (h : RW X base (.slice (some ⟨gh, 0, none⟩) LL.length cap) us LL) {i : Nat} (hi : i < LL.length) {ui : Value} (hu : us[i]? = some ui) {ar : Option Addr} {cr : Nat} {L : List Int}
    (ho : w4.ownsRow base 3 1 (.slice ar L.length cr) L.length (L.map (Value.int .i64))) (hk4 : KeptBut (fun k => some k = ui.ownBlock) X w4) (hat : Value.ownBlock (.slice ar L.length cr) = ui.ownBlock ∨ ∃ q, Value.ownBlock (.slice ar L.length cr) = some q ∧ X.heap.size ≤ q) :
    w4.ownsRow base 25 1 (.slice (some ⟨gh, 0, none⟩) LL.length cap) LL.length us ∧ RW (w4.setCell ⟨gh, i, none⟩ (.slice ar L.length cr)) base (.slice (some ⟨gh, 0, none⟩) LL.length cap) (us.set i (.slice ar L.length cr)) (LL.set i L) := by
  obtain ⟨ai, ci, g1, g2, g3⟩ := h.rows i hi
  rw [hu] at g1
  simp only [Option.some.injEq] at g1
  subst g1
  have hv : Value.ownBlock (.slice (some ⟨gh, 0, none⟩) LL.length cap) = some gh := rfl
  have hgh := h.own.lt gh hv
  have hown4 : w4.ownsRow base 25 1 (.slice (some ⟨gh, 0, none⟩) LL.length cap) LL.length us := own_kept h.own hk4 (fun g hg e => (g3 g e.symm).1 hg)
  have hks := kept_set w4 ⟨gh, i, none⟩ (.slice ar L.length cr)
  have hnew : ∀ q, Value.ownBlock (.slice ar L.length cr) = some q → q ≠ gh ∧ ∀ k u, k < LL.length → k ≠ i → us[k]? = some u → u.ownBlock ≠ some q := fun q hq => by
    rcases hat with e | ⟨q', e, hq'⟩
    · rw [e] at hq
      refine ⟨fun e2 => (g3 q hq).1 (by rw [e2]; rfl), fun k u hk hne hku => h.ne hi hk (fun e3 => hne e3.symm) hu hku hq⟩
    · rw [e] at hq
      simp only [Option.some.injEq] at hq
      refine ⟨by omega, fun k u hk _ hku e3 => ?_⟩
      obtain ⟨ak, ck2, k1, k2, _⟩ := h.rows k hk
      rw [hku] at k1
      cases k1
      have := (k2.lt q e3).2
      omega
  refine ⟨hown4, ?_, by rw [List.length_set, List.length_set]; exact h.len, fun k hk => ?_⟩
  · rw [List.length_set]; exact (hown4.stored i _).1
  · rw [List.length_set] at hk
    by_cases e : i = k
    · subst e
      refine ⟨ar, cr, ?_, ?_, ?_⟩
      · rw [List.getElem_set_self, List.getElem?_set_self (by rw [h.len]; exact hk)]
      · rw [List.getElem_set_self]
        exact own_kept ho hks (fun q hq e2 => (hnew q hq).1 e2)
      · rw [List.getElem_set_self]
        intro q hq
        refine ⟨fun e2 => (hnew q hq).1 (by cases e2; rfl), fun j hj u hju => ?_⟩
        rw [List.getElem?_set_ne (by omega)] at hju
        exact (hnew q hq).2 j u (by omega) (by omega) hju
    · obtain ⟨ak, ck2, k1, k2, k3⟩ := h.rows k hk
      refine ⟨ak, ck2, ?_, ?_, ?_⟩
      · rw [List.getElem_set_ne e, List.getElem?_set_ne e]; exact k1
      · rw [List.getElem_set_ne e]
        refine own_kept (own_kept k2 hk4 (fun q hq e2 => h.ne hi hk e hu k1 e2.symm hq)) hks (fun q hq e2 => (k3 q hq).1 ?_)
        rw [show q = gh from e2]; rfl
      · rw [List.getElem_set_ne e]
        intro q hq
        refine ⟨(k3 q hq).1, fun j hj u hju => ?_⟩
        by_cases e2 : i = j
        · subst e2
          rw [List.getElem?_set_self (by rw [h.len]; exact hi)] at hju
          simp only [Option.some.injEq] at hju
          subst hju
          intro e3
          exact (hnew q e3).2 k _ hk (fun e4 => e e4.symm) k1 hq
        · rw [List.getElem?_set_ne e2] at hju
          exact (k3 q hq).2 j hj u hju

/-- The sets while they are filled. -/
def modT (kd : Int) (tops : List Int) (paths : List (List Int)) (k : Nat) : List (List Int) :=
  if kd = 1 then (List.range tops.length).map (fun i => tops.getD i 0 :: ((List.range k).filter (fun j => (fromL 1 j).1 == i)).flatMap (fun j => innL (paths.getD j [])))
  else tops.map (fun t => [t]) ++ (paths.take k).map innL
theorem modT_zero (kd : Int) (tops : List Int) (paths : List (List Int)) : modT kd tops paths 0 = tops.map (fun t => [t]) := by
  unfold modT
  split
  · apply List.ext_getElem
    · simp
    · intro i h1 h2
      simp at h1 h2 ⊢
      simp [h1]
  · simp
theorem modT_all (kd : Int) (tops : List Int) (paths : List (List Int)) : modT kd tops paths paths.length = subSets kd tops paths := by
  unfold modT subSets
  split
  · rfl
  · rw [List.take_length]
theorem modT_len (kd : Int) (tops : List Int) (paths : List (List Int)) (k : Nat) (hk : k ≤ paths.length) : (modT kd tops paths k).length = if kd = 1 then tops.length else tops.length + k := by
  unfold modT
  split
  · simp
  · simp; omega
theorem modT_one {tops : List Int} {paths : List (List Int)} {k : Nat} (hk : k < paths.length) (h : (fromL 1 k).1 < (modT 1 tops paths k).length) : modT 1 tops paths (k + 1) = (modT 1 tops paths k).set (fromL 1 k).1 ((modT 1 tops paths k)[(fromL 1 k).1] ++ innL paths[k]) := by
  apply List.ext_getElem
  · rw [List.length_set]
    unfold modT
    simp
  · intro i h1 h2
    rw [List.getElem_set]
    by_cases e : (fromL 1 k).1 = i
    · subst e
      rw [if_pos rfl]
      unfold modT
      simp only [if_true, List.getElem_map, List.getElem_range, List.range_succ, List.filter_append, List.flatMap_append]
      simp [hk]
    · rw [if_neg e]
      unfold modT
      simp only [if_true, List.getElem_map, List.getElem_range, List.range_succ, List.filter_append, List.flatMap_append]
      simp [e]
theorem modT_two {tops : List Int} {paths : List (List Int)} {k : Nat} (hk : k < paths.length) : modT 2 tops paths (k + 1) = modT 2 tops paths k ++ [innL paths[k]] := by
  unfold modT
  rw [if_neg (by decide), if_neg (by decide), ← List.take_append_getElem hk, List.map_append, List.append_assoc]
  rfl
/-- A model that is filled: its variable, its rows to be written. -/
structure MoSt (W2 X : World) (O : Nat) (kd : Int) (v : Value) (us : List Value) (LL : List (List Int)) : Prop where
  c0 : X.cell? ⟨O, 0, none⟩ = some (.int .i64 kd)
  c1 : X.cell? ⟨O, 1, none⟩ = some v
  f1 : X.frozen? ⟨O, 1, none⟩ = false
  rw : RW X (O + 1) v us LL
  bel : Below O W2 X
  sz : O + 1 ≤ X.heap.size
theorem MoSt.below {W2 X X' : World} {O : Nat} {kd : Int} {v : Value} {us : List Value} {LL : List (List Int)} (h : MoSt W2 X O kd v us LL) (hb : Below X.heap.size X X') : MoSt W2 X' O kd v us LL :=
  ⟨(hb.cell (p := ⟨O, 0, none⟩) h.sz).trans h.c0, (hb.cell (p := ⟨O, 1, none⟩) h.sz).trans h.c1, (hb.frozen (p := ⟨O, 1, none⟩) h.sz).trans h.f1, h.rw.below hb, h.bel.trans (hb.mono (by have := h.sz; omega)), Nat.le_trans h.sz hb.size⟩
theorem MoSt.push {W2 X X2 w6 : World} {O : Nat} {kd : Int} {v v6 : Value} {us : List Value} {LL : List (List Int)} (h : MoSt W2 X O kd v us LL) (hb2 : Below X.heap.size X X2) {L : List Int} {ar : Option Addr} {cr : Nat}
    (ho : X2.ownsRow X.heap.size 3 1 (.slice ar L.length cr) L.length (L.map (Value.int .i64))) (ho6 : w6.ownsRow (O + 1) 25 1 v6 (LL.length + 1) (us ++ [.slice ar L.length cr])) (hg : X2.grownBy w6 v.ownBlock) (hat : v6.ownBlock = v.ownBlock ∨ v6.ownBlock = some X2.heap.size) :
    (w6.cell? ⟨O, 1, none⟩ = some v ∧ w6.frozen? ⟨O, 1, none⟩ = false) ∧ MoSt W2 (w6.setCell ⟨O, 1, none⟩ v6) O kd v6 (us ++ [.slice ar L.length cr]) (LL ++ [L]) := by
  have hsz := h.sz
  have hsz2 := hb2.size
  have hk26 : KeptBut (fun k => some k = v.ownBlock) X2 w6 := KeptBut.of_grown hg
  have hkX : KeptBut (fun k => some k = v.ownBlock) X w6 := (KeptBut.of_whole _ hb2).trans hk26
  have hvb : ∀ q, v.ownBlock = some q → O + 1 ≤ q ∧ q < X.heap.size := fun q hq => h.rw.own.lt q hq
  have hrb : ∀ q, Value.ownBlock (.slice ar L.length cr) = some q → X.heap.size ≤ q ∧ q < X2.heap.size := fun q hq => ho.lt q hq
  have hOv : ¬ some O = v.ownBlock := fun e => by have := hvb _ e.symm; omega
  have e0 := (hkX.cell (p := ⟨O, 0, none⟩) hsz hOv).trans h.c0
  have e1 := (hkX.cell (p := ⟨O, 1, none⟩) hsz hOv).trans h.c1
  have ef := (hkX.frozen (p := ⟨O, 1, none⟩) hsz hOv).trans h.f1
  have hne6 : ∀ q, q < X2.heap.size → v.ownBlock ≠ some q → v6.ownBlock ≠ some q := fun q h1 h2 e => by
    rcases hat with h3 | h3
    · exact h2 (h3.symm.trans e)
    · rw [h3] at e; simp only [Option.some.injEq] at e; omega
  have hs6 := hkX.size
  have hks := kept_set w6 ⟨O, 1, none⟩ v6
  have hrw6 : RW w6 (O + 1) v6 (us ++ [.slice ar L.length cr]) (LL ++ [L]) := by
    refine ⟨by rw [List.length_append]; exact ho6, by simp [h.rw.len], fun k hk => ?_⟩
    by_cases hlt : k < LL.length
    · obtain ⟨ak, ck, g1, g2, g3⟩ := h.rw.rows k hlt
      have e2 : (LL ++ [L])[k] = LL[k] := List.getElem_append_left hlt
      rw [e2]
      have hul : k < us.length := by rw [h.rw.len]; exact hlt
      refine ⟨ak, ck, by rw [List.getElem?_append_left hul]; exact g1, own_kept (own_below g2 hb2) hk26 (fun q hq e => (g3 q hq).1 e.symm), fun q hq => ⟨?_, fun j hj u hu => ?_⟩⟩
      · have := (g2.lt q hq).2
        exact hne6 q (by omega) (g3 q hq).1
      · rw [List.getElem?_append_left (by omega)] at hu
        exact (g3 q hq).2 j hj u hu
    · have hkl : k = LL.length := by simp at hk; omega
      subst hkl
      have e2 : (LL ++ [L])[LL.length] = L := by simp
      rw [e2]
      refine ⟨ar, cr, by rw [List.getElem?_append_right (by rw [h.rw.len]; exact Nat.le_refl _), h.rw.len]; simp, ?_, fun q hq => ⟨?_, fun j hj u hu e => ?_⟩⟩
      · refine own_kept (own_lowerS ho (by omega)) hk26 (fun q hq e => ?_)
        have h1 := hrb q hq
        have h2 := hvb q e.symm
        omega
      · have h1 := hrb q hq
        exact hne6 q h1.2 (fun e => by have := hvb q e; omega)
      · have h1 := hrb q hq
        rw [List.getElem?_append_left (by rw [h.rw.len]; exact hj)] at hu
        obtain ⟨aj, cj, g1, g2, _⟩ := h.rw.rows j hj
        rw [g1] at hu
        simp only [Option.some.injEq] at hu
        rw [← hu] at e
        have := (g2.lt q e).2
        omega
  refine ⟨⟨e1, ef⟩, ⟨?_, World.cell?_setCell_same' _ _ _ (by rw [e1]; rfl), by rw [World.frozen?_setCell]; exact ef, hrw6.kept hks (fun q hq _ e => by simp only at e; omega), ?_, by simp; omega⟩⟩
  · rw [World.cell?_setCell_other _ _ _ _ (fun e => by have := congrArg Addr.off e; simp at this)]; exact e0
  · refine ((h.bel.trans (hb2.mono (by omega))).trans (hk26.below (B := O) (by omega) (fun k _ e => by have := hvb k e.symm; omega))).setCell (p := ⟨O, 1, none⟩) (Nat.le_refl _) _
theorem MoSt.turn {W2 X w4 : World} {O gh cap : Nat} {kd : Int} {us : List Value} {LL : List (List Int)} (h : MoSt W2 X O kd (.slice (some ⟨gh, 0, none⟩) LL.length cap) us LL) {i : Nat} (hi : i < LL.length) {ui : Value} (hu : us[i]? = some ui) {ar : Option Addr} {cr : Nat} {L : List Int}
    (ho : w4.ownsRow (O + 1) 3 1 (.slice ar L.length cr) L.length (L.map (Value.int .i64))) (hg : X.grownBy w4 ui.ownBlock) (hat : Value.ownBlock (.slice ar L.length cr) = ui.ownBlock ∨ Value.ownBlock (.slice ar L.length cr) = some X.heap.size) :
    ((w4.cell? ⟨O, 1, none⟩ = some (.slice (some ⟨gh, 0, none⟩) LL.length cap)) ∧ w4.cell? ⟨gh, i, none⟩ = some ui ∧ w4.frozen? ⟨gh, i, none⟩ = false) ∧ MoSt W2 (w4.setCell ⟨gh, i, none⟩ (.slice ar L.length cr)) O kd (.slice (some ⟨gh, 0, none⟩) LL.length cap) (us.set i (.slice ar L.length cr)) (LL.set i L) := by
  have hk4 : KeptBut (fun k => some k = ui.ownBlock) X w4 := KeptBut.of_grown hg
  obtain ⟨h1, h2⟩ := h.rw.turnK hi hu ho hk4 (hat.imp id (fun e => ⟨_, e, Nat.le_refl _⟩))
  obtain ⟨ai, ci, g1, g2, g3⟩ := h.rw.rows i hi
  rw [hu] at g1
  simp only [Option.some.injEq] at g1
  have hgh := h.rw.own.lt gh rfl
  have hO : ¬ some O = ui.ownBlock := fun e => by
    rw [g1] at e
    have := (g2.lt O e.symm).1
    omega
  have e0 := (hk4.cell (p := ⟨O, 0, none⟩) h.sz hO).trans h.c0
  have e1 := (hk4.cell (p := ⟨O, 1, none⟩) h.sz hO).trans h.c1
  have ef := (hk4.frozen (p := ⟨O, 1, none⟩) h.sz hO).trans h.f1
  have hs := hk4.size
  have hsz := h.sz
  refine ⟨⟨e1, (h1.cellAt i (by omega)).trans hu, h1.frozenAt i⟩, ?_, ?_, by rw [World.frozen?_setCell]; exact ef, h2, ?_, by simp; omega⟩
  · rw [World.cell?_setCell_other _ _ _ _ (fun e => by have := congrArg Addr.block e; simp at this; omega)]; exact e0
  · rw [World.cell?_setCell_other _ _ _ _ (fun e => by have := congrArg Addr.block e; simp at this; omega)]; exact e1
  · refine (h.bel.trans (hk4.below (B := O) (by omega) (fun k _ e => ?_))).setCell (p := ⟨gh, i, none⟩) (by show O ≤ gh; omega) _
    rw [g1] at e
    have := (g2.lt k e.symm).1
    omega
set_option maxHeartbeats 2000000 in
set_option maxRecDepth 100000 in
theorem tpat_new (k : Int) (w : World) :
    Calls Try.prog 35 #[.int .i64 k] w fun e w' => ∃ a c, e = .returned (.tuple #[.int .i64 (topN k : Nat), .slice a (prL k).length c]) ∧ EAt w' a (prL k) ∧ (∀ g off, a = some ⟨g, off, none⟩ → w.heap.size ≤ g) ∧ Below w.heap.size w w' := by
  by_cases h1 : k = 1
  · subst h1
    have HE := hid (eat_newT w (prL 1) #[.int .i64 0, .int .i64 1, .int .i64 0, .int .i64 2, .int .i64 0, .int .i64 3, .int .i64 1, .int .i64 2, .int .i64 1, .int .i64 3, .int .i64 2, .int .i64 3] 66 rfl)
    have HB := hid (below_one w (.cells #[.int .i64 0, .int .i64 1, .int .i64 0, .int .i64 2, .int .i64 0, .int .i64 3, .int .i64 1, .int .i64 2, .int .i64 1, .int .i64 3, .int .i64 2, .int .i64 3] 66))
    go_enter Try.func35, Try.ntmps35
    go_wp2
    go_ret2
    exact ⟨some ⟨w.heap.size, 0, none⟩, 6, rfl, HE.out, (fun g off e => by cases e; exact Nat.le_refl _), HB.out⟩
  · have b1 : (k == 1) = false := by simp [h1]
    by_cases h2 : k = 2
    · subst h2
      have HE := hid (eat_newT w (prL 2) #[.int .i64 0, .int .i64 1, .int .i64 0, .int .i64 1, .int .i64 0, .int .i64 1] 66 rfl)
      have HB := hid (below_one w (.cells #[.int .i64 0, .int .i64 1, .int .i64 0, .int .i64 1, .int .i64 0, .int .i64 1] 66))
      go_enter Try.func35, Try.ntmps35
      go_wp2
      go_ret2
      exact ⟨some ⟨w.heap.size, 0, none⟩, 3, rfl, HE.out, (fun g off e => by cases e; exact Nat.le_refl _), HB.out⟩
    · have b2 : (k == 2) = false := by simp [h2]
      have e1 : topN k = 0 := by unfold topN; rw [if_neg h1, if_neg h2]
      have e2 : prL k = [] := by unfold prL; rw [if_neg h1, if_neg h2]
      rw [e1, e2]
      go_enter Try.func35, Try.ntmps35
      go_wp2
      go_ret2
      exact ⟨none, 0, rfl, eat_nil _ _, (fun g off e => by cases e), Below.refl _ _⟩

/-- A block that is none of the rows'. -/
def NoBl (g : Nat) (v : Value) (us : List Value) : Prop := v.ownBlock ≠ some g ∧ ∀ u ∈ us, u.ownBlock ≠ some g
theorem EAt.keptY {S : Nat → Prop} {w w' : World} {g o : Nat} {es : List (Int × Int)} (h : EAt w (some ⟨g, o, none⟩) es) (hk : KeptBut S w w') (hs : ¬ S g) : EAt w' (some ⟨g, o, none⟩) es := fun h0 => by
  obtain ⟨g', o', e, hg, hc⟩ := h h0
  cases e
  exact ⟨g, o, rfl, Nat.lt_of_lt_of_le hg hk.size, fun k hk' => ⟨(hk.cell (p := ⟨g, o + k * 2, none⟩) hg hs).trans (hc k hk').1, (hk.cell (p := ⟨g, o + k * 2 + 1, none⟩) hg hs).trans (hc k hk').2⟩⟩
theorem NoBl.start {X : World} {base g : Nat} {v : Value} {us : List Value} {LL : List (List Int)} (h : RW X base v us LL) (hg : X.heap.size ≤ g) : NoBl g v us := by
  refine ⟨fun e => ?_, fun u hu e => ?_⟩
  · have := (h.own.lt g e).2; omega
  · obtain ⟨k, hk, rfl⟩ := List.getElem_of_mem hu
    obtain ⟨ak, ck, h1, h2, _⟩ := h.rows k (by rw [← h.len]; exact hk)
    rw [List.getElem?_eq_getElem hk] at h1
    rw [Option.some.inj h1] at e
    have := (h2.lt g e).2
    omega
theorem flatMap_len {l : List Nat} {f : Nat → List Int} {B : Nat} (h : ∀ x ∈ l, (f x).length ≤ B) : (l.flatMap f).length ≤ l.length * B := by
  induction l with
  | nil => simp
  | cons x l ih =>
    have h1 := h x (by simp)
    have h2 := ih (fun y hy => h y (List.mem_cons_of_mem _ hy))
    rw [List.flatMap_cons, List.length_append, List.length_cons, Nat.succ_mul]
    omega
theorem innL_len (p : List Int) : (innL p).length ≤ p.length := by unfold innL; rw [List.length_dropLast, List.length_drop]; omega
theorem modT_row {tops : List Int} {paths : List (List Int)} {k i : Nat} (hk : k ≤ 6) (hPl : ∀ L ∈ paths, L.length ≤ 1000000) (h : i < (modT 1 tops paths k).length) : (modT 1 tops paths k)[i].length ≤ 6000001 := by
  have h1 : ((modT 1 tops paths k)[i]'h) = tops.getD i 0 :: ((List.range k).filter (fun j => (fromL 1 j).1 == i)).flatMap (fun j => innL (paths.getD j [])) := by
    unfold modT
    simp
  rw [h1, List.length_cons]
  have h2 := flatMap_len (l := (List.range k).filter (fun j => (fromL 1 j).1 == i)) (f := fun j => innL (paths.getD j [])) (B := 1000000) (fun x _ => by
    refine Nat.le_trans (innL_len _) ?_
    by_cases hx : x < paths.length
    · simp [hx]; exact hPl _ (List.getElem_mem hx)
    · simp [hx])
  have h3 : ((List.range k).filter (fun j => (fromL 1 j).1 == i)).length ≤ 6 := by
    refine Nat.le_trans (List.length_filter_le _ _) ?_
    rw [List.length_range]; exact hk
  have h4 : ((List.range k).filter (fun j => (fromL 1 j).1 == i)).length * 1000000 ≤ 6 * 1000000 := Nat.mul_le_mul_right _ h3
  omega
theorem NoBl.set {g i : Nat} {v x : Value} {us : List Value} (h : NoBl g v us) (hx : x.ownBlock ≠ some g) : NoBl g v (us.set i x) := ⟨h.1, fun u hu => by
  rcases List.mem_or_eq_of_mem_set hu with h1 | h1
  · exact h.2 u h1
  · rw [h1]; exact hx⟩
end Go.Proofs.Ytckcbaegehfkoaa
