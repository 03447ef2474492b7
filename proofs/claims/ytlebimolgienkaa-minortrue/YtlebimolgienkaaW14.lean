/-
  A model cut small, as the laws of layer 8 begin: six sets of twenty numbers, in rows of their own.
-/
import Derived.Test.YtlebimolgienkaaW12
import Derived.Test.YtlebimolgienkaaW13
namespace Go.Proofs.Ytlebimolgienkaa
open Go.RowKit Go.Lib Go.Shelf

/-- Rows that may be written, each in a block of its own. -/
def RowsW (w : World) (base : Nat) (v : Value) (us : List Value) (LL : List (List Int)) : Prop := ∀ k (hk : k < LL.length), ∃ ak ck, us[k]? = some (.slice ak LL[k].length ck) ∧ w.ownsRow base 3 1 (.slice ak LL[k].length ck) LL[k].length (LL[k].map (Value.int .i64)) ∧ (∀ q, Value.ownBlock (.slice ak LL[k].length ck) = some q → v.ownBlock ≠ some q ∧ ∀ j, j < k → ∀ u, us[j]? = some u → u.ownBlock ≠ some q)
theorem RowsW.kept {S : Nat → Prop} {w w' : World} {base : Nat} {v : Value} {us : List Value} {LL : List (List Int)} (h : RowsW w base v us LL) (hk : KeptBut S w w') (hs : ∀ q, base ≤ q → q < w.heap.size → ¬ S q) : RowsW w' base v us LL := fun k hk' => by
  obtain ⟨ak, ck, h1, h2, h3⟩ := h k hk'
  exact ⟨ak, ck, h1, own_kept h2 hk (fun q hq => hs q (h2.lt q hq).1 (h2.lt q hq).2), h3⟩
theorem own_lowerS {w : World} {B B' : Nat} {e : TypeId} {size n : Nat} {v : Value} {xs : List Value} (h : w.ownsRow B e size v n xs) (hB : B' ≤ B) : w.ownsRow B' e size v n xs := by
  refine ⟨h.1, ?_⟩
  rcases h.2 with h1 | ⟨g, cap, cur, h1, h2, h3⟩
  · exact Or.inl h1
  · exact Or.inr ⟨g, cap, cur, h1, Nat.le_trans hB h2, h3⟩
theorem RowsW.lower {w : World} {B B' : Nat} {v : Value} {us : List Value} {LL : List (List Int)} (h : RowsW w B v us LL) (hB : B' ≤ B) : RowsW w B' v us LL := fun k hk => by
  obtain ⟨ak, ck, h1, h2, h3⟩ := h k hk
  exact ⟨ak, ck, h1, own_lowerS h2 hB, h3⟩
/-- While the sets are cut. -/
structure SmSt (W X : World) (b0 : Nat) (kk : Int) (v : Value) (us : List Value) (LL : List (List Int)) : Prop where
  c0 : X.cell? ⟨b0 + 2, 0, none⟩ = some (.int .i64 kk)
  c1 : X.cell? ⟨b0 + 2, 1, none⟩ = some v
  f1 : X.frozen? ⟨b0 + 2, 1, none⟩ = false
  ll : LLOwn X (b0 + 3) (fun q => b0 + 3 ≤ q) v us LL
  rw : RowsW X (b0 + 3) v us LL
  kp : Below (b0 + 2) W X
  sz : b0 + 3 ≤ X.heap.size
theorem SmSt.drew {W X : World} {b0 : Nat} {kk : Int} {v : Value} {us : List Value} {LL : List (List Int)} (h : SmSt W X b0 kk v us LL) : SmSt W X.drew b0 kk v us LL :=
  ⟨h.c0, h.c1, h.f1, h.ll.below (Below.refl _ _).drew, h.rw.kept (KeptBut.of_whole (fun _ => False) ((Below.refl _ _).drew)) (fun _ _ _ e => e), h.kp.drew, h.sz⟩
theorem SmSt.put {W X w4 w6 : World} {b0 : Nat} {kk : Int} {v v6 : Value} {us : List Value} {LL : List (List Int)} (h : SmSt W X b0 kk v us LL) {L : List Int} {ar : Option Addr} {cr : Nat} {o : Obj} (h4 : Below X.heap.size X w4)
    (ho : w4.ownsRow X.heap.size 3 1 (.slice ar L.length cr) L.length (L.map (Value.int .i64))) (ho6 : w6.ownsRow (b0 + 3) 28 1 v6 (LL.length + 1) (us ++ [.slice ar L.length cr])) (hg : (w4.alloc o).grownBy w6 v.ownBlock) (hat : v6.ownBlock = v.ownBlock ∨ v6.ownBlock = some (w4.alloc o).heap.size) :
    (w6.cell? ⟨b0 + 2, 1, none⟩ = some v ∧ w6.frozen? ⟨b0 + 2, 1, none⟩ = false) ∧ Below (b0 + 2) W w6 ∧ SmSt W (w6.setCell ⟨b0 + 2, 1, none⟩ v6) b0 kk v6 (us ++ [.slice ar L.length cr]) (LL ++ [L]) := by
  have hsz := h.sz
  have hsz4 := h4.size
  have hl4 := h.ll.below h4
  obtain ⟨ar', cr', hv, hI⟩ := own_form ho
  simp only [Value.slice.injEq, true_and] at hv
  obtain ⟨rfl, rfl⟩ := hv
  have hrb : ∀ q, Value.ownBlock (.slice ar L.length cr) = some q → X.heap.size ≤ q ∧ q < w4.heap.size := fun q hq => ho.lt q hq
  have hvb : ∀ q, v.ownBlock = some q → b0 + 3 ≤ q ∧ q < X.heap.size := fun q hq => h.ll.1.lt q hq
  have hne6 : ∀ q, q < w4.heap.size → v.ownBlock ≠ some q → v6.ownBlock ≠ some q := fun q h1 h2 e => by
    rcases hat with h3 | h3
    · exact h2 (h3.symm.trans e)
    · rw [h3, World.size_alloc] at e; simp only [Option.some.injEq] at e; omega
  have hput := hl4.put (L := L) (ar := ar) (cr := cr) (X := o) hI (fun g off e _ => by
    have := hrb g (by rw [e]; rfl)
    exact ⟨by omega, fun e2 => by have := hvb g e2; omega⟩) (by rw [World.size_alloc]; omega) ho6 hg hat
  have hk46 : KeptBut (fun k => some k = v.ownBlock) w4 w6 := (kept_alloc w4 o _).trans (KeptBut.of_grown hg)
  have hO4 : b0 + 2 < w4.heap.size := by omega
  have hOv : ¬ some (b0 + 2) = v.ownBlock := fun e => by have := hvb _ e.symm; omega
  have e0 := ((hk46.cell (p := ⟨b0 + 2, 0, none⟩) hO4 hOv).trans (h4.cell (p := ⟨b0 + 2, 0, none⟩) (by simp only; omega))).trans h.c0
  have e1 := ((hk46.cell (p := ⟨b0 + 2, 1, none⟩) hO4 hOv).trans (h4.cell (p := ⟨b0 + 2, 1, none⟩) (by simp only; omega))).trans h.c1
  have ef := ((hk46.frozen (p := ⟨b0 + 2, 1, none⟩) hO4 hOv).trans (h4.frozen (p := ⟨b0 + 2, 1, none⟩) (by simp only; omega))).trans h.f1
  have hb6 : Below (b0 + 2) W w6 := ((h.kp.trans (h4.mono (by omega))).alloc (by omega) o).grown hg (by rw [World.size_alloc]; omega) (fun q hq => by have := hvb q hq; omega)
  have hs6 : b0 + 3 ≤ w6.heap.size := by have := hk46.size; omega
  have hkset := kept_set w6 ⟨b0 + 2, 1, none⟩ v6
  refine ⟨⟨e1, ef⟩, hb6, ⟨?_, World.cell?_setCell_same' _ _ _ (by rw [e1]; rfl), by rw [World.frozen?_setCell]; exact ef, hput.kept hkset (fun k hk' _ e => by simp only at e; omega), ?_, hb6.setCell (p := ⟨b0 + 2, 1, none⟩) (Nat.le_refl _) _, by simpa using hs6⟩⟩
  · rw [World.cell?_setCell_other _ _ _ _ (fun e => by have := congrArg Addr.off e; simp at this)]; exact e0
  · refine RowsW.kept (S := fun q => q = b0 + 2) ?_ hkset (fun q hq _ e => by omega)
    intro k hk
    by_cases hlt : k < LL.length
    · obtain ⟨ak, ck, g1, g2, g3⟩ := h.rw k hlt
      have e2 : (LL ++ [L])[k] = LL[k] := List.getElem_append_left hlt
      rw [e2]
      have hul : k < us.length := by rw [h.ll.2.1]; exact hlt
      refine ⟨ak, ck, by rw [List.getElem?_append_left hul]; exact g1, ?_, fun q hq => ⟨?_, fun j hj u hu => ?_⟩⟩
      · refine own_kept (own_below g2 h4) hk46 (fun q hq e => (g3 q hq).1 e.symm)
      · have := (g2.lt q hq).2
        exact hne6 q (by omega) (g3 q hq).1
      · rw [List.getElem?_append_left (by omega)] at hu
        exact (g3 q hq).2 j hj u hu
    · have hkl : k = LL.length := by simp at hk; omega
      subst hkl
      have e2 : (LL ++ [L])[LL.length] = L := by simp
      rw [e2]
      refine ⟨ar, cr, by rw [List.getElem?_append_right (by rw [h.ll.2.1]; exact Nat.le_refl _), h.ll.2.1]; simp, ?_, fun q hq => ⟨?_, fun j hj u hu e => ?_⟩⟩
      · refine own_kept (own_lowerS ho (by omega)) hk46 (fun q hq e => ?_)
        have h1 := hrb q hq
        have h2 := hvb q e.symm
        omega
      · have h1 := hrb q hq
        exact hne6 q h1.2 (fun e => by have := hvb q e; omega)
      · have h1 := hrb q hq
        have hul : j < us.length := by rw [h.ll.2.1]; exact hj
        rw [List.getElem?_append_left hul] at hu
        obtain ⟨aj, cj, g1, g2, _⟩ := h.rw j hj
        rw [g1] at hu
        simp only [Option.some.injEq] at hu
        rw [← hu] at e
        have := (g2.lt q e).2
        omega
/-- What small tells. -/
def SmallTold (k : Int) (Ts : List (List Int)) (w w' : World) (v : Value) : Prop := ∃ a' c' us, v = .agg #[.int .i64 k, .slice a' Ts.length c'] ∧ LLOwn w' w.heap.size (fun q => w.heap.size ≤ q) (.slice a' Ts.length c') us Ts ∧ RowsW w' w.heap.size (.slice a' Ts.length c') us Ts ∧ Below w.heap.size w w'
theorem SmallTold.at {k : Int} {Ts : List (List Int)} {w w' : World} {v : Value} (h : SmallTold k Ts w w' v) : ∃ a' c', v = .agg #[.int .i64 k, .slice a' Ts.length c'] ∧ LLAt w' a' Ts ∧ Below w.heap.size w w' := by
  obtain ⟨a', c', us, hv, hl, _, hb⟩ := h
  obtain ⟨a2, c2, e, _, hat⟩ := hl.at
  simp only [Value.slice.injEq] at e
  rw [← e.1] at hat
  exact ⟨a', c', hv, hat, hb⟩
/-- The sets, cut. -/
def smallR (Ss : List (List Int)) : List (List Int) := cutL Ss (min Ss.length 6)
theorem iat_take6 {w : World} {a : Option Addr} {xs : List Int} (h : IAt w a xs) (k : Nat) : IAt w a (xs.take k) := fun h0 => by
  rw [List.length_take] at h0
  obtain ⟨g, off, ha, hg, hc⟩ := h (by omega)
  refine ⟨g, off, ha, hg, fun j hj => ?_⟩
  rw [List.length_take] at hj
  rw [List.getElem_take]
  exact hc j (by omega)

set_option maxHeartbeats 8000000 in
set_option maxRecDepth 100000 in
theorem small_any (kk : Int) (a : Option Addr) (N cap : Nat) (LL : List (List Int)) (w : World) (h : CameR w a N cap LL) :
    Calls Try.prog 19 #[.agg #[.int .i64 kk, .slice a N cap]] w fun e w' => ∃ v, e = .returned v ∧ SmallTold kk (smallR LL) w w' v := by
  have HL := hid h.len_
  obtain ⟨i0, hi0, hz0, hz1, hz2⟩ := info_parts Try.info3
  obtain ⟨i1, hj, hy0, hy1, hy2⟩ := info_parts Try.info28
  obtain ⟨b0, hb0⟩ := ex_eq w.heap.size
  obtain ⟨W, hW, hsW, hO0, hO1, hO2, hbW⟩ := new_threeM w (.cells #[.int .i64 kk, .slice a N cap] 39) (.cells #[.int .i64 0, .slice none 0 0] 40) (.cells #[.int .i64 kk, .slice none 0 0] 40)
  rw [← hb0] at hsW hO0 hO1 hO2 hbW
  have HB0 := hid hb0
  have HAT := hid h.at_
  have HW := hid hW
  have HBW := hid hbW
  have HBX : Hid (∀ X, Below (b0 + 2) W X → X.cell? ⟨b0, 0, none⟩ = some (.int .i64 kk) ∧ X.cell? ⟨b0, 1, none⟩ = some (.slice a N cap) ∧ X.heap[b0 + 1]? = some (.cells #[.int .i64 0, .slice none 0 0] 40 (0, 0)) ∧ Below b0 w X) := fun X hX => by
    have o0 := (hX.block b0 (by omega)).trans hO0
    have o1 := (hX.block (b0 + 1) (by omega)).trans hO1
    exact ⟨cell_of_heap o0 0, cell_of_heap o0 1, o1, hbW.trans (hX.mono (by omega))⟩
  have HST : Hid (∃ v us, SmSt W W b0 kk v us (cutL LL 0)) := ⟨.slice none 0 0, [], cell_of_heap hO2 0, cell_of_heap hO2 1, frozen_of_heap hO2 1, by unfold cutL; exact llown_none _ _ _, (fun k hk => by simp [cutL] at hk), Below.refl _ _, by omega⟩
  clear h hb0 hbW hO0 hO1 hO2 hW
  obtain ⟨x0, x1, _, _⟩ := HBX.out W (Below.refl _ _)
  go_enter Try.func19, Try.ntmps19
  go_upto_region 2 with fail
  rw [← HB0.out]
  rw [← HW.out]
  go_wp2
  clear x0 x1
  go_loopg [4] 6 (fun G i wz => ∃ t : Nat, t ≤ 6 ∧ t ≤ N ∧ 6 - t ≤ G ∧ i = .int .i64 t ∧ Hid (∃ v us, SmSt W wz b0 kk v us (cutL LL t)))
  case atStart => exact ⟨0, Nat.zero_le _, Nat.zero_le _, by omega, rfl, HST⟩
  case round =>
    clear HST
    obtain ⟨t, ht, htN, hG, rfl, hst⟩ := hrel
    obtain ⟨u4, us, hSt⟩ := hst.out
    obtain ⟨x0, x1, _, hbz⟩ := HBX.out wr hSt.kp
    go_upto_region 3 with fail
    go_cut [16] from 8 to 38 (fun c wx => c = .bool (decide (t < N ∧ t < 6)) ∧ wx = wr)
    case first =>
      have hway : ((t : Int) < (N : Int) ∧ (t : Int) < 6) ∨ ¬ (t : Int) < (N : Int) ∨ ((t : Int) < (N : Int) ∧ ¬ (t : Int) < 6) := by omega
      clear hst hSt hbz
      rcases hway with ⟨v1, v2⟩ | v1 | ⟨v1, v2⟩
      all_goals
        go_wp2_with fail
        go_meet
      all_goals first | exact ⟨congrArg Value.bool (decide_eq_decide.2 (by omega)), rfl⟩ | exact ⟨congrArg Value.bool (decide_eq_false (p := t < N ∧ t < 6) (by omega)).symm, rfl⟩ | exact ⟨congrArg Value.bool (decide_eq_true (p := t < N ∧ t < 6) (by omega)).symm, rfl⟩
    case rest =>
      obtain ⟨rfl, hwc⟩ := hcut
      rw [hwc]
      clear hwc
      by_cases hgo : t < N ∧ t < 6
      · rw [decide_eq_true hgo]
        obtain ⟨hlt, ht6⟩ := hgo
        have htr : t < LL.length := by rw [← HL.out]; exact hlt
        obtain ⟨g, off, ha', hg, hrow⟩ := HAT.out (by omega)
        subst ha'
        obtain ⟨ak, ck, c0, hck⟩ := hrow t htr
        obtain ⟨R, hR⟩ := ex_eq LL[t].length
        rw [← hR] at c0 hck
        obtain ⟨Kr, hKr⟩ := ex_eq (min R 20)
        obtain ⟨L, hLr⟩ := ex_eq (LL[t].take 20)
        have hLl : L.length = Kr := by rw [hLr, List.length_take]; omega
        have HLr := hid hLr
        have HSB : Hid (∀ X, Below (b0 + 2) W X → X.cell? ⟨b0, 1, none⟩ = some (.slice (some ⟨g, off, none⟩) N cap) ∧ X.cell? ⟨g, off + t, none⟩ = some (.slice ak R ck)) := fun X hX => by
          obtain ⟨_, y1, _, y2⟩ := HBX.out X hX
          exact ⟨y1, (y2.cell (p := ⟨g, off + t, none⟩) (by rw [HB0.out]; exact hg)).trans c0⟩
        have HIR : Hid (∀ X, Below b0 w X → IAt X ak L) := fun X hX => by
          rw [hLr]; exact iat_take6 (hck.at_.below (by rw [← HB0.out]; exact hX)) 20
        have hsz := hSt.sz
        have HBZ2 : Hid (∀ X, Below wr.heap.size wr.drew X → Below (b0 + 2) W X) := fun X hX => hSt.kp.drew.trans (hX.mono (by omega))
        have HBA : Hid (Below wr.heap.size wr.drew (wr.drew.alloc (.cells #[] 3))) := (Below.refl wr.heap.size wr.drew).alloc (Nat.le_refl _) _
        have HOW : Hid ((wr.drew.alloc (.cells #[] 3)).ownsRow wr.heap.size 3 1 (.slice (some ⟨wr.heap.size, 0, none⟩) 0 0) 0 []) := own_emptyI (w := wr.drew) _ rfl
        have hck1 := hck.le
        have hck2 := hck.nil
        have hck3 := hck.max
        have kmin : min (R : Int) 20 = (Kr : Int) := by omega
        have kc : (Kr : Int) ≤ (ck : Int) := by omega
        have k0 : (0 : Int) ≤ (Kr : Int) := by omega
        have k9 : (Kr : Int) ≤ (R : Int) := by omega
        have hKr20 : Kr ≤ 20 := by omega
        have HNIL : Hid (ak = none → Kr = 0 ∧ ck = 0) := fun e => by have := hck2 e; exact ⟨by omega, this⟩
        have HNW : Hid (∀ q, ak = some q → ∀ j u, (L.map (Value.int .i64))[j]? = some u → (wr.drew.alloc (.cells #[] 3)).cell? (q.add j) = some u) := fun q hq j u hu' => by
          subst hq
          rw [List.getElem?_map] at hu'
          have hjl : j < L.length := by
            by_cases hh : j < L.length
            · exact hh
            · rw [List.getElem?_eq_none (by omega)] at hu'; cases hu'
          rw [List.getElem?_eq_getElem hjl] at hu'
          cases hu'
          obtain ⟨g', off', hg', _, hc'⟩ := HIR.out (wr.drew.alloc (.cells #[] 3)) (HBX.out _ (HBZ2.out _ HBA.out)).2.2.2 (by omega)
          cases hg'
          rw [add_at]
          exact hc' j hjl
        have HON : Hid (∀ v ∈ L.map (Value.int .i64), v.oneCell' = true) := fun v hv => by obtain ⟨z, _, rfl⟩ := List.mem_map.1 hv; rfl
        have HLN : Hid ((L.map (Value.int .i64)).length = Kr * 1) := by show _ = _; rw [List.length_map, hLl, Nat.mul_one]
        have H63 : Hid (0 + Kr ≤ maxLen) := by show 0 + Kr ≤ maxLen; unfold maxLen; omega
        have HBS : Hid (wr.heap.size ≤ (wr.drew.alloc (.cells #[] 3)).heap.size) := by show wr.heap.size ≤ _; simp
        have HPUT : Hid (∀ v4 w4, w4.ownsRow wr.heap.size 3 1 v4 Kr (L.map (Value.int .i64)) → (wr.drew.alloc (.cells #[] 3)).grownBy w4 (Value.slice (some ⟨wr.heap.size, 0, none⟩) 0 0).ownBlock → ∃ ar cr, v4 = .slice ar Kr cr ∧ (w4.ownsRow wr.heap.size 3 1 (.slice ar Kr cr) Kr (L.map (Value.int .i64))) ∧ Below wr.heap.size wr.drew w4) := fun v4 w4 h1 h2 => by
          obtain ⟨a3, c3, hv3, _⟩ := sl_own h1
          subst hv3
          exact ⟨a3, c3, rfl, h1, Below.grown ((Below.refl wr.heap.size wr.drew).alloc (Nat.le_refl _) _) h2 (by simp) (fun j hj => (HOW.out.lt j hj).1)⟩
        have hct : (cutL LL t).length = t := cutL_len (by omega)
        have hSd := hSt.drew
        have HV : Hid (∀ X, Below wr.heap.size wr.drew X → X.cell? ⟨b0 + 2, 1, none⟩ = some u4) := fun X hX => (hX.cell (p := ⟨b0 + 2, 1, none⟩) (by simp only; omega)).trans hSd.c1
        have HO2 : Hid (∀ w4 ar cr, Below wr.heap.size wr.drew w4 → (w4.alloc (.cells #[.slice ar Kr cr] 28)).ownsRow (b0 + 3) 28 1 u4 t us) := fun w4 ar cr h4 => by
          have h := (hSd.ll.below h4).1
          rw [hct] at h
          exact h.alloc _
        have HBZ : Hid (∀ (w4 : World) (ar : Option Addr) (cr : Nat), Below wr.heap.size wr.drew w4 → b0 + 3 ≤ (w4.alloc (.cells #[.slice ar Kr cr] 28)).heap.size) := fun w4 ar cr h4 => by
          have h5 : wr.heap.size ≤ w4.heap.size := h4.size
          simp
          omega
        have HALW : Hid (∀ (w4 : World) (ar : Option Addr) (cr : Nat), Below wr.heap.size wr.drew w4 → Below wr.heap.size wr.drew (w4.alloc (.cells #[.slice ar Kr cr] 28))) := fun w4 ar cr h4 => h4.alloc h4.size _
        have H632 : Hid (t + 1 ≤ maxLen) := by show t + 1 ≤ maxLen; unfold maxLen; omega
        have HF : Hid (∀ w4 ar cr, Below wr.heap.size wr.drew w4 → w4.ownsRow wr.heap.size 3 1 (.slice ar Kr cr) Kr (L.map (Value.int .i64)) → ∀ v6 w6, w6.ownsRow (b0 + 3) 28 1 v6 (t + 1) (us ++ [.slice ar Kr cr]) → (w4.alloc (.cells #[.slice ar Kr cr] 28)).grownBy w6 u4.ownBlock → (v6.ownBlock = u4.ownBlock ∨ v6.ownBlock = some (w4.alloc (.cells #[.slice ar Kr cr] 28)).heap.size) → (w6.cell? ⟨b0 + 2, 1, none⟩ = some u4 ∧ w6.frozen? ⟨b0 + 2, 1, none⟩ = false) ∧ Below (b0 + 2) W w6 ∧ ∃ us', SmSt W (w6.setCell ⟨b0 + 2, 1, none⟩ v6) b0 kk v6 us' (cutL LL (t + 1))) := fun w4 ar cr h4 ho4 v6 w6 h1 h2 h3 => by
          rw [← hLl] at ho4 h1 h2 h3
          obtain ⟨r1, r2, r3⟩ := hSd.put (L := L) h4 ho4 (by rw [hct]; exact h1) h2 h3
          refine ⟨r1, r2, us ++ [.slice ar L.length cr], ?_⟩
          rw [cutL_next htr, ← HLr.out]
          exact r3
        have q1 : (t : Int) < (N : Int) := by omega
        have q2 : (0 : Int) ≤ (t : Int) := by omega
        have q5 : (t : Int) < 6 := by omega
        have hS := HSB.out wr.drew (HBZ2.out _ (Below.refl _ _))
        clear hrow hck hR hKr hLr hLl hst hSt hSd hct c0 x0 x1 hbz
        cases ak with
        | none =>
          obtain rfl := hck2 rfl
          obtain rfl : R = 0 := by omega
          obtain rfl : Kr = 0 := by omega
          clear hck2 hck1 hck3 kmin kc k0 k9
          have kmin : min (0 : Int) 20 = 0 := by decide
          go_wp2_with fail
          refine wp_region_held_drew (S := (fun X : World => X.cell? ⟨b0, 1, none⟩ = some (.slice (some ⟨g, off, none⟩) N cap) ∧ X.cell? ⟨g, off + t, none⟩ = some (.slice none 0 0))) (by kernel_rfl) hS (fun hHeld => ?_)
          (refine takeW (i := 0) (dst := some 19) (v := ?_) rfl rfl (by kernel_rfl) (by kernel_rfl) (by kernel_rfl) (fun _ _ _ h => h) (Or.inl ⟨by rfl, ?_⟩) hHeld ?_; rotate_left; focus (intro w hSw; (try dsimp only at hSw); go_simp; (try with_reducible rfl); done))
          try simp only [Act.put, List.setIfInBounds_toArray, List.set_cons_zero, List.set_cons_succ]
          (refine takeW (i := 3) (dst := some 22) (v := ?_) rfl rfl (by kernel_rfl) (by kernel_rfl) (by kernel_rfl) (fun _ _ _ h => h) (Or.inl ⟨by rfl, ?_⟩) hHeld ?_; rotate_left; focus (intro w hSw; (try dsimp only at hSw); go_simp; (try with_reducible rfl); done))
          try simp only [Act.put, List.setIfInBounds_toArray, List.set_cons_zero, List.set_cons_succ]
          (refine takeW (i := 4) (dst := some 23) (v := ?_) rfl rfl (by kernel_rfl) (by kernel_rfl) (by kernel_rfl) (fun _ _ _ h => h) (Or.inl ⟨by rfl, ?_⟩) hHeld ?_; rotate_left; focus (intro w hSw; (try dsimp only at hSw); go_simp; (try with_reducible rfl); done))
          try simp only [Act.put, List.setIfInBounds_toArray, List.set_cons_zero, List.set_cons_succ]
          (refine takeW (i := 5) (dst := some 24) (v := ?_) rfl rfl (by kernel_rfl) (by kernel_rfl) (by kernel_rfl) (fun _ _ _ h => h) (Or.inl ⟨by rfl, ?_⟩) hHeld ?_; rotate_left; focus (intro w hSw; (try dsimp only at hSw); go_simp; (try with_reducible rfl); done))
          try simp only [Act.put, List.setIfInBounds_toArray, List.set_cons_zero, List.set_cons_succ]
          (refine takeW (i := 6) (dst := some 25) (v := ?_) rfl rfl (by kernel_rfl) (by kernel_rfl) (by kernel_rfl) (fun _ _ _ h => h) (Or.inl ⟨by rfl, ?_⟩) hHeld ?_; rotate_left; focus (intro w hSw; (try dsimp only at hSw); go_simp; (try with_reducible rfl); done))
          try simp only [Act.put, List.setIfInBounds_toArray, List.set_cons_zero, List.set_cons_succ]
          (refine takeW (i := 7) (dst := some 26) (v := ?_) rfl rfl (by kernel_rfl) (by kernel_rfl) (by kernel_rfl) (fun _ _ _ h => h) (Or.inl ⟨by rfl, ?_⟩) hHeld ?_; rotate_left; focus (intro w hSw; (try dsimp only at hSw); go_simp; (try with_reducible rfl); done))
          try simp only [Act.put, List.setIfInBounds_toArray, List.set_cons_zero, List.set_cons_succ]
          (refine takeW (i := 8) (dst := some 27) (v := ?_) rfl rfl (by kernel_rfl) (by kernel_rfl) (by kernel_rfl) (fun _ _ _ h => h) (Or.inl ⟨by rfl, ?_⟩) hHeld ?_; rotate_left; focus (intro w hSw; (try dsimp only at hSw); go_simp; (try with_reducible rfl); done))
          try simp only [Act.put, List.setIfInBounds_toArray, List.set_cons_zero, List.set_cons_succ]
          (refine takeW (i := 9) (dst := some 28) (v := ?_) rfl rfl (by kernel_rfl) (by kernel_rfl) (by kernel_rfl) (fun _ _ _ h => h) (Or.inl ⟨by rfl, ?_⟩) hHeld ?_; rotate_left; focus (intro w hSw; (try dsimp only at hSw); go_simp; (try with_reducible rfl); done))
          try simp only [Act.put, List.setIfInBounds_toArray, List.set_cons_zero, List.set_cons_succ]
          (refine takeW (i := 10) (dst := some 29) (v := ?_) rfl rfl (by kernel_rfl) (by kernel_rfl) (by kernel_rfl) (fun _ _ _ h => h) (Or.inl ⟨by rfl, ?_⟩) hHeld ?_; rotate_left; focus (intro w hSw; (try dsimp only at hSw); go_simp; (try with_reducible rfl); done))
          try simp only [Act.put, List.setIfInBounds_toArray, List.set_cons_zero, List.set_cons_succ]
          (refine takeW (i := 11) (dst := some 30) (v := ?_) rfl rfl (by kernel_rfl) (by kernel_rfl) (by kernel_rfl) (fun _ _ _ h => h) (Or.inl ⟨by rfl, ?_⟩) hHeld ?_; rotate_left; focus (intro w hSw; (try dsimp only at hSw); go_simp; (try with_reducible rfl); done))
          try simp only [Act.put, List.setIfInBounds_toArray, List.set_cons_zero, List.set_cons_succ]
          (refine takeW (i := 12) (dst := some 31) (v := ?_) rfl rfl (by kernel_rfl) (by kernel_rfl) (by kernel_rfl) (fun _ _ _ h => h) (Or.inl ⟨by rfl, ?_⟩) hHeld ?_; rotate_left; focus (intro w hSw; (try dsimp only at hSw); go_simp; (try with_reducible rfl); done))
          try simp only [Act.put, List.setIfInBounds_toArray, List.set_cons_zero, List.set_cons_succ]
          (refine takeW (i := 13) (dst := some 32) (v := ?_) rfl rfl (by kernel_rfl) (by kernel_rfl) (by kernel_rfl) (fun _ _ _ h => h) (Or.inl ⟨by rfl, ?_⟩) hHeld ?_; rotate_left; focus (intro w hSw; (try dsimp only at hSw); go_simp; (try with_reducible rfl); done))
          try simp only [Act.put, List.setIfInBounds_toArray, List.set_cons_zero, List.set_cons_succ]
          (refine takeW (i := 14) (dst := some 33) (v := ?_) rfl rfl (by kernel_rfl) (by kernel_rfl) (by kernel_rfl) (fun _ _ _ h => h) (Or.inl ⟨by rfl, ?_⟩) hHeld ?_; rotate_left; focus (intro w hSw; (try dsimp only at hSw); go_simp; (try with_reducible rfl); done))
          try simp only [Act.put, List.setIfInBounds_toArray, List.set_cons_zero, List.set_cons_succ]
          (refine takeW (i := 15) (dst := some 34) (v := ?_) rfl rfl (by kernel_rfl) (by kernel_rfl) (by kernel_rfl) (fun _ _ _ h => h) (Or.inl ⟨by rfl, ?_⟩) hHeld ?_; rotate_left; focus (intro w hSw; (try dsimp only at hSw); go_simp; (try with_reducible rfl); done))
          try simp only [Act.put, List.setIfInBounds_toArray, List.set_cons_zero, List.set_cons_succ]
          refine wpAnyH_ready (rs := [1, 2]) (by kernel_rfl) (by simp) ?_
          refine AllReadyH.cons (o := _) rfl (fun KK hK => ?_) (AllReadyH.cons (o := _) rfl (fun KK hK => ?_) AllReadyH.nil)
          next =>
           have k1 : wr.cell? ⟨b0 + 1 + 1, 1, none⟩ = some u4 := HV.out wr.drew (Below.refl _ _)
           go_simp
           refine hK.out _ _ (HSB.out _ (HBZ2.out _ (Below.refl _ _))) (fun hHeld => ?_)
           clear k1
           clear hK KK
           try simp only [Act.put]
           try simp only [List.setIfInBounds_toArray]
           try simp only [List.set_cons_succ]
           try simp only [List.set_cons_zero]
           refine wpAnyH_ready (rs := [2]) (by kernel_rfl) (by simp) ?_
           refine AllReadyH.cons (o := _) rfl (fun KK hK => ?_) AllReadyH.nil
           go_simp
           refine hK.out _ _ (HSB.out _ (HBZ2.out _ HBA.out)) (fun hHeld => ?_)
           clear hK KK
           try simp only [Act.put]
           try simp only [List.setIfInBounds_toArray]
           try simp only [List.set_cons_succ]
           try simp only [List.set_cons_zero]
           refine wpAnyH_ready (rs := [16]) (by kernel_rfl) (by simp) ?_
           refine AllReadyH.cons (o := _) rfl (fun KK hK => ?_) AllReadyH.nil
           rw [if_pos (by rfl)]
           refine wp_append_any _ (.tmp 21) (.tmp 34) 28 rfl wr.heap.size 3 i0 _ 1 8 Try.underlying28 hi0 hz0 hz1 hz2 rfl (by decide) (.slice (some ⟨wr.heap.size, 0, none⟩) 0 0) 0 [] (by simp [Act.eval]) HOW.out none 0 0 (L.map (Value.int .i64)) (by simp [Act.eval]) (fun _ => ⟨rfl, rfl⟩) HLN.out HNW.out HON.out H63.out (by omega) HBS.out ?_
           intro v4 w4 hown4 hgrow4 _
           obtain ⟨ar, cr, hv4, hI4, hb4⟩ := HPUT.out v4 w4 (by simpa using hown4) hgrow4
           subst hv4
           have HI4 := hid hI4
           have HB4 := hid hb4
           have HOW2 := hid (HO2.out w4 ar cr hb4)
           have HNW2 : Hid (∀ p, some (⟨w4.heap.size, 0, none⟩ : Addr) = some p → ∀ j u, [Value.slice ar 0 cr][j]? = some u → (w4.alloc (.cells #[.slice ar 0 cr] 28)).cell? (p.add j) = some u) := news_one _
           have HON2 : Hid (∀ v ∈ [Value.slice ar 0 cr], v.oneCell' = true) := fun v hv => by simp at hv; rw [hv]; rfl
           have HFIN := hid (HF.out w4 ar cr hb4 hI4)
           have HBS2 : Hid (b0 + 3 ≤ (w4.alloc (.cells #[.slice ar 0 cr] 28)).heap.size) := HBZ.out w4 ar cr hb4
           clear hown4 hgrow4 hI4 hb4
           refine hK.out _ _ (HSB.out w4 (HBZ2.out _ HB4.out)) (fun hHeld => ?_)
           clear hK KK
           try simp only [Act.put]
           try simp only [List.setIfInBounds_toArray]
           try simp only [List.set_cons_succ]
           try simp only [List.set_cons_zero]
           refine wpAnyH_ready (rs := [17]) (by kernel_rfl) (by simp) ?_
           refine AllReadyH.cons (o := _) rfl (fun KK hK => ?_) AllReadyH.nil
           go_simp
           refine hK.out _ _ (HSB.out _ (HBZ2.out _ (HALW.out w4 ar cr HB4.out))) (fun hHeld => ?_)
           clear hK KK
           try simp only [Act.put]
           try simp only [List.setIfInBounds_toArray]
           try simp only [List.set_cons_succ]
           try simp only [List.set_cons_zero]
           refine wpAnyH_ready (rs := [18]) (by kernel_rfl) (by simp) ?_
           refine AllReadyH.cons (o := _) rfl (fun KK hK => ?_) AllReadyH.nil
           rw [if_pos (by rfl)]
           refine wp_append_any _ (.tmp 20) (.tmp 36) 29 rfl (b0 + 3) 28 i1 _ 1 24 Try.underlying29 hj hy0 hy1 hy2 rfl (by decide) u4 t us (by simp [Act.eval]) HOW2.out (some ⟨w4.heap.size, 0, none⟩) 1 1 [.slice ar 0 cr] (by simp [Act.eval]) (fun h => by cases h) rfl HNW2.out HON2.out H632.out (by omega) HBS2.out ?_
           intro v6 w6 hown6 hgrow6 hat6
           obtain ⟨va6, vc6, rfl, _⟩ := sl_own hown6
           obtain ⟨⟨k1, k2⟩, hb6, us6, hst6⟩ := HFIN.out _ w6 hown6 hgrow6 (hat6.imp id (fun h => by rw [h]))
           have k3 : w6.cell? ⟨b0 + 1 + 1, 1, none⟩ = some u4 := k1
           have k4 : w6.frozen? ⟨b0 + 1 + 1, 1, none⟩ = false := k2
           have HB6 := hid hb6
           have HS6 := hid hst6
           have HBN : Hid (Below (b0 + 2) W (w6.setCell ⟨b0 + 2, 1, none⟩ (.slice va6 (t + 1) vc6))) := hst6.kp
           clear hown6 hgrow6 hat6 hb6 hst6
           refine hK.out _ _ (HSB.out w6 HB6.out) (fun hHeld => ?_)
           clear hK KK
           try simp only [Act.put]
           try simp only [List.setIfInBounds_toArray]
           try simp only [List.set_cons_succ]
           try simp only [List.set_cons_zero]
           (refine takeW (i := 19) (dst := some 38) (v := ?_) rfl rfl (by kernel_rfl) (by kernel_rfl) (by kernel_rfl) (fun _ _ _ h => h) (Or.inl ⟨by rfl, ?_⟩) hHeld ?_; rotate_left; focus (intro w hSw; (try dsimp only at hSw); go_simp; (try with_reducible rfl); done))
           try simp only [Act.put]
           try simp only [List.setIfInBounds_toArray]
           try simp only [List.set_cons_succ]
           try simp only [List.set_cons_zero]
           refine wpAnyH_ready (rs := [20]) (by kernel_rfl) (by simp) ?_
           refine AllReadyH.cons (o := _) rfl (fun KK hK => ?_) AllReadyH.nil
           go_simp
           refine hK.out _ _ (HSB.out _ HBN.out) (fun hHeld => ?_)
           clear hK KK
           try simp only [Act.put]
           try simp only [List.setIfInBounds_toArray]
           try simp only [List.set_cons_succ]
           try simp only [List.set_cons_zero]
           refine wpAnyH_done (by kernel_rfl) ?_ _
           have HNX : Hid (∃ v us, SmSt W (w6.setCell ⟨b0 + 2, 1, none⟩ (.slice va6 (t + 1) vc6)) b0 kk v us (cutL LL (t + 1))) := ⟨_, _, HS6.out⟩
           clear HS6 hHeld hS HSB HF HO2 HBZ HPUT HIR HFIN HV HBN k1 k2 k3 k4 HALW
           go_wp2
           go_roundg (6 - (t + 1))
           case measure => omega
           case rel => exact ⟨t + 1, by omega, by omega, Nat.le_refl _, by go_num, HNX⟩
          next =>
           go_simp
           refine hK.out _ _ (HSB.out _ (HBZ2.out _ HBA.out)) (fun hHeld => ?_)
           clear hK KK
           try simp only [Act.put]
           try simp only [List.setIfInBounds_toArray]
           try simp only [List.set_cons_succ]
           try simp only [List.set_cons_zero]
           refine wpAnyH_ready (rs := [1, 16]) (by kernel_rfl) (by simp) ?_
           refine AllReadyH.cons (o := _) rfl (fun KK hK => ?_) (AllReadyH.cons (o := _) rfl (fun KK hK => ?_) AllReadyH.nil)
           next =>
            have k1 : (wr.alloc (.cells #[] 3)).cell? ⟨b0 + 1 + 1, 1, none⟩ = some u4 := HV.out (wr.drew.alloc (.cells #[] 3)) HBA.out
            go_simp
            refine hK.out _ _ (HSB.out _ (HBZ2.out _ HBA.out)) (fun hHeld => ?_)
            clear k1
            clear hK KK
            try simp only [Act.put]
            try simp only [List.setIfInBounds_toArray]
            try simp only [List.set_cons_succ]
            try simp only [List.set_cons_zero]
            refine wpAnyH_ready (rs := [16]) (by kernel_rfl) (by simp) ?_
            refine AllReadyH.cons (o := _) rfl (fun KK hK => ?_) AllReadyH.nil
            rw [if_pos (by rfl)]
            refine wp_append_any _ (.tmp 21) (.tmp 34) 28 rfl wr.heap.size 3 i0 _ 1 8 Try.underlying28 hi0 hz0 hz1 hz2 rfl (by decide) (.slice (some ⟨wr.heap.size, 0, none⟩) 0 0) 0 [] (by simp [Act.eval]) HOW.out none 0 0 (L.map (Value.int .i64)) (by simp [Act.eval]) (fun _ => ⟨rfl, rfl⟩) HLN.out HNW.out HON.out H63.out (by omega) HBS.out ?_
            intro v4 w4 hown4 hgrow4 _
            obtain ⟨ar, cr, hv4, hI4, hb4⟩ := HPUT.out v4 w4 (by simpa using hown4) hgrow4
            subst hv4
            have HI4 := hid hI4
            have HB4 := hid hb4
            have HOW2 := hid (HO2.out w4 ar cr hb4)
            have HNW2 : Hid (∀ p, some (⟨w4.heap.size, 0, none⟩ : Addr) = some p → ∀ j u, [Value.slice ar 0 cr][j]? = some u → (w4.alloc (.cells #[.slice ar 0 cr] 28)).cell? (p.add j) = some u) := news_one _
            have HON2 : Hid (∀ v ∈ [Value.slice ar 0 cr], v.oneCell' = true) := fun v hv => by simp at hv; rw [hv]; rfl
            have HFIN := hid (HF.out w4 ar cr hb4 hI4)
            have HBS2 : Hid (b0 + 3 ≤ (w4.alloc (.cells #[.slice ar 0 cr] 28)).heap.size) := HBZ.out w4 ar cr hb4
            clear hown4 hgrow4 hI4 hb4
            refine hK.out _ _ (HSB.out w4 (HBZ2.out _ HB4.out)) (fun hHeld => ?_)
            clear hK KK
            try simp only [Act.put]
            try simp only [List.setIfInBounds_toArray]
            try simp only [List.set_cons_succ]
            try simp only [List.set_cons_zero]
            refine wpAnyH_ready (rs := [17]) (by kernel_rfl) (by simp) ?_
            refine AllReadyH.cons (o := _) rfl (fun KK hK => ?_) AllReadyH.nil
            go_simp
            refine hK.out _ _ (HSB.out _ (HBZ2.out _ (HALW.out w4 ar cr HB4.out))) (fun hHeld => ?_)
            clear hK KK
            try simp only [Act.put]
            try simp only [List.setIfInBounds_toArray]
            try simp only [List.set_cons_succ]
            try simp only [List.set_cons_zero]
            refine wpAnyH_ready (rs := [18]) (by kernel_rfl) (by simp) ?_
            refine AllReadyH.cons (o := _) rfl (fun KK hK => ?_) AllReadyH.nil
            rw [if_pos (by rfl)]
            refine wp_append_any _ (.tmp 20) (.tmp 36) 29 rfl (b0 + 3) 28 i1 _ 1 24 Try.underlying29 hj hy0 hy1 hy2 rfl (by decide) u4 t us (by simp [Act.eval]) HOW2.out (some ⟨w4.heap.size, 0, none⟩) 1 1 [.slice ar 0 cr] (by simp [Act.eval]) (fun h => by cases h) rfl HNW2.out HON2.out H632.out (by omega) HBS2.out ?_
            intro v6 w6 hown6 hgrow6 hat6
            obtain ⟨va6, vc6, rfl, _⟩ := sl_own hown6
            obtain ⟨⟨k1, k2⟩, hb6, us6, hst6⟩ := HFIN.out _ w6 hown6 hgrow6 (hat6.imp id (fun h => by rw [h]))
            have k3 : w6.cell? ⟨b0 + 1 + 1, 1, none⟩ = some u4 := k1
            have k4 : w6.frozen? ⟨b0 + 1 + 1, 1, none⟩ = false := k2
            have HB6 := hid hb6
            have HS6 := hid hst6
            have HBN : Hid (Below (b0 + 2) W (w6.setCell ⟨b0 + 2, 1, none⟩ (.slice va6 (t + 1) vc6))) := hst6.kp
            clear hown6 hgrow6 hat6 hb6 hst6
            refine hK.out _ _ (HSB.out w6 HB6.out) (fun hHeld => ?_)
            clear hK KK
            try simp only [Act.put]
            try simp only [List.setIfInBounds_toArray]
            try simp only [List.set_cons_succ]
            try simp only [List.set_cons_zero]
            (refine takeW (i := 19) (dst := some 38) (v := ?_) rfl rfl (by kernel_rfl) (by kernel_rfl) (by kernel_rfl) (fun _ _ _ h => h) (Or.inl ⟨by rfl, ?_⟩) hHeld ?_; rotate_left; focus (intro w hSw; (try dsimp only at hSw); go_simp; (try with_reducible rfl); done))
            try simp only [Act.put]
            try simp only [List.setIfInBounds_toArray]
            try simp only [List.set_cons_succ]
            try simp only [List.set_cons_zero]
            refine wpAnyH_ready (rs := [20]) (by kernel_rfl) (by simp) ?_
            refine AllReadyH.cons (o := _) rfl (fun KK hK => ?_) AllReadyH.nil
            go_simp
            refine hK.out _ _ (HSB.out _ HBN.out) (fun hHeld => ?_)
            clear hK KK
            try simp only [Act.put]
            try simp only [List.setIfInBounds_toArray]
            try simp only [List.set_cons_succ]
            try simp only [List.set_cons_zero]
            refine wpAnyH_done (by kernel_rfl) ?_ _
            have HNX : Hid (∃ v us, SmSt W (w6.setCell ⟨b0 + 2, 1, none⟩ (.slice va6 (t + 1) vc6)) b0 kk v us (cutL LL (t + 1))) := ⟨_, _, HS6.out⟩
            clear HS6 hHeld hS HSB HF HO2 HBZ HPUT HIR HFIN HV HBN k1 k2 k3 k4 HALW
            go_wp2
            go_roundg (6 - (t + 1))
            case measure => omega
            case rel => exact ⟨t + 1, by omega, by omega, Nat.le_refl _, by go_num, HNX⟩
           next =>
            rw [if_pos (by rfl)]
            refine wp_append_any _ (.tmp 21) (.tmp 34) 28 rfl wr.heap.size 3 i0 _ 1 8 Try.underlying28 hi0 hz0 hz1 hz2 rfl (by decide) (.slice (some ⟨wr.heap.size, 0, none⟩) 0 0) 0 [] (by simp [Act.eval]) HOW.out none 0 0 (L.map (Value.int .i64)) (by simp [Act.eval]) (fun _ => ⟨rfl, rfl⟩) HLN.out HNW.out HON.out H63.out (by omega) HBS.out ?_
            intro v4 w4 hown4 hgrow4 _
            obtain ⟨ar, cr, hv4, hI4, hb4⟩ := HPUT.out v4 w4 (by simpa using hown4) hgrow4
            subst hv4
            have HI4 := hid hI4
            have HB4 := hid hb4
            have HOW2 := hid (HO2.out w4 ar cr hb4)
            have HNW2 : Hid (∀ p, some (⟨w4.heap.size, 0, none⟩ : Addr) = some p → ∀ j u, [Value.slice ar 0 cr][j]? = some u → (w4.alloc (.cells #[.slice ar 0 cr] 28)).cell? (p.add j) = some u) := news_one _
            have HON2 : Hid (∀ v ∈ [Value.slice ar 0 cr], v.oneCell' = true) := fun v hv => by simp at hv; rw [hv]; rfl
            have HFIN := hid (HF.out w4 ar cr hb4 hI4)
            have HBS2 : Hid (b0 + 3 ≤ (w4.alloc (.cells #[.slice ar 0 cr] 28)).heap.size) := HBZ.out w4 ar cr hb4
            clear hown4 hgrow4 hI4 hb4
            refine hK.out _ _ (HSB.out w4 (HBZ2.out _ HB4.out)) (fun hHeld => ?_)
            clear hK KK
            try simp only [Act.put]
            try simp only [List.setIfInBounds_toArray]
            try simp only [List.set_cons_succ]
            try simp only [List.set_cons_zero]
            refine wpAnyH_ready (rs := [1, 17]) (by kernel_rfl) (by simp) ?_
            refine AllReadyH.cons (o := _) rfl (fun KK hK => ?_) (AllReadyH.cons (o := _) rfl (fun KK hK => ?_) AllReadyH.nil)
            next =>
             have k1 : w4.cell? ⟨b0 + 1 + 1, 1, none⟩ = some u4 := HV.out w4 HB4.out
             go_simp
             refine hK.out _ _ (HSB.out _ (HBZ2.out _ HB4.out)) (fun hHeld => ?_)
             clear k1
             clear hK KK
             try simp only [Act.put]
             try simp only [List.setIfInBounds_toArray]
             try simp only [List.set_cons_succ]
             try simp only [List.set_cons_zero]
             refine wpAnyH_ready (rs := [17]) (by kernel_rfl) (by simp) ?_
             refine AllReadyH.cons (o := _) rfl (fun KK hK => ?_) AllReadyH.nil
             go_simp
             refine hK.out _ _ (HSB.out _ (HBZ2.out _ (HALW.out w4 ar cr HB4.out))) (fun hHeld => ?_)
             clear hK KK
             try simp only [Act.put]
             try simp only [List.setIfInBounds_toArray]
             try simp only [List.set_cons_succ]
             try simp only [List.set_cons_zero]
             refine wpAnyH_ready (rs := [18]) (by kernel_rfl) (by simp) ?_
             refine AllReadyH.cons (o := _) rfl (fun KK hK => ?_) AllReadyH.nil
             rw [if_pos (by rfl)]
             refine wp_append_any _ (.tmp 20) (.tmp 36) 29 rfl (b0 + 3) 28 i1 _ 1 24 Try.underlying29 hj hy0 hy1 hy2 rfl (by decide) u4 t us (by simp [Act.eval]) HOW2.out (some ⟨w4.heap.size, 0, none⟩) 1 1 [.slice ar 0 cr] (by simp [Act.eval]) (fun h => by cases h) rfl HNW2.out HON2.out H632.out (by omega) HBS2.out ?_
             intro v6 w6 hown6 hgrow6 hat6
             obtain ⟨va6, vc6, rfl, _⟩ := sl_own hown6
             obtain ⟨⟨k1, k2⟩, hb6, us6, hst6⟩ := HFIN.out _ w6 hown6 hgrow6 (hat6.imp id (fun h => by rw [h]))
             have k3 : w6.cell? ⟨b0 + 1 + 1, 1, none⟩ = some u4 := k1
             have k4 : w6.frozen? ⟨b0 + 1 + 1, 1, none⟩ = false := k2
             have HB6 := hid hb6
             have HS6 := hid hst6
             have HBN : Hid (Below (b0 + 2) W (w6.setCell ⟨b0 + 2, 1, none⟩ (.slice va6 (t + 1) vc6))) := hst6.kp
             clear hown6 hgrow6 hat6 hb6 hst6
             refine hK.out _ _ (HSB.out w6 HB6.out) (fun hHeld => ?_)
             clear hK KK
             try simp only [Act.put]
             try simp only [List.setIfInBounds_toArray]
             try simp only [List.set_cons_succ]
             try simp only [List.set_cons_zero]
             (refine takeW (i := 19) (dst := some 38) (v := ?_) rfl rfl (by kernel_rfl) (by kernel_rfl) (by kernel_rfl) (fun _ _ _ h => h) (Or.inl ⟨by rfl, ?_⟩) hHeld ?_; rotate_left; focus (intro w hSw; (try dsimp only at hSw); go_simp; (try with_reducible rfl); done))
             try simp only [Act.put]
             try simp only [List.setIfInBounds_toArray]
             try simp only [List.set_cons_succ]
             try simp only [List.set_cons_zero]
             refine wpAnyH_ready (rs := [20]) (by kernel_rfl) (by simp) ?_
             refine AllReadyH.cons (o := _) rfl (fun KK hK => ?_) AllReadyH.nil
             go_simp
             refine hK.out _ _ (HSB.out _ HBN.out) (fun hHeld => ?_)
             clear hK KK
             try simp only [Act.put]
             try simp only [List.setIfInBounds_toArray]
             try simp only [List.set_cons_succ]
             try simp only [List.set_cons_zero]
             refine wpAnyH_done (by kernel_rfl) ?_ _
             have HNX : Hid (∃ v us, SmSt W (w6.setCell ⟨b0 + 2, 1, none⟩ (.slice va6 (t + 1) vc6)) b0 kk v us (cutL LL (t + 1))) := ⟨_, _, HS6.out⟩
             clear HS6 hHeld hS HSB HF HO2 HBZ HPUT HIR HFIN HV HBN k1 k2 k3 k4 HALW
             go_wp2
             go_roundg (6 - (t + 1))
             case measure => omega
             case rel => exact ⟨t + 1, by omega, by omega, Nat.le_refl _, by go_num, HNX⟩
            next =>
             go_simp
             refine hK.out _ _ (HSB.out _ (HBZ2.out _ (HALW.out w4 ar cr HB4.out))) (fun hHeld => ?_)
             clear hK KK
             try simp only [Act.put]
             try simp only [List.setIfInBounds_toArray]
             try simp only [List.set_cons_succ]
             try simp only [List.set_cons_zero]
             refine wpAnyH_ready (rs := [1]) (by kernel_rfl) (by simp) ?_
             refine AllReadyH.cons (o := _) rfl (fun KK hK => ?_) AllReadyH.nil
             have k1 : (w4.alloc (.cells #[.slice ar 0 cr] 28)).cell? ⟨b0 + 1 + 1, 1, none⟩ = some u4 := HV.out (w4.alloc (.cells #[.slice ar 0 cr] 28)) (HALW.out w4 ar cr HB4.out)
             have k0 : w4.cell? ⟨b0 + 1 + 1, 1, none⟩ = some u4 := HV.out w4 HB4.out
             go_simp
             refine hK.out _ _ (HSB.out _ (HBZ2.out _ (HALW.out w4 ar cr HB4.out))) (fun hHeld => ?_)
             clear k1 k0
             clear hK KK
             try simp only [Act.put]
             try simp only [List.setIfInBounds_toArray]
             try simp only [List.set_cons_succ]
             try simp only [List.set_cons_zero]
             refine wpAnyH_ready (rs := [18]) (by kernel_rfl) (by simp) ?_
             refine AllReadyH.cons (o := _) rfl (fun KK hK => ?_) AllReadyH.nil
             rw [if_pos (by rfl)]
             refine wp_append_any _ (.tmp 20) (.tmp 36) 29 rfl (b0 + 3) 28 i1 _ 1 24 Try.underlying29 hj hy0 hy1 hy2 rfl (by decide) u4 t us (by simp [Act.eval]) HOW2.out (some ⟨w4.heap.size, 0, none⟩) 1 1 [.slice ar 0 cr] (by simp [Act.eval]) (fun h => by cases h) rfl HNW2.out HON2.out H632.out (by omega) HBS2.out ?_
             intro v6 w6 hown6 hgrow6 hat6
             obtain ⟨va6, vc6, rfl, _⟩ := sl_own hown6
             obtain ⟨⟨k1, k2⟩, hb6, us6, hst6⟩ := HFIN.out _ w6 hown6 hgrow6 (hat6.imp id (fun h => by rw [h]))
             have k3 : w6.cell? ⟨b0 + 1 + 1, 1, none⟩ = some u4 := k1
             have k4 : w6.frozen? ⟨b0 + 1 + 1, 1, none⟩ = false := k2
             have HB6 := hid hb6
             have HS6 := hid hst6
             have HBN : Hid (Below (b0 + 2) W (w6.setCell ⟨b0 + 2, 1, none⟩ (.slice va6 (t + 1) vc6))) := hst6.kp
             clear hown6 hgrow6 hat6 hb6 hst6
             refine hK.out _ _ (HSB.out w6 HB6.out) (fun hHeld => ?_)
             clear hK KK
             try simp only [Act.put]
             try simp only [List.setIfInBounds_toArray]
             try simp only [List.set_cons_succ]
             try simp only [List.set_cons_zero]
             (refine takeW (i := 19) (dst := some 38) (v := ?_) rfl rfl (by kernel_rfl) (by kernel_rfl) (by kernel_rfl) (fun _ _ _ h => h) (Or.inl ⟨by rfl, ?_⟩) hHeld ?_; rotate_left; focus (intro w hSw; (try dsimp only at hSw); go_simp; (try with_reducible rfl); done))
             try simp only [Act.put]
             try simp only [List.setIfInBounds_toArray]
             try simp only [List.set_cons_succ]
             try simp only [List.set_cons_zero]
             refine wpAnyH_ready (rs := [20]) (by kernel_rfl) (by simp) ?_
             refine AllReadyH.cons (o := _) rfl (fun KK hK => ?_) AllReadyH.nil
             go_simp
             refine hK.out _ _ (HSB.out _ HBN.out) (fun hHeld => ?_)
             clear hK KK
             try simp only [Act.put]
             try simp only [List.setIfInBounds_toArray]
             try simp only [List.set_cons_succ]
             try simp only [List.set_cons_zero]
             refine wpAnyH_done (by kernel_rfl) ?_ _
             have HNX : Hid (∃ v us, SmSt W (w6.setCell ⟨b0 + 2, 1, none⟩ (.slice va6 (t + 1) vc6)) b0 kk v us (cutL LL (t + 1))) := ⟨_, _, HS6.out⟩
             clear HS6 hHeld hS HSB HF HO2 HBZ HPUT HIR HFIN HV HBN k1 k2 k3 k4 HALW
             go_wp2
             go_roundg (6 - (t + 1))
             case measure => omega
             case rel => exact ⟨t + 1, by omega, by omega, Nat.le_refl _, by go_num, HNX⟩
        | some ad =>
          clear hck2
          go_wp2_with fail
          refine wp_region_held_drew (S := (fun X : World => X.cell? ⟨b0, 1, none⟩ = some (.slice (some ⟨g, off, none⟩) N cap) ∧ X.cell? ⟨g, off + t, none⟩ = some (.slice (some ad) R ck))) (by kernel_rfl) hS (fun hHeld => ?_)
          (refine takeW (i := 0) (dst := some 19) (v := ?_) rfl rfl (by kernel_rfl) (by kernel_rfl) (by kernel_rfl) (fun _ _ _ h => h) (Or.inl ⟨by rfl, ?_⟩) hHeld ?_; rotate_left; focus (intro w hSw; (try dsimp only at hSw); go_simp; (try with_reducible rfl); done))
          try simp only [Act.put, List.setIfInBounds_toArray, List.set_cons_zero, List.set_cons_succ]
          (refine takeW (i := 3) (dst := some 22) (v := ?_) rfl rfl (by kernel_rfl) (by kernel_rfl) (by kernel_rfl) (fun _ _ _ h => h) (Or.inl ⟨by rfl, ?_⟩) hHeld ?_; rotate_left; focus (intro w hSw; (try dsimp only at hSw); go_simp; (try with_reducible rfl); done))
          try simp only [Act.put, List.setIfInBounds_toArray, List.set_cons_zero, List.set_cons_succ]
          (refine takeW (i := 4) (dst := some 23) (v := ?_) rfl rfl (by kernel_rfl) (by kernel_rfl) (by kernel_rfl) (fun _ _ _ h => h) (Or.inl ⟨by rfl, ?_⟩) hHeld ?_; rotate_left; focus (intro w hSw; (try dsimp only at hSw); go_simp; (try with_reducible rfl); done))
          try simp only [Act.put, List.setIfInBounds_toArray, List.set_cons_zero, List.set_cons_succ]
          (refine takeW (i := 5) (dst := some 24) (v := ?_) rfl rfl (by kernel_rfl) (by kernel_rfl) (by kernel_rfl) (fun _ _ _ h => h) (Or.inl ⟨by rfl, ?_⟩) hHeld ?_; rotate_left; focus (intro w hSw; (try dsimp only at hSw); go_simp; (try with_reducible rfl); done))
          try simp only [Act.put, List.setIfInBounds_toArray, List.set_cons_zero, List.set_cons_succ]
          (refine takeW (i := 6) (dst := some 25) (v := ?_) rfl rfl (by kernel_rfl) (by kernel_rfl) (by kernel_rfl) (fun _ _ _ h => h) (Or.inl ⟨by rfl, ?_⟩) hHeld ?_; rotate_left; focus (intro w hSw; (try dsimp only at hSw); go_simp; (try with_reducible rfl); done))
          try simp only [Act.put, List.setIfInBounds_toArray, List.set_cons_zero, List.set_cons_succ]
          (refine takeW (i := 7) (dst := some 26) (v := ?_) rfl rfl (by kernel_rfl) (by kernel_rfl) (by kernel_rfl) (fun _ _ _ h => h) (Or.inl ⟨by rfl, ?_⟩) hHeld ?_; rotate_left; focus (intro w hSw; (try dsimp only at hSw); go_simp; (try with_reducible rfl); done))
          try simp only [Act.put, List.setIfInBounds_toArray, List.set_cons_zero, List.set_cons_succ]
          (refine takeW (i := 8) (dst := some 27) (v := ?_) rfl rfl (by kernel_rfl) (by kernel_rfl) (by kernel_rfl) (fun _ _ _ h => h) (Or.inl ⟨by rfl, ?_⟩) hHeld ?_; rotate_left; focus (intro w hSw; (try dsimp only at hSw); go_simp; (try with_reducible rfl); done))
          try simp only [Act.put, List.setIfInBounds_toArray, List.set_cons_zero, List.set_cons_succ]
          (refine takeW (i := 9) (dst := some 28) (v := ?_) rfl rfl (by kernel_rfl) (by kernel_rfl) (by kernel_rfl) (fun _ _ _ h => h) (Or.inl ⟨by rfl, ?_⟩) hHeld ?_; rotate_left; focus (intro w hSw; (try dsimp only at hSw); go_simp; (try with_reducible rfl); done))
          try simp only [Act.put, List.setIfInBounds_toArray, List.set_cons_zero, List.set_cons_succ]
          (refine takeW (i := 10) (dst := some 29) (v := ?_) rfl rfl (by kernel_rfl) (by kernel_rfl) (by kernel_rfl) (fun _ _ _ h => h) (Or.inl ⟨by rfl, ?_⟩) hHeld ?_; rotate_left; focus (intro w hSw; (try dsimp only at hSw); go_simp; (try with_reducible rfl); done))
          try simp only [Act.put, List.setIfInBounds_toArray, List.set_cons_zero, List.set_cons_succ]
          (refine takeW (i := 11) (dst := some 30) (v := ?_) rfl rfl (by kernel_rfl) (by kernel_rfl) (by kernel_rfl) (fun _ _ _ h => h) (Or.inl ⟨by rfl, ?_⟩) hHeld ?_; rotate_left; focus (intro w hSw; (try dsimp only at hSw); go_simp; (try with_reducible rfl); done))
          try simp only [Act.put, List.setIfInBounds_toArray, List.set_cons_zero, List.set_cons_succ]
          (refine takeW (i := 12) (dst := some 31) (v := ?_) rfl rfl (by kernel_rfl) (by kernel_rfl) (by kernel_rfl) (fun _ _ _ h => h) (Or.inl ⟨by rfl, ?_⟩) hHeld ?_; rotate_left; focus (intro w hSw; (try dsimp only at hSw); go_simp; (try with_reducible rfl); done))
          try simp only [Act.put, List.setIfInBounds_toArray, List.set_cons_zero, List.set_cons_succ]
          (refine takeW (i := 13) (dst := some 32) (v := ?_) rfl rfl (by kernel_rfl) (by kernel_rfl) (by kernel_rfl) (fun _ _ _ h => h) (Or.inl ⟨by rfl, ?_⟩) hHeld ?_; rotate_left; focus (intro w hSw; (try dsimp only at hSw); go_simp; (try with_reducible rfl); done))
          try simp only [Act.put, List.setIfInBounds_toArray, List.set_cons_zero, List.set_cons_succ]
          (refine takeW (i := 14) (dst := some 33) (v := ?_) rfl rfl (by kernel_rfl) (by kernel_rfl) (by kernel_rfl) (fun _ _ _ h => h) (Or.inl ⟨by rfl, ?_⟩) hHeld ?_; rotate_left; focus (intro w hSw; (try dsimp only at hSw); go_simp; (try with_reducible rfl); done))
          try simp only [Act.put, List.setIfInBounds_toArray, List.set_cons_zero, List.set_cons_succ]
          (refine takeW (i := 15) (dst := some 34) (v := ?_) rfl rfl (by kernel_rfl) (by kernel_rfl) (by kernel_rfl) (fun _ _ _ h => h) (Or.inl ⟨by rfl, ?_⟩) hHeld ?_; rotate_left; focus (intro w hSw; (try dsimp only at hSw); go_simp; (try with_reducible rfl); done))
          try simp only [Act.put, List.setIfInBounds_toArray, List.set_cons_zero, List.set_cons_succ]
          refine wpAnyH_ready (rs := [1, 2]) (by kernel_rfl) (by simp) ?_
          refine AllReadyH.cons (o := _) rfl (fun KK hK => ?_) (AllReadyH.cons (o := _) rfl (fun KK hK => ?_) AllReadyH.nil)
          next =>
           have k1 : wr.cell? ⟨b0 + 1 + 1, 1, none⟩ = some u4 := HV.out wr.drew (Below.refl _ _)
           go_simp
           refine hK.out _ _ (HSB.out _ (HBZ2.out _ (Below.refl _ _))) (fun hHeld => ?_)
           clear k1
           clear hK KK
           try simp only [Act.put]
           try simp only [List.setIfInBounds_toArray]
           try simp only [List.set_cons_succ]
           try simp only [List.set_cons_zero]
           refine wpAnyH_ready (rs := [2]) (by kernel_rfl) (by simp) ?_
           refine AllReadyH.cons (o := _) rfl (fun KK hK => ?_) AllReadyH.nil
           go_simp
           refine hK.out _ _ (HSB.out _ (HBZ2.out _ HBA.out)) (fun hHeld => ?_)
           clear hK KK
           try simp only [Act.put]
           try simp only [List.setIfInBounds_toArray]
           try simp only [List.set_cons_succ]
           try simp only [List.set_cons_zero]
           refine wpAnyH_ready (rs := [16]) (by kernel_rfl) (by simp) ?_
           refine AllReadyH.cons (o := _) rfl (fun KK hK => ?_) AllReadyH.nil
           rw [if_pos (by rfl)]
           refine wp_append_any _ (.tmp 21) (.tmp 34) 28 rfl wr.heap.size 3 i0 _ 1 8 Try.underlying28 hi0 hz0 hz1 hz2 rfl (by decide) (.slice (some ⟨wr.heap.size, 0, none⟩) 0 0) 0 [] (by simp [Act.eval]) HOW.out (some ad) Kr ck (L.map (Value.int .i64)) (by simp [Act.eval]) HNIL.out HLN.out HNW.out HON.out H63.out (by omega) HBS.out ?_
           intro v4 w4 hown4 hgrow4 _
           obtain ⟨ar, cr, hv4, hI4, hb4⟩ := HPUT.out v4 w4 (by simpa using hown4) hgrow4
           subst hv4
           have HI4 := hid hI4
           have HB4 := hid hb4
           have HOW2 := hid (HO2.out w4 ar cr hb4)
           have HNW2 : Hid (∀ p, some (⟨w4.heap.size, 0, none⟩ : Addr) = some p → ∀ j u, [Value.slice ar Kr cr][j]? = some u → (w4.alloc (.cells #[.slice ar Kr cr] 28)).cell? (p.add j) = some u) := news_one _
           have HON2 : Hid (∀ v ∈ [Value.slice ar Kr cr], v.oneCell' = true) := fun v hv => by simp at hv; rw [hv]; rfl
           have HFIN := hid (HF.out w4 ar cr hb4 hI4)
           have HBS2 : Hid (b0 + 3 ≤ (w4.alloc (.cells #[.slice ar Kr cr] 28)).heap.size) := HBZ.out w4 ar cr hb4
           clear hown4 hgrow4 hI4 hb4
           refine hK.out _ _ (HSB.out w4 (HBZ2.out _ HB4.out)) (fun hHeld => ?_)
           clear hK KK
           try simp only [Act.put]
           try simp only [List.setIfInBounds_toArray]
           try simp only [List.set_cons_succ]
           try simp only [List.set_cons_zero]
           refine wpAnyH_ready (rs := [17]) (by kernel_rfl) (by simp) ?_
           refine AllReadyH.cons (o := _) rfl (fun KK hK => ?_) AllReadyH.nil
           go_simp
           refine hK.out _ _ (HSB.out _ (HBZ2.out _ (HALW.out w4 ar cr HB4.out))) (fun hHeld => ?_)
           clear hK KK
           try simp only [Act.put]
           try simp only [List.setIfInBounds_toArray]
           try simp only [List.set_cons_succ]
           try simp only [List.set_cons_zero]
           refine wpAnyH_ready (rs := [18]) (by kernel_rfl) (by simp) ?_
           refine AllReadyH.cons (o := _) rfl (fun KK hK => ?_) AllReadyH.nil
           rw [if_pos (by rfl)]
           refine wp_append_any _ (.tmp 20) (.tmp 36) 29 rfl (b0 + 3) 28 i1 _ 1 24 Try.underlying29 hj hy0 hy1 hy2 rfl (by decide) u4 t us (by simp [Act.eval]) HOW2.out (some ⟨w4.heap.size, 0, none⟩) 1 1 [.slice ar Kr cr] (by simp [Act.eval]) (fun h => by cases h) rfl HNW2.out HON2.out H632.out (by omega) HBS2.out ?_
           intro v6 w6 hown6 hgrow6 hat6
           obtain ⟨va6, vc6, rfl, _⟩ := sl_own hown6
           obtain ⟨⟨k1, k2⟩, hb6, us6, hst6⟩ := HFIN.out _ w6 hown6 hgrow6 (hat6.imp id (fun h => by rw [h]))
           have k3 : w6.cell? ⟨b0 + 1 + 1, 1, none⟩ = some u4 := k1
           have k4 : w6.frozen? ⟨b0 + 1 + 1, 1, none⟩ = false := k2
           have HB6 := hid hb6
           have HS6 := hid hst6
           have HBN : Hid (Below (b0 + 2) W (w6.setCell ⟨b0 + 2, 1, none⟩ (.slice va6 (t + 1) vc6))) := hst6.kp
           clear hown6 hgrow6 hat6 hb6 hst6
           refine hK.out _ _ (HSB.out w6 HB6.out) (fun hHeld => ?_)
           clear hK KK
           try simp only [Act.put]
           try simp only [List.setIfInBounds_toArray]
           try simp only [List.set_cons_succ]
           try simp only [List.set_cons_zero]
           (refine takeW (i := 19) (dst := some 38) (v := ?_) rfl rfl (by kernel_rfl) (by kernel_rfl) (by kernel_rfl) (fun _ _ _ h => h) (Or.inl ⟨by rfl, ?_⟩) hHeld ?_; rotate_left; focus (intro w hSw; (try dsimp only at hSw); go_simp; (try with_reducible rfl); done))
           try simp only [Act.put]
           try simp only [List.setIfInBounds_toArray]
           try simp only [List.set_cons_succ]
           try simp only [List.set_cons_zero]
           refine wpAnyH_ready (rs := [20]) (by kernel_rfl) (by simp) ?_
           refine AllReadyH.cons (o := _) rfl (fun KK hK => ?_) AllReadyH.nil
           go_simp
           refine hK.out _ _ (HSB.out _ HBN.out) (fun hHeld => ?_)
           clear hK KK
           try simp only [Act.put]
           try simp only [List.setIfInBounds_toArray]
           try simp only [List.set_cons_succ]
           try simp only [List.set_cons_zero]
           refine wpAnyH_done (by kernel_rfl) ?_ _
           have HNX : Hid (∃ v us, SmSt W (w6.setCell ⟨b0 + 2, 1, none⟩ (.slice va6 (t + 1) vc6)) b0 kk v us (cutL LL (t + 1))) := ⟨_, _, HS6.out⟩
           clear HS6 hHeld hS HSB HF HO2 HBZ HPUT HIR HFIN HV HBN k1 k2 k3 k4 HALW
           go_wp2
           go_roundg (6 - (t + 1))
           case measure => omega
           case rel => exact ⟨t + 1, by omega, by omega, Nat.le_refl _, by go_num, HNX⟩
          next =>
           go_simp
           refine hK.out _ _ (HSB.out _ (HBZ2.out _ HBA.out)) (fun hHeld => ?_)
           clear hK KK
           try simp only [Act.put]
           try simp only [List.setIfInBounds_toArray]
           try simp only [List.set_cons_succ]
           try simp only [List.set_cons_zero]
           refine wpAnyH_ready (rs := [1, 16]) (by kernel_rfl) (by simp) ?_
           refine AllReadyH.cons (o := _) rfl (fun KK hK => ?_) (AllReadyH.cons (o := _) rfl (fun KK hK => ?_) AllReadyH.nil)
           next =>
            have k1 : (wr.alloc (.cells #[] 3)).cell? ⟨b0 + 1 + 1, 1, none⟩ = some u4 := HV.out (wr.drew.alloc (.cells #[] 3)) HBA.out
            go_simp
            refine hK.out _ _ (HSB.out _ (HBZ2.out _ HBA.out)) (fun hHeld => ?_)
            clear k1
            clear hK KK
            try simp only [Act.put]
            try simp only [List.setIfInBounds_toArray]
            try simp only [List.set_cons_succ]
            try simp only [List.set_cons_zero]
            refine wpAnyH_ready (rs := [16]) (by kernel_rfl) (by simp) ?_
            refine AllReadyH.cons (o := _) rfl (fun KK hK => ?_) AllReadyH.nil
            rw [if_pos (by rfl)]
            refine wp_append_any _ (.tmp 21) (.tmp 34) 28 rfl wr.heap.size 3 i0 _ 1 8 Try.underlying28 hi0 hz0 hz1 hz2 rfl (by decide) (.slice (some ⟨wr.heap.size, 0, none⟩) 0 0) 0 [] (by simp [Act.eval]) HOW.out (some ad) Kr ck (L.map (Value.int .i64)) (by simp [Act.eval]) HNIL.out HLN.out HNW.out HON.out H63.out (by omega) HBS.out ?_
            intro v4 w4 hown4 hgrow4 _
            obtain ⟨ar, cr, hv4, hI4, hb4⟩ := HPUT.out v4 w4 (by simpa using hown4) hgrow4
            subst hv4
            have HI4 := hid hI4
            have HB4 := hid hb4
            have HOW2 := hid (HO2.out w4 ar cr hb4)
            have HNW2 : Hid (∀ p, some (⟨w4.heap.size, 0, none⟩ : Addr) = some p → ∀ j u, [Value.slice ar Kr cr][j]? = some u → (w4.alloc (.cells #[.slice ar Kr cr] 28)).cell? (p.add j) = some u) := news_one _
            have HON2 : Hid (∀ v ∈ [Value.slice ar Kr cr], v.oneCell' = true) := fun v hv => by simp at hv; rw [hv]; rfl
            have HFIN := hid (HF.out w4 ar cr hb4 hI4)
            have HBS2 : Hid (b0 + 3 ≤ (w4.alloc (.cells #[.slice ar Kr cr] 28)).heap.size) := HBZ.out w4 ar cr hb4
            clear hown4 hgrow4 hI4 hb4
            refine hK.out _ _ (HSB.out w4 (HBZ2.out _ HB4.out)) (fun hHeld => ?_)
            clear hK KK
            try simp only [Act.put]
            try simp only [List.setIfInBounds_toArray]
            try simp only [List.set_cons_succ]
            try simp only [List.set_cons_zero]
            refine wpAnyH_ready (rs := [17]) (by kernel_rfl) (by simp) ?_
            refine AllReadyH.cons (o := _) rfl (fun KK hK => ?_) AllReadyH.nil
            go_simp
            refine hK.out _ _ (HSB.out _ (HBZ2.out _ (HALW.out w4 ar cr HB4.out))) (fun hHeld => ?_)
            clear hK KK
            try simp only [Act.put]
            try simp only [List.setIfInBounds_toArray]
            try simp only [List.set_cons_succ]
            try simp only [List.set_cons_zero]
            refine wpAnyH_ready (rs := [18]) (by kernel_rfl) (by simp) ?_
            refine AllReadyH.cons (o := _) rfl (fun KK hK => ?_) AllReadyH.nil
            rw [if_pos (by rfl)]
            refine wp_append_any _ (.tmp 20) (.tmp 36) 29 rfl (b0 + 3) 28 i1 _ 1 24 Try.underlying29 hj hy0 hy1 hy2 rfl (by decide) u4 t us (by simp [Act.eval]) HOW2.out (some ⟨w4.heap.size, 0, none⟩) 1 1 [.slice ar Kr cr] (by simp [Act.eval]) (fun h => by cases h) rfl HNW2.out HON2.out H632.out (by omega) HBS2.out ?_
            intro v6 w6 hown6 hgrow6 hat6
            obtain ⟨va6, vc6, rfl, _⟩ := sl_own hown6
            obtain ⟨⟨k1, k2⟩, hb6, us6, hst6⟩ := HFIN.out _ w6 hown6 hgrow6 (hat6.imp id (fun h => by rw [h]))
            have k3 : w6.cell? ⟨b0 + 1 + 1, 1, none⟩ = some u4 := k1
            have k4 : w6.frozen? ⟨b0 + 1 + 1, 1, none⟩ = false := k2
            have HB6 := hid hb6
            have HS6 := hid hst6
            have HBN : Hid (Below (b0 + 2) W (w6.setCell ⟨b0 + 2, 1, none⟩ (.slice va6 (t + 1) vc6))) := hst6.kp
            clear hown6 hgrow6 hat6 hb6 hst6
            refine hK.out _ _ (HSB.out w6 HB6.out) (fun hHeld => ?_)
            clear hK KK
            try simp only [Act.put]
            try simp only [List.setIfInBounds_toArray]
            try simp only [List.set_cons_succ]
            try simp only [List.set_cons_zero]
            (refine takeW (i := 19) (dst := some 38) (v := ?_) rfl rfl (by kernel_rfl) (by kernel_rfl) (by kernel_rfl) (fun _ _ _ h => h) (Or.inl ⟨by rfl, ?_⟩) hHeld ?_; rotate_left; focus (intro w hSw; (try dsimp only at hSw); go_simp; (try with_reducible rfl); done))
            try simp only [Act.put]
            try simp only [List.setIfInBounds_toArray]
            try simp only [List.set_cons_succ]
            try simp only [List.set_cons_zero]
            refine wpAnyH_ready (rs := [20]) (by kernel_rfl) (by simp) ?_
            refine AllReadyH.cons (o := _) rfl (fun KK hK => ?_) AllReadyH.nil
            go_simp
            refine hK.out _ _ (HSB.out _ HBN.out) (fun hHeld => ?_)
            clear hK KK
            try simp only [Act.put]
            try simp only [List.setIfInBounds_toArray]
            try simp only [List.set_cons_succ]
            try simp only [List.set_cons_zero]
            refine wpAnyH_done (by kernel_rfl) ?_ _
            have HNX : Hid (∃ v us, SmSt W (w6.setCell ⟨b0 + 2, 1, none⟩ (.slice va6 (t + 1) vc6)) b0 kk v us (cutL LL (t + 1))) := ⟨_, _, HS6.out⟩
            clear HS6 hHeld hS HSB HF HO2 HBZ HPUT HIR HFIN HV HBN k1 k2 k3 k4 HALW
            go_wp2
            go_roundg (6 - (t + 1))
            case measure => omega
            case rel => exact ⟨t + 1, by omega, by omega, Nat.le_refl _, by go_num, HNX⟩
           next =>
            rw [if_pos (by rfl)]
            refine wp_append_any _ (.tmp 21) (.tmp 34) 28 rfl wr.heap.size 3 i0 _ 1 8 Try.underlying28 hi0 hz0 hz1 hz2 rfl (by decide) (.slice (some ⟨wr.heap.size, 0, none⟩) 0 0) 0 [] (by simp [Act.eval]) HOW.out (some ad) Kr ck (L.map (Value.int .i64)) (by simp [Act.eval]) HNIL.out HLN.out HNW.out HON.out H63.out (by omega) HBS.out ?_
            intro v4 w4 hown4 hgrow4 _
            obtain ⟨ar, cr, hv4, hI4, hb4⟩ := HPUT.out v4 w4 (by simpa using hown4) hgrow4
            subst hv4
            have HI4 := hid hI4
            have HB4 := hid hb4
            have HOW2 := hid (HO2.out w4 ar cr hb4)
            have HNW2 : Hid (∀ p, some (⟨w4.heap.size, 0, none⟩ : Addr) = some p → ∀ j u, [Value.slice ar Kr cr][j]? = some u → (w4.alloc (.cells #[.slice ar Kr cr] 28)).cell? (p.add j) = some u) := news_one _
            have HON2 : Hid (∀ v ∈ [Value.slice ar Kr cr], v.oneCell' = true) := fun v hv => by simp at hv; rw [hv]; rfl
            have HFIN := hid (HF.out w4 ar cr hb4 hI4)
            have HBS2 : Hid (b0 + 3 ≤ (w4.alloc (.cells #[.slice ar Kr cr] 28)).heap.size) := HBZ.out w4 ar cr hb4
            clear hown4 hgrow4 hI4 hb4
            refine hK.out _ _ (HSB.out w4 (HBZ2.out _ HB4.out)) (fun hHeld => ?_)
            clear hK KK
            try simp only [Act.put]
            try simp only [List.setIfInBounds_toArray]
            try simp only [List.set_cons_succ]
            try simp only [List.set_cons_zero]
            refine wpAnyH_ready (rs := [1, 17]) (by kernel_rfl) (by simp) ?_
            refine AllReadyH.cons (o := _) rfl (fun KK hK => ?_) (AllReadyH.cons (o := _) rfl (fun KK hK => ?_) AllReadyH.nil)
            next =>
             have k1 : w4.cell? ⟨b0 + 1 + 1, 1, none⟩ = some u4 := HV.out w4 HB4.out
             go_simp
             refine hK.out _ _ (HSB.out _ (HBZ2.out _ HB4.out)) (fun hHeld => ?_)
             clear k1
             clear hK KK
             try simp only [Act.put]
             try simp only [List.setIfInBounds_toArray]
             try simp only [List.set_cons_succ]
             try simp only [List.set_cons_zero]
             refine wpAnyH_ready (rs := [17]) (by kernel_rfl) (by simp) ?_
             refine AllReadyH.cons (o := _) rfl (fun KK hK => ?_) AllReadyH.nil
             go_simp
             refine hK.out _ _ (HSB.out _ (HBZ2.out _ (HALW.out w4 ar cr HB4.out))) (fun hHeld => ?_)
             clear hK KK
             try simp only [Act.put]
             try simp only [List.setIfInBounds_toArray]
             try simp only [List.set_cons_succ]
             try simp only [List.set_cons_zero]
             refine wpAnyH_ready (rs := [18]) (by kernel_rfl) (by simp) ?_
             refine AllReadyH.cons (o := _) rfl (fun KK hK => ?_) AllReadyH.nil
             rw [if_pos (by rfl)]
             refine wp_append_any _ (.tmp 20) (.tmp 36) 29 rfl (b0 + 3) 28 i1 _ 1 24 Try.underlying29 hj hy0 hy1 hy2 rfl (by decide) u4 t us (by simp [Act.eval]) HOW2.out (some ⟨w4.heap.size, 0, none⟩) 1 1 [.slice ar Kr cr] (by simp [Act.eval]) (fun h => by cases h) rfl HNW2.out HON2.out H632.out (by omega) HBS2.out ?_
             intro v6 w6 hown6 hgrow6 hat6
             obtain ⟨va6, vc6, rfl, _⟩ := sl_own hown6
             obtain ⟨⟨k1, k2⟩, hb6, us6, hst6⟩ := HFIN.out _ w6 hown6 hgrow6 (hat6.imp id (fun h => by rw [h]))
             have k3 : w6.cell? ⟨b0 + 1 + 1, 1, none⟩ = some u4 := k1
             have k4 : w6.frozen? ⟨b0 + 1 + 1, 1, none⟩ = false := k2
             have HB6 := hid hb6
             have HS6 := hid hst6
             have HBN : Hid (Below (b0 + 2) W (w6.setCell ⟨b0 + 2, 1, none⟩ (.slice va6 (t + 1) vc6))) := hst6.kp
             clear hown6 hgrow6 hat6 hb6 hst6
             refine hK.out _ _ (HSB.out w6 HB6.out) (fun hHeld => ?_)
             clear hK KK
             try simp only [Act.put]
             try simp only [List.setIfInBounds_toArray]
             try simp only [List.set_cons_succ]
             try simp only [List.set_cons_zero]
             (refine takeW (i := 19) (dst := some 38) (v := ?_) rfl rfl (by kernel_rfl) (by kernel_rfl) (by kernel_rfl) (fun _ _ _ h => h) (Or.inl ⟨by rfl, ?_⟩) hHeld ?_; rotate_left; focus (intro w hSw; (try dsimp only at hSw); go_simp; (try with_reducible rfl); done))
             try simp only [Act.put]
             try simp only [List.setIfInBounds_toArray]
             try simp only [List.set_cons_succ]
             try simp only [List.set_cons_zero]
             refine wpAnyH_ready (rs := [20]) (by kernel_rfl) (by simp) ?_
             refine AllReadyH.cons (o := _) rfl (fun KK hK => ?_) AllReadyH.nil
             go_simp
             refine hK.out _ _ (HSB.out _ HBN.out) (fun hHeld => ?_)
             clear hK KK
             try simp only [Act.put]
             try simp only [List.setIfInBounds_toArray]
             try simp only [List.set_cons_succ]
             try simp only [List.set_cons_zero]
             refine wpAnyH_done (by kernel_rfl) ?_ _
             have HNX : Hid (∃ v us, SmSt W (w6.setCell ⟨b0 + 2, 1, none⟩ (.slice va6 (t + 1) vc6)) b0 kk v us (cutL LL (t + 1))) := ⟨_, _, HS6.out⟩
             clear HS6 hHeld hS HSB HF HO2 HBZ HPUT HIR HFIN HV HBN k1 k2 k3 k4 HALW
             go_wp2
             go_roundg (6 - (t + 1))
             case measure => omega
             case rel => exact ⟨t + 1, by omega, by omega, Nat.le_refl _, by go_num, HNX⟩
            next =>
             go_simp
             refine hK.out _ _ (HSB.out _ (HBZ2.out _ (HALW.out w4 ar cr HB4.out))) (fun hHeld => ?_)
             clear hK KK
             try simp only [Act.put]
             try simp only [List.setIfInBounds_toArray]
             try simp only [List.set_cons_succ]
             try simp only [List.set_cons_zero]
             refine wpAnyH_ready (rs := [1]) (by kernel_rfl) (by simp) ?_
             refine AllReadyH.cons (o := _) rfl (fun KK hK => ?_) AllReadyH.nil
             have k1 : (w4.alloc (.cells #[.slice ar Kr cr] 28)).cell? ⟨b0 + 1 + 1, 1, none⟩ = some u4 := HV.out (w4.alloc (.cells #[.slice ar Kr cr] 28)) (HALW.out w4 ar cr HB4.out)
             have k0 : w4.cell? ⟨b0 + 1 + 1, 1, none⟩ = some u4 := HV.out w4 HB4.out
             go_simp
             refine hK.out _ _ (HSB.out _ (HBZ2.out _ (HALW.out w4 ar cr HB4.out))) (fun hHeld => ?_)
             clear k1 k0
             clear hK KK
             try simp only [Act.put]
             try simp only [List.setIfInBounds_toArray]
             try simp only [List.set_cons_succ]
             try simp only [List.set_cons_zero]
             refine wpAnyH_ready (rs := [18]) (by kernel_rfl) (by simp) ?_
             refine AllReadyH.cons (o := _) rfl (fun KK hK => ?_) AllReadyH.nil
             rw [if_pos (by rfl)]
             refine wp_append_any _ (.tmp 20) (.tmp 36) 29 rfl (b0 + 3) 28 i1 _ 1 24 Try.underlying29 hj hy0 hy1 hy2 rfl (by decide) u4 t us (by simp [Act.eval]) HOW2.out (some ⟨w4.heap.size, 0, none⟩) 1 1 [.slice ar Kr cr] (by simp [Act.eval]) (fun h => by cases h) rfl HNW2.out HON2.out H632.out (by omega) HBS2.out ?_
             intro v6 w6 hown6 hgrow6 hat6
             obtain ⟨va6, vc6, rfl, _⟩ := sl_own hown6
             obtain ⟨⟨k1, k2⟩, hb6, us6, hst6⟩ := HFIN.out _ w6 hown6 hgrow6 (hat6.imp id (fun h => by rw [h]))
             have k3 : w6.cell? ⟨b0 + 1 + 1, 1, none⟩ = some u4 := k1
             have k4 : w6.frozen? ⟨b0 + 1 + 1, 1, none⟩ = false := k2
             have HB6 := hid hb6
             have HS6 := hid hst6
             have HBN : Hid (Below (b0 + 2) W (w6.setCell ⟨b0 + 2, 1, none⟩ (.slice va6 (t + 1) vc6))) := hst6.kp
             clear hown6 hgrow6 hat6 hb6 hst6
             refine hK.out _ _ (HSB.out w6 HB6.out) (fun hHeld => ?_)
             clear hK KK
             try simp only [Act.put]
             try simp only [List.setIfInBounds_toArray]
             try simp only [List.set_cons_succ]
             try simp only [List.set_cons_zero]
             (refine takeW (i := 19) (dst := some 38) (v := ?_) rfl rfl (by kernel_rfl) (by kernel_rfl) (by kernel_rfl) (fun _ _ _ h => h) (Or.inl ⟨by rfl, ?_⟩) hHeld ?_; rotate_left; focus (intro w hSw; (try dsimp only at hSw); go_simp; (try with_reducible rfl); done))
             try simp only [Act.put]
             try simp only [List.setIfInBounds_toArray]
             try simp only [List.set_cons_succ]
             try simp only [List.set_cons_zero]
             refine wpAnyH_ready (rs := [20]) (by kernel_rfl) (by simp) ?_
             refine AllReadyH.cons (o := _) rfl (fun KK hK => ?_) AllReadyH.nil
             go_simp
             refine hK.out _ _ (HSB.out _ HBN.out) (fun hHeld => ?_)
             clear hK KK
             try simp only [Act.put]
             try simp only [List.setIfInBounds_toArray]
             try simp only [List.set_cons_succ]
             try simp only [List.set_cons_zero]
             refine wpAnyH_done (by kernel_rfl) ?_ _
             have HNX : Hid (∃ v us, SmSt W (w6.setCell ⟨b0 + 2, 1, none⟩ (.slice va6 (t + 1) vc6)) b0 kk v us (cutL LL (t + 1))) := ⟨_, _, HS6.out⟩
             clear HS6 hHeld hS HSB HF HO2 HBZ HPUT HIR HFIN HV HBN k1 k2 k3 k4 HALW
             go_wp2
             go_roundg (6 - (t + 1))
             case measure => omega
             case rel => exact ⟨t + 1, by omega, by omega, Nat.le_refl _, by go_num, HNX⟩
      · rw [decide_eq_false hgo]
        have et : cutL LL t = smallR LL := by
          unfold smallR
          rw [← HL.out, show min N 6 = t by omega]
        rw [et] at hSt
        obtain ⟨av, cv, hv, _, _⟩ := hSt.ll.at
        subst hv
        have d0 := hSt.c0
        have d1 := hSt.c1
        obtain ⟨_, _, o1, _⟩ := HBX.out wr hSt.kp
        have z0 := cell_of_heap o1 0
        have z1 := cell_of_heap o1 1
        have zf0 := frozen_of_heap o1 0
        have zf1 := frozen_of_heap o1 1
        obtain ⟨M, hM⟩ := ex_eq (smallR LL).length
        have HM := hid hM
        have HFI : Hid (SmallTold kk (smallR LL) w ((wr.setCell ⟨b0 + 1, 0, none⟩ (.int .i64 kk)).setCell ⟨b0 + 1, 1, none⟩ (.slice av M cv)) (.agg #[.int .i64 kk, .slice av M cv])) := by
          rw [hM]
          have hkk : KeptBut (fun q => q = b0 + 1) wr ((wr.setCell ⟨b0 + 1, 0, none⟩ (.int .i64 kk)).setCell ⟨b0 + 1, 1, none⟩ (.slice av (smallR LL).length cv)) := (kept_set wr ⟨b0 + 1, 0, none⟩ _).trans (kept_set _ ⟨b0 + 1, 1, none⟩ _)
          refine ⟨av, cv, us, rfl, ?_, ?_, ?_⟩
          · rw [← HB0.out]; exact (hSt.ll.kept hkk (fun q hq _ e => by omega)).lower (by omega)
          · rw [← HB0.out]; exact (hSt.rw.kept hkk (fun q hq _ e => by omega)).lower (by omega)
          · rw [← HB0.out]
            exact ((HBX.out wr hSt.kp).2.2.2.setCell (p := ⟨b0 + 1, 0, none⟩) (by simp) _).setCell (p := ⟨b0 + 1, 1, none⟩) (by simp) _
        rw [← hM] at d1
        clear hst hSt hgo et o1 hM hbz x0 x1
        go_wp2
        refine bodyPost_ret (v := .agg #[.int .i64 kk, .slice av M cv]) ?_ rfl ⟨_, rfl, HFI.out⟩
        rw [results_cell1 rfl]
        go_simp
end Go.Proofs.Ytlebimolgienkaa
