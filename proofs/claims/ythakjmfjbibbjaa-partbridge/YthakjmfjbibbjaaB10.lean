/-
  maps.Values over the map of layer 4, collected: which rows come, each once, in whatever order.
  slices.Collect(maps.Values(m)) of layer 4: the rows of the map, each once.
  The sort of layer 4: rows of numbers by their first ones: slices.SortFunc by its contract, its closure and cmp.Compare walked.
  The program's Classes of layer 4.
-/
import Derived.Test.YthakjmfjbibbjaaB09
import Derived.Test.YthakjmfjbibbjaaB03
import Derived.Lib.SlKeysI
import Derived.RangeFuncKeeps
import Derived.Sort.MapsRangeIn
import Derived.Test.YthakjmfjbibbjaaB05
import Derived.Test.YthakjmfjbibbjaaB01
import Derived.Test.YthakjmfjbibbjaaB08
namespace Go.Proofs.Ythakjmfjbibbjaa
open Go.RowKit Go.Lib Go.Shelf Go.Maps Go.MapKept Go.WideShapes
open Go.WideElems (Fit rd rg pl rd_key rd_val rg_of)
attribute [local go_sem] Oper.semAt_some

/-- A slice as a value: where it lies, how long it is, how long it may be. -/
def slv (c : Option Addr × Nat × Nat) : Value := .slice c.1 c.2.1 c.2.2
/-- A reading of a map's slices that keeps the very slice. -/
def heldR : Value → Option (DataW Value × List MemPlace)
  | .slice a n c => some (.held (.slice a n c), [])
  | _ => none
theorem heldR_inv {v : Value} {y : DataW Value × List MemPlace} (h : heldR v = some y) : ∃ c, v = slv c := by
  cases v <;> first | (cases h; done) | exact ⟨(_, _, _), rfl⟩
theorem heldR_slv (c : Option Addr × Nat × Nat) : heldR (slv c) = some (.held (slv c), []) := rfl
theorem heldR_own {w : World} {base : Nat} {e : TypeId} {q : IntKind} {v : Value} {zs : List Int} (h : w.ownsInts base e q v zs) : heldR v = some (.held v, []) := by
  rcases h.1.2 with ⟨rfl, _⟩ | ⟨g, cap, cur, rfl, _⟩ <;> rfl
/-- A map of rows, told with the very slices. -/
structure Held (w : World) (b base n : Nat) (D : DataW Unit) (D' : DataW Value) : Prop where
  owns : w.ownsMap Try.prog 3 heldR b n D'
  has : ∀ x : Int, has D' (.int .i64 x) = has D (.int .i64 x)
  row : ∀ (x : Int) v, D'.atKey (.int .i64 x) .nil = .held v → ∃ zs, w.ownsInts base 3 .i64 v zs ∧ D.atKey (.int .i64 x) .nil = rowDatum .i64 v zs
  apart : ∀ (x y : Int) v u, x ≠ y → D'.atKey (.int .i64 x) .nil = .held v → D'.atKey (.int .i64 y) .nil = .held u → v.ownBlock = none ∨ v.ownBlock ≠ u.ownBlock
theorem groups_held {w : World} {base b n : Nat} {D : DataW Unit} (h : w.ownsGroups Try.prog 3 base 3 .i64 b n D) : ∃ D', Held w b base n D D' := by
  obtain ⟨es, clock, hb, F, hs, rfl, hbb, hlen, hap⟩ := h
  have own : ∀ en ∈ es.toList, ∃ kl zs, keyOf Try.prog 3 en.key = some kl ∧ w.ownsInts base 3 .i64 en.val zs ∧ rg Try.prog 3 (rowElem (H := Unit) w base 3 .i64) en = (kl, rowDatum .i64 en.val zs) ∧ rd Try.prog 3 heldR en = some (kl, .held en.val) := fun en hen => by
    obtain ⟨y, hy⟩ := F.reads en hen
    obtain ⟨z, hz, hzd⟩ := rd_val hy
    obtain ⟨zs, ho, rfl⟩ := rowElem_inv hz
    refine ⟨y.1, zs, rd_key hy, ho, ?_, ?_⟩
    · rw [rg_of hy]
      exact Prod.ext rfl hzd
    · unfold rd
      rw [rd_key hy, heldR_own ho]
      rfl
  have F' : Fit Try.prog 3 heldR es clock := ⟨F.size, F.stamped, fun en hen => by obtain ⟨kl, zs, _, _, _, h4⟩ := own en hen; exact ⟨_, h4⟩⟩
  have hkl : ∀ x : Int, WideAt.IsKeyLit (.int .i64 x) := fun _ => trivial
  have at1 := fun x : Int => atKey_sorted (es.toList.map (rg Try.prog 3 (rowElem (H := Unit) w base 3 .i64))) (Maps.fit_rising keyI F) (.int .i64 x) (hkl x)
  have at2 := fun x : Int => atKey_sorted (es.toList.map (rg Try.prog 3 heldR)) (Maps.fit_rising keyI F') (.int .i64 x) (hkl x)
  have way : ∀ x : Int, (∃ en ∈ es.toList, keyOf Try.prog 3 en.key = some (.int .i64 x)) ∨ ((∀ p ∈ es.toList.map (rg Try.prog 3 (rowElem (H := Unit) w base 3 .i64)), p.1 ≠ .int .i64 x) ∧ ∀ p ∈ es.toList.map (rg Try.prog 3 heldR), p.1 ≠ .int .i64 x) := fun x => by
    by_cases hex : ∃ en ∈ es.toList, keyOf Try.prog 3 en.key = some (.int .i64 x)
    · exact Or.inl hex
    · refine Or.inr ⟨fun p hp e => ?_, fun p hp e => ?_⟩
      · obtain ⟨en, hen, rfl⟩ := List.mem_map.1 hp
        obtain ⟨kl, zs, h1, _, h3, _⟩ := own en hen
        rw [h3] at e
        exact hex ⟨en, hen, by rw [h1, ← e]⟩
      · obtain ⟨en, hen, rfl⟩ := List.mem_map.1 hp
        obtain ⟨kl, zs, h1, _, _, h4⟩ := own en hen
        rw [rg_of h4] at e
        exact hex ⟨en, hen, by rw [h1, ← e]⟩
  have yes : ∀ (x : Int) en, en ∈ es.toList → keyOf Try.prog 3 en.key = some (.int .i64 x) → (∃ zs, w.ownsInts base 3 .i64 en.val zs ∧ ∀ z, (DataW.map ((es.toList.map (rg Try.prog 3 (rowElem (H := Unit) w base 3 .i64))).foldr DataW.insert [])).atKey (.int .i64 x) z = rowDatum .i64 en.val zs) ∧ ∀ z, (DataW.map ((es.toList.map (rg Try.prog 3 heldR)).foldr DataW.insert [])).atKey (.int .i64 x) z = .held en.val := fun x en hen hk => by
    obtain ⟨kl, zs, h1, h2, h3, h4⟩ := own en hen
    obtain rfl : kl = .int .i64 x := Option.some.inj (h1.symm.trans hk)
    refine ⟨⟨zs, h2, fun z => ?_⟩, fun z => ?_⟩
    · exact ((at1 x).2 _ (List.mem_map.2 ⟨en, hen, rfl⟩) (by rw [h3]) z).trans (by rw [h3])
    · exact ((at2 x).2 _ (List.mem_map.2 ⟨en, hen, rfl⟩) (by rw [rg_of h4]) z).trans (by rw [rg_of h4])
  have find : ∀ (x : Int) v, (DataW.map ((es.toList.map (rg Try.prog 3 heldR)).foldr DataW.insert [])).atKey (.int .i64 x) .nil = .held v → ∃ en ∈ es.toList, keyOf Try.prog 3 en.key = some (.int .i64 x) ∧ en.val = v := fun x v hv => by
    rcases way x with ⟨en, hen, hk⟩ | ⟨_, h2⟩
    · have := (yes x en hen hk).2 .nil
      rw [hv] at this
      exact ⟨en, hen, hk, by simpa using this.symm⟩
    · rw [(at2 x).1 h2 .nil] at hv
      cases hv
  refine ⟨_, ⟨es, clock, hb, F', hs, rfl⟩, fun x => ?_, fun x v hv => ?_, fun x y v u hne hv hu => ?_⟩
  · rcases way x with ⟨en, hen, hk⟩ | ⟨h1, h2⟩
    · obtain ⟨⟨zs, _, h3⟩, h4⟩ := yes x en hen hk
      rw [has_true_of_atKey h3, has_true_of_atKey h4]
    · rw [has_false_of_atKey ((at1 x).1 h1), has_false_of_atKey ((at2 x).1 h2)]
  · obtain ⟨en, hen, hk, rfl⟩ := find x v hv
    obtain ⟨⟨zs, ho, h3⟩, _⟩ := yes x en hen hk
    exact ⟨zs, ho, h3 .nil⟩
  · obtain ⟨en, hen, hk, rfl⟩ := find x v hv
    obtain ⟨en2, hen2, hk2, rfl⟩ := find y u hu
    exact hap en hen en2 hen2 (fun e => by rw [e, hk2] at hk; simp at hk; exact hne hk.symm)

/-- What has come: no key twice, each slice the one at its key. -/
def Came1 (D' : DataW Value) (xs : List (Int × (Option Addr × Nat × Nat))) : Prop := (xs.map Prod.fst).Nodup ∧ (∀ x, x ∈ xs.map Prod.fst ↔ has D' (.int .i64 x) = true) ∧ ∀ x ∈ xs, D'.atKey (.int .i64 x.1) .nil = .held (slv x.2)

set_option maxRecDepth 100000 in
set_option maxHeartbeats 1000000 in
theorem vals1_in (m : Nat) (hm : 1 ≤ m) (l Bm b nn : Nat) (D' : DataW Value) (J Jx : List (Int × (Option Addr × Nat × Nat)) → World → Prop)
    (hY : ∀ pre x W, J pre W → pre.length < Maps.size D' → YieldAt Fence.wide (m - 1) Try.prog l #[slv x.2] W fun e W' =>
      (e = .returned (.bool true) ∧ J (pre ++ [x]) W' ∧ KeepsWalks W W') ∨ (e = .returned (.bool false) ∧ Jx (pre ++ [x]) W'))
    (W : World) (hJ : AbidesFrom W.heap.size J) (hm0 : W.cell? ⟨Bm, 0, none⟩ = some (.map (some b))) (hown : W.ownsMap Try.prog 3 heldR b nn D') (h0 : J [] W) :
    CallsIn Fence.wide m Try.prog 52 #[.func (.yield l) #[] #[], .pointer (some ⟨Bm, 0, none⟩)] W fun e W' => (∃ v, e = .returned v) ∧ ((∃ xs, Came1 D' xs ∧ J xs W') ∨ (∃ pre, True ∧ Jx pre W')) := by
  refine callsIn_of_wp Try.func52 rfl trivial ?_ rfl
  simp only [Try.ntmps52, List.size_toArray, List.length_cons, List.length_nil, Nat.reduceAdd, Nat.reduceSub, Array.replicate_succ, Array.replicate_zero, List.push_toArray, List.append_toArray, List.nil_append, List.cons_append]
  gi_wp2_with (first
    | (gi_at_range; refine wpListIn_range_own _ rfl _ 65 rfl 3 42 keyI Try.underlying65 _ b nn _ rfl hown ?_; intro w0 hrg0 hg0 hs0)
    | gi_in)
  go_frame
  gi_loopw [4] (fun _ wr => ∃ (left : Lit → Bool) (cnt : Nat) (xs : List (Int × (Option Addr × Nat × Nat))), wr.ranges Try.prog 3 heldR b W.heap.size nn D' left cnt ∧ xs.length + cnt ≤ Maps.size D' ∧ CollectedI D' left (xs.map Prod.fst) ∧ (∀ x ∈ xs, D'.atKey (.int .i64 x.1) .nil = .held (slv x.2)) ∧ J xs wr)
    (fun _ wr => wr.rangeLeft b W.heap.size)
  case atStart =>
    exact ⟨_, _, [], hrg0, by simp, CollectedI.start D', by simp, hJ [] W w0 none h0 hg0 (fun r e => by cases e)⟩
  case round =>
    obtain ⟨left, cnt, xs, hrg, hcs, hC, hV, hJs⟩ := hrel
    gi_wp2_with (first
      | (gi_at_next; refine wpListIn_next_ranges _ rfl _ rfl 3 keyI heldR encZ slv (fun key kl hk => by obtain ⟨x, hx, _⟩ := Maps.keyOf_i64 Try.underlying3 hk; exact ⟨x, hx⟩) (fun v _ hv => heldR_inv hv) b W.heap.size nn _ _ _ rfl hrg ?_ ?_)
      | gi_in)
    · intro hc0 hl0
      gi_wp2
      go_end0
      exact ⟨⟨_, rfl⟩, .inl ⟨xs, ⟨hC.1, fun x => by rw [hC.2 x, hl0]; simp, hV⟩, hJs⟩⟩
    · intro x ca cn cc kl yd yp w2 cnt2 hkey hlk hv hat hrg2 hlt hg2 hs2 hen
      obtain ⟨x', ex, rfl, _⟩ := Maps.keyOf_i64 Try.underlying3 hkey
      obtain rfl : x = x' := encZ_inj ex
      have hJ2 : J xs w2 := hJ xs wr w2 (some W.heap.size) hJs hg2 (fun r e => by cases e; exact ⟨Nat.le_refl _, hrg.iter_walk⟩)
      obtain ⟨fn, tmps, assign, body, hy, hR⟩ := hY xs (x, (ca, cn, cc)) w2 hJ2 (by omega)
      have hVc : D'.atKey (.int .i64 x) .nil = .held (slv (ca, cn, cc)) := by
        rw [heldR_slv] at hv
        simp only [Option.some.injEq, Prod.mk.injEq] at hv
        rw [hat .nil, ← hv.1]
      have HV2 : Hid (∀ z ∈ xs ++ [(x, (ca, cn, cc))], D'.atKey (.int .i64 z.1) .nil = .held (slv z.2)) := fun z hz => by
        rcases List.mem_append.1 hz with hz | hz
        · exact hV z hz
        · simp at hz; subst hz; exact hVc
      clear hs2 hVc hV
      gi_wp2
      refine hR.mono ?_
      have hC2 := hC.step hlk hat
      rintro e W3 (⟨rfl, hJ3, hk3⟩ | ⟨rfl, hJx3⟩)
      · gi_wp2
        have hrg3 := hrg2.of_walks hk3
        go_roundw
        case rel => exact ⟨_, cnt2, xs ++ [(x, (ca, cn, cc))], hrg3, by simp; omega, by rw [List.map_append]; exact hC2, HV2.out, hJ3⟩
        case measure => rw [hrg3.left_eq, hrg.left_eq]; exact hlt
      · gi_wp2
        refine bodyPost_ret (results_none rfl _ _ _) rfl ?_
        exact ⟨⟨_, rfl⟩, .inr ⟨_, trivial, hJx3⟩⟩
end Go.Proofs.Ythakjmfjbibbjaa
namespace Go.Proofs.Ythakjmfjbibbjaa
open Go.RowKit Go.Lib Go.Shelf Go.Maps
attribute [local go_sem] Oper.semAt_some

theorem ownsMap_below {w W : World} {b n : Nat} {D' : DataW Value} (h : w.ownsMap Try.prog 3 heldR b n D') (hW : Below w.heap.size w W) : W.ownsMap Try.prog 3 heldR b n D' := by
  have hbl := h.lt
  obtain ⟨es, clock, hb, Ft, hs, hD⟩ := h
  exact ⟨es, clock, (hW.block b hbl).trans hb, Ft, hs, hD⟩
/-- The closure of maps.Values as an iterator. -/
theorem vals_stops (m : Nat) (hm : 1 ≤ m) (Bm b nn : Nat) (D' : DataW Value) (w : World) (hBm : Bm < w.heap.size) (hm0 : w.cell? ⟨Bm, 0, none⟩ = some (.map (some b))) (hown : w.ownsMap Try.prog 3 heldR b nn D') :
    SeqStopsK Fence.wide m Try.prog 52 #[.pointer (some ⟨Bm, 0, none⟩)] (fun x : Int × (Option Addr × Nat × Nat) => #[slv x.2]) KeepsWalks (Came1 D') (fun _ => True) (Maps.size D') w := fun l J Jx W hW hJ _ hY h0 =>
  vals1_in m hm l Bm b nn D' J Jx hY W hJ ((hW.cell (p := ⟨Bm, 0, none⟩) hBm).trans hm0) (ownsMap_below hown hW) h0
/-- What is collected: a row of slices of its own. -/
def CollIs (D' : DataW Value) (w w' : World) (v : Value) : Prop := ∃ xs, Came1 D' xs ∧ w'.ownsRow w.heap.size 42 1 v xs.length (xs.map (fun x => slv x.2)) ∧ Below w.heap.size w w'

set_option maxRecDepth 100000 in
set_option maxHeartbeats 2000000 in
theorem appendSeq_vals (Bm b nn : Nat) (D' : DataW Value) (w : World) (hsz : Maps.size D' ≤ 1000) (hBm : Bm < w.heap.size) (hm0 : w.cell? ⟨Bm, 0, none⟩ = some (.map (some b))) (hown : w.ownsMap Try.prog 3 heldR b nn D') :
    Calls Try.prog 51 #[.slice none 0 0, .func (.func 52) #[] #[.pointer (some ⟨Bm, 0, none⟩)]] w fun e w' => ∃ v, e = .returned v ∧ CollIs D' w w' v := by
  obtain ⟨i0, hi, hz0, hz1, hz2⟩ := info_parts Try.info42
  refine (callsIn_wide (n := 6)).1 ?_
  refine callsIn_of_wp_marks Try.func51 rfl trivial ?_ rfl
  simp only [Try.ntmps51, List.size_toArray, List.length_cons, List.length_nil, Nat.reduceAdd, Nat.reduceSub, Array.replicate_succ, Array.replicate_zero, List.push_toArray, List.append_toArray, List.nil_append, List.cons_append]
  gi_wp2_with fail
  have bO := Boxed.new w 33 (.slice none 0 0)
  have hB0 : Below w.heap.size w (w.alloc (.cells #[.slice none 0 0] 33)) := (Below.refl _ w).alloc (Nat.le_refl _) _
  refine wpIn_rangeFunc_ownG rfl (by omega) (gf := 52) (lb := #[.pointer (some ⟨Bm, 0, none⟩)]) rfl trivial (enters_of Try.func52 (by kernel_rfl) rfl)
    (vals_stops 5 (by omega) Bm b nn D' _ (by simp; omega) ((hB0.cell (p := ⟨Bm, 0, none⟩) hBm).trans hm0) (ownsMap_below hown hB0)) walksK_t (fun W l o o' h1 h2 h3 h4 => walksK_b (w := w.alloc (.cells #[.slice none 0 0] 33)) W l o o' h1 h2 h3 h4) (Below.refl _ _) (fun _ => rfl)
    (fun pre W => (∃ v, Boxed W w.heap.size 33 v ∧ W.ownsRow w.heap.size 42 1 v pre.length (pre.map (fun x => slv x.2)) ∧ True) ∧ Below w.heap.size w W)
    (fun _ _ _ => False)
    (OwnFrom.and (Own.from (holdsRow_own w.heap.size w.heap.size 33 42 1 (fun pre : List (Int × (Option Addr × Nat × Nat)) => pre.length) (fun pre => pre.map (fun x => slv x.2)) (fun _ _ => True)) _) (ownFrom_below (Nat.le_refl _) (by simp)))
    (fun _ _ _ _ _ hs _ _ => hs)
    ⟨⟨_, bO, World.ownsRow_nil _ _ _ _, trivial⟩, hB0⟩
    (fun z => { tmps := #[.slice none 0 0, .func (.func 52) #[] #[.pointer (some ⟨Bm, 0, none⟩)], .pointer (some ⟨w.heap.size, 0, none⟩), undef, .slice none 0 0, slv z.2, .func (.func 52) #[] #[.pointer (some ⟨Bm, 0, none⟩)], slv z.2, undef, undef, undef, undef, undef], defers := [] }) ?assign ?body ?done ?stop
  case assign =>
    intro l z W K hK
    gi_wp2
    exact hK
  case body =>
    rintro l pre ⟨z, ca, cn, cc⟩ W ⟨⟨v, hv, hrow, _⟩, hB⟩ hlt
    have hc := hv.cell
    have h1c : ∀ x ∈ [Value.slice ca cn cc], x.oneCell' = true := fun v hv => by simp at hv; rw [hv]; rfl
    have hlt' : pre.length < 1000 := by omega
    simp only [slv]
    gi_wp2_with (gi_at_builtin; refine wpListIn_append_own _ rfl _ _ 33 rfl w.heap.size 42 i0 (.slice none 0 0) 1 24 Try.underlying33 hi hz0 hz1 hz2 rfl (by decide) _ _ _ rfl (hrow.alloc _) ⟨W.heap.size, 0, none⟩ 1 1 [.slice ca cn cc] rfl rfl (cell_one_new _ _ _) h1c (by unfold maxLen; omega) (by omega) (by have := hB.size; simp; omega) ?_; intro v' w1 hown' hgrow _; obtain ⟨g', cap', rfl⟩ := ownsRow_succ hown'; obtain ⟨hv1, hv2, hr2, hk2, hb2⟩ := hv.appended (by decide) hrow hB.size (Nat.le_refl _) hown' hgrow; have hc1 := hv1.cell; have hf1 := hv1.frozen)
    exact ⟨hk2.from _, hk2.walks, ⟨_, hv2, by simpa [slv] using hr2, trivial⟩, hB.trans hb2⟩
  case done =>
    rintro D ys W hD hys ⟨⟨v, hv, hrow, _⟩, hB⟩ hK
    have hc := hv.cell
    have HC := hid hys
    clear hys
    gi_wp2
    refine ⟨by simp, .inl ⟨_, _, rfl, run_takeDeferred hK, ?_⟩⟩
    exact ⟨_, results_tmp rfl _ _ _, v, rfl, ys, HC.out, ownsRow_putObj hrow _ hK rfl, hB.trans (belowK_b (w := w) (Nat.le_refl _) W D _ _ (by simp at hD; omega) hK rfl rfl)⟩
  case stop =>
    rintro D c pre W _ _ h _
    exact h.elim

set_option maxHeartbeats 1000000 in
set_option maxRecDepth 100000 in
theorem collect_vals (Bm b nn : Nat) (D' : DataW Value) (w : World) (hsz : Maps.size D' ≤ 1000) (hBm : Bm < w.heap.size) (hm0 : w.cell? ⟨Bm, 0, none⟩ = some (.map (some b))) (hown : w.ownsMap Try.prog 3 heldR b nn D') :
    Calls Try.prog 32 #[.func (.func 52) #[] #[.pointer (some ⟨Bm, 0, none⟩)]] w fun e w' => ∃ v, e = .returned v ∧ CollIs D' w w' v := by
  have hap := hid (appendSeq_vals Bm b nn D' w hsz hBm hm0 hown)
  clear hm0 hown hsz
  go_enter Try.func32, Try.ntmps32
  go_wp2_with fail
  refine hap.out.mono ?_
  rintro e w1 ⟨v, rfl, hc⟩
  have HC := hid hc
  clear hc
  go_wp2
  go_ret
  exact ⟨v, rfl, HC.out⟩

set_option maxHeartbeats 1000000 in
theorem values_any (mb : Option Nat) (w : World) :
    Calls Try.prog 33 #[.map mb] w fun e w' => e = .returned (.func (.func 52) #[] #[.pointer (some ⟨w.heap.size, 0, none⟩)]) ∧ w' = w.alloc (.cells #[.map mb] 65) := by
  go_enter Try.func33, Try.ntmps33
  go_wp2
  go_ret
  exact ⟨rfl, rfl⟩
end Go.Proofs.Ythakjmfjbibbjaa
namespace Go.Proofs.Ythakjmfjbibbjaa
open Go.RowKit Go.Lib Go.Shelf Go.Sort

def cmpI (x y : Int) : Int := if x < y then -1 else if y < x then 1 else 0
set_option maxHeartbeats 400000 in
theorem isnan_any (x : Int) (w : World) : Calls Try.prog 55 #[.int .i64 x] w fun e w' => e = .returned (.bool false) ∧ w' = w := by
  go_enter Try.func55, Try.ntmps55
  go_wp2
  go_ret
  exact ⟨rfl, rfl⟩
set_option maxHeartbeats 400000 in
theorem compare_any (x y : Int) (w : World) : Calls Try.prog 37 #[.int .i64 x, .int .i64 y] w fun e w' => e = .returned (.int .i64 (cmpI x y)) ∧ w' = w := by
  have HN : Hid (∀ (z : Int) W, Calls Try.prog 55 #[.int .i64 z] W fun e w' => e = .returned (.bool false) ∧ w' = W) := fun z W => isnan_any z W
  unfold cmpI
  by_cases h : x < y
  · rw [if_pos h]
    go_enter Try.func37, Try.ntmps37
    go_wp2_with fail
    refine (HN.out _ _).mono ?_
    rintro e w1 ⟨rfl, rfl⟩
    go_wp2_with fail
    refine (HN.out _ _).mono ?_
    rintro e w2 ⟨rfl, rfl⟩
    go_wp2
    go_ret
    exact ⟨rfl, rfl⟩
  · rw [if_neg h]
    by_cases h2 : y < x
    · rw [if_pos h2]
      go_enter Try.func37, Try.ntmps37
      go_wp2_with fail
      refine (HN.out _ _).mono ?_
      rintro e w1 ⟨rfl, rfl⟩
      go_wp2_with fail
      refine (HN.out _ _).mono ?_
      rintro e w2 ⟨rfl, rfl⟩
      go_wp2
      go_ret
      exact ⟨rfl, rfl⟩
    · rw [if_neg h2]
      go_enter Try.func37, Try.ntmps37
      go_wp2_with fail
      refine (HN.out _ _).mono ?_
      rintro e w1 ⟨rfl, rfl⟩
      go_wp2_with fail
      refine (HN.out _ _).mono ?_
      rintro e w2 ⟨rfl, rfl⟩
      go_wp2
      go_ret
      exact ⟨rfl, rfl⟩
set_option maxHeartbeats 400000 in
theorem cmp1_any (g1 g2 n1 n2 c1 c2 : Nat) (x y : Int) (w : World) (h1 : w.cell? ⟨g1, 0, none⟩ = some (.int .i64 x)) (h2 : w.cell? ⟨g2, 0, none⟩ = some (.int .i64 y)) (l1 : 0 < n1) (l2 : 0 < n2) :
    Calls Try.prog 36 #[.slice (some ⟨g1, 0, none⟩) n1 c1, .slice (some ⟨g2, 0, none⟩) n2 c2] w fun e w' => e = .returned (.int .i64 (cmpI x y)) ∧ ∃ q, w' = w.drewN q := by
  have HC : Hid (∀ W, Calls Try.prog 37 #[.int .i64 x, .int .i64 y] W fun e w' => e = .returned (.int .i64 (cmpI x y)) ∧ w' = W) := fun W => compare_any x y W
  go_enter Try.func36, Try.ntmps36
  go_wp2_with fail
  go_quiet (first | (go_at_call 37; refine Calls.quiet_of_same (HC.out _)))
  go_wp2
  go_ret
  exact ⟨rfl, _, rfl⟩

/-- Rows that can be compared: each lies in a block of its own, and has a first number. -/
def Heads (w : World) (blk : Nat) (V : Nat → Value) (hd : Nat → Int) : Prop := ∀ k, ∃ g n c, V k = .slice (some ⟨g, 0, none⟩) n c ∧ 0 < n ∧ g < w.heap.size ∧ g ≠ blk ∧ w.cell? ⟨g, 0, none⟩ = some (.int .i64 (hd k))
theorem swoI (hd : Nat → Int) : SWO (ltOf (fun x y => cmpI (hd x) (hd y))) := by
  have e : ∀ x y, ltOf (fun x y => cmpI (hd x) (hd y)) x y = decide (hd x < hd y) := fun x y => by
    unfold ltOf cmpI
    apply decide_eq_decide.2
    show (if hd x < hd y then (-1 : Int) else if hd y < hd x then 1 else 0) < 0 ↔ hd x < hd y
    split
    · omega
    · split <;> omega
  exact ⟨fun x => by rw [e]; simp, fun x y z h h' => by rw [e] at *; simp at *; omega, fun x y z h h' => by rw [e] at *; simp at *; omega⟩
theorem grown_sortW {w : World} {enc : Nat → Value} {g n : Nat} {os : Array Obj} (d : Array Nat) : w.grownBy (sortWorld enc w g 0 n d os) (some g) := by
  refine ⟨rfl, rfl, rfl, ?_, fun k hk hne => ?_⟩
  · unfold sortWorld
    rw [size_grow]
    simp [putRow, mapBlock, Sort.ahead]
  · unfold sortWorld
    rw [heap_grow_old _ _ (by simpa [putRow, mapBlock, Sort.ahead] using hk)]
    have : g ≠ k := fun e => hne (by rw [e])
    simp [putRow, mapBlock, Sort.ahead, Array.getElem?_modify, this]
theorem cell_grown1 {w w' : World} {row : Option Nat} (h : w.grownBy w' row) {p : Addr} (hp : p.block < w.heap.size) (hne : some p.block ≠ row) : w'.cell? p = w.cell? p := World.cell?_of_block (w := w) (h.block p.block hp hne)

/-- What the sort leaves: the same rows, by their first numbers. -/
def SortIs (w w' : World) (blk N : Nat) (V : Nat → Value) (hd : Nat → Int) : Prop :=
  ∃ d : List Nat, d.Perm (List.range N) ∧ d.Pairwise (fun x y => ¬ hd y < hd x) ∧ (∀ j (h : j < d.length), w'.cell? ⟨blk, j, none⟩ = some (V d[j]) ∧ w'.frozen? ⟨blk, j, none⟩ = false) ∧ w.grownBy w' (some blk)

set_option maxHeartbeats 400000 in
theorem sort_rows (blk N cap : Nat) (V : Nat → Value) (hd : Nat → Int) (w : World) (hN : N ≤ 1000) (hblk : blk < w.heap.size) (hV : Heads w blk V hd) (hr : ∀ j, j < N → w.cell? ⟨blk, j, none⟩ = some (V j) ∧ w.frozen? ⟨blk, j, none⟩ = false) :
    Calls Try.prog 35 #[.slice (some ⟨blk, 0, none⟩) N cap, .func (.func 36) #[] #[]] w fun e w' => e = .returned (.tuple #[]) ∧ SortIs w w' blk N V hd := by
  have hsz : (Array.range N).size = N := by simp
  have eg : ∀ args w, (callFunc 36 args).run Try.prog w = .ok (.enter 36 args) w := enters_of Try.func36 (by kernel_rfl) rfl
  have hone : OneCell V := fun x => by obtain ⟨g, n, c, e, _⟩ := hV x; rw [e]; rfl
  have hH : Holds V w blk 0 (Array.range N) := fun j hj => by
    have hj' : j < N := by simpa using hj
    have e : (Array.range N)[j]! = j := by rw [getElem!_pos (Array.range N) j hj]; simp
    rw [Nat.zero_add, e]
    exact hr j hj'
  have hcmp : CmpReads Try.prog 36 #[] V (fun x y => cmpI (hd x) (hd y)) blk 0 (Array.range N).size w := fun m os dk _ x y => by
    obtain ⟨g1, n1, c1, e1, l1, b1, k1, d1⟩ := hV x
    obtain ⟨g2, n2, c2, e2, l2, b2, k2, d2⟩ := hV y
    rw [e1, e2]
    exact cmp1_any g1 g2 n1 n2 c1 c2 (hd x) (hd y) _ ((cell_grown1 (grown_sortW dk) (p := ⟨g1, 0, none⟩) b1 (fun e => k1 (Option.some.inj e))).trans d1) ((cell_grown1 (grown_sortW dk) (p := ⟨g2, 0, none⟩) b2 (fun e => k2 (Option.some.inj e))).trans d2) l1 l2
  have hcon := Any.slices_SortFunc Try.sortE V hone (fun x y => cmpI (hd x) (hd y)) (swoI hd) 36 #[] blk 0 cap (Array.range N) w eg hcmp.lays hH hblk (by rw [hsz]; omega)
  change Calls Try.prog 35 _ _ _ at hcon
  rw [hsz] at hcon
  refine hcon.mono ?_
  rintro e w' ⟨rfl, d', q, os, hp, hs, rfl⟩
  have hd' : d'.size = N := by rw [hp.1, hsz]
  refine ⟨rfl, d'.toList, ?_, ?_, fun j hj => ?_, grown_sortW d'⟩
  · have hperm := hp.2.2
    have e1 : (d'.extract 0 N).toList = d'.toList := by rw [show N = d'.size from hd'.symm]; simp
    have e2 : ((Array.range N).extract 0 N).toList = List.range N := by
      rw [Array.toList_extract]
      simp [List.take_of_length_le]
    rw [e1, e2] at hperm
    exact hperm
  · rw [List.pairwise_iff_getElem]
    intro i j hi hj hij
    have hi' : i < d'.size := by simpa using hi
    have hj' : j < d'.size := by simpa using hj
    have := hs i j (Nat.zero_le _) hij (by omega)
    rw [getElem!_pos d' i hi', getElem!_pos d' j hj'] at this
    intro hlt
    have h2 : ltOf (fun x y => cmpI (hd x) (hd y)) d'[j] d'[i] = true := by
      unfold ltOf cmpI
      have : hd d'[j] < hd d'[i] := by simpa using hlt
      simp [this]
    rw [h2] at this
    cases this
  · have hj' : j < d'.size := by simpa using hj
    have hw : Holds V (sortWorld V w blk 0 q d' os) blk 0 d' := SW.holds (⟨q, os, rfl⟩ : SW V w blk 0 d' (sortWorld V w blk 0 q d' os)) hblk hH (by rw [hd', hsz])
    have := hw j hj'
    rw [Nat.zero_add, getElem!_pos d' j hj'] at this
    simpa using this
end Go.Proofs.Ythakjmfjbibbjaa
namespace Go.Proofs.Ythakjmfjbibbjaa
open Go.RowKit Go.Lib Go.Shelf Go.Maps

/-- Rows of numbers of their own, each in a block of its own, that may be written. -/
def RowsOwn (w : World) (base : Nat) (v : Value) (LL : List (List Int)) : Prop :=
  ∃ a cap, v = .slice a LL.length cap ∧ (0 < LL.length → ∃ blk, a = some ⟨blk, 0, none⟩ ∧ base ≤ blk ∧ blk < w.heap.size ∧ ∃ gs : Nat → Nat,
    (∀ k (hk : k < LL.length), ∃ ck, w.cell? ⟨blk, k, none⟩ = some (.slice (some ⟨gs k, 0, none⟩) LL[k].length ck) ∧ base ≤ gs k ∧ gs k ≠ blk ∧ 0 < LL[k].length ∧ Row1 w (gs k) LL[k].length (fun j => LL[k][j]?.getD 0)) ∧
    ∀ i j, i < LL.length → j < LL.length → i ≠ j → gs i ≠ gs j)
theorem RowsOwn.in {w : World} {base : Nat} {v : Value} {LL : List (List Int)} (h : RowsOwn w base v LL) : ∃ a cap, v = .slice a LL.length cap ∧ LLIn w (fun k => base ≤ k) a LL := by
  obtain ⟨a, cap, hv, h⟩ := h
  refine ⟨a, cap, hv, fun h0 => ?_⟩
  obtain ⟨blk, ha, hb, hlt, gs, hr, _⟩ := h h0
  refine ⟨blk, 0, ha, hlt, hb, fun k hk => ?_⟩
  obtain ⟨ck, h1, h2, _, _, h4⟩ := hr k hk
  refine ⟨_, ck, by rw [Nat.zero_add]; exact h1, fun _ => ⟨gs k, 0, rfl, h4.1, fun j hj => ?_⟩, fun g off e _ => by cases e; exact h2⟩
  rw [Nat.zero_add, (h4.2 j hj).1]
  simp [hj]

theorem size_held {w : World} {b n : Nat} {D' : DataW Value} (h : w.ownsMap Try.prog 3 heldR b n D') : Maps.size D' ≤ n := by
  obtain ⟨es, clock, _, _, hs, rfl⟩ := h
  simpa [Maps.size, length_sorted] using hs
theorem nodup_at {l : List Int} (h : l.Nodup) {i j : Nat} (hi : i < l.length) (hj : j < l.length) (e : l[i] = l[j]) : i = j := by
  rcases Nat.lt_trichotomy i j with h1 | h1 | h1
  · exact absurd e (List.pairwise_iff_getElem.1 h i j hi hj h1)
  · exact h1
  · exact absurd e.symm (List.pairwise_iff_getElem.1 h j i hj hi h1)
/-- What has come is the classes: of each the row of its numbers, each once. -/
structure Rws (w : World) (base n : Nat) (f : Nat → Nat) (xs : List (Int × (Option Addr × Nat × Nat))) : Prop where
  row : ∀ x ∈ xs, f x.1.toNat ∈ repsF n f ∧ w.ownsInts base 3 .i64 (slv x.2) (classF n f (f x.1.toNat))
  inj : ∀ i j (hi : i < xs.length) (hj : j < xs.length), f xs[i].1.toNat = f xs[j].1.toNat → i = j
  all : ∀ r ∈ repsF n f, ∃ k, ∃ h : k < xs.length, f xs[k].1.toNat = r
  apart : ∀ i j (hi : i < xs.length) (hj : j < xs.length), i ≠ j → (slv xs[i].2).ownBlock = none ∨ (slv xs[i].2).ownBlock ≠ (slv xs[j].2).ownBlock
theorem came_rows {w : World} {b g n B base : Nat} {f rt : Nat → Nat} {c : Nat} {D : DataW Unit} {D' : DataW Value} {xs : List (Int × (Option Addr × Nat × Nat))} (hx : PX w b g n f rt c) (hP : Pt n f) (hG : Grp D f rt n n) (hH : Held w B base n D D') (hC : Came1 D' xs) : Rws w base n f xs := by
  have key : ∀ x ∈ xs, ∃ a, a < n ∧ x.1 = (rt a : Int) := fun x hxm => by
    have h1 := (hC.2.1 x.1).1 (List.mem_map.2 ⟨x, hxm, rfl⟩)
    rw [hH.has] at h1
    obtain ⟨a, ha, e⟩ := (hG.has _).1 h1
    exact ⟨a, ha, by simpa using e⟩
  have fk : ∀ x ∈ xs, ∀ a, a < n → x.1 = (rt a : Int) → f x.1.toNat = f a := fun x _ a ha e => by rw [e, Int.toNat_natCast]; exact (hx.top_lt ha).2
  refine ⟨fun x hxm => ?_, fun i j hi hj e => ?_, fun r hr => ?_, fun i j hi hj hne => ?_⟩
  · obtain ⟨a, ha, e⟩ := key x hxm
    have hfa := fk x hxm a ha e
    rw [hfa]
    refine ⟨mem_reps.2 ⟨hP.lt ha, hP.idem a ha⟩, ?_⟩
    obtain ⟨zs, ho, hz⟩ := hH.row x.1 _ (hC.2.2 x hxm)
    rw [e, hG.at a ha] at hz
    have : zs = partTo f (f a) n := rowD_of ho hz.symm
    rw [this] at ho
    exact ho
  · obtain ⟨a, ha, e1⟩ := key _ (List.getElem_mem hi)
    obtain ⟨a', ha', e2⟩ := key _ (List.getElem_mem hj)
    rw [fk _ (List.getElem_mem hi) a ha e1, fk _ (List.getElem_mem hj) a' ha' e2] at e
    have hrt := (hx.same ha ha').2 e
    have hkk : (xs.map Prod.fst)[i]'(by simpa using hi) = (xs.map Prod.fst)[j]'(by simpa using hj) := by
      rw [List.getElem_map, List.getElem_map, e1, e2, hrt]
    exact nodup_at hC.1 _ _ hkk
  · obtain ⟨hr1, hr2⟩ := mem_reps.1 hr
    have h1 : has D' (.int .i64 (rt r : Int)) = true := by rw [hH.has]; exact (hG.has _).2 ⟨r, hr1, rfl⟩
    obtain ⟨x, hxm, e⟩ := List.mem_map.1 ((hC.2.1 _).2 h1)
    obtain ⟨k, hk, rfl⟩ := List.getElem_of_mem hxm
    exact ⟨k, hk, (fk _ hxm r hr1 e).trans hr2⟩
  · refine hH.apart xs[i].1 xs[j].1 _ _ (fun e => hne ?_) (hC.2.2 _ (List.getElem_mem hi)) (hC.2.2 _ (List.getElem_mem hj))
    have hkk : (xs.map Prod.fst)[i]'(by simpa using hi) = (xs.map Prod.fst)[j]'(by simpa using hj) := by
      rw [List.getElem_map, List.getElem_map, e]
    exact nodup_at hC.1 _ _ hkk
/-- In the order of their first numbers they are the classes in their order. -/
theorem sorted_reps {n N : Nat} {f rep : Nat → Nat} {d : List Nat} (hp : d.Perm (List.range N)) (hs : d.Pairwise (fun x y => ¬ ((rep y : Int)) < (rep x : Int))) (hin : ∀ k, k < N → rep k ∈ repsF n f) (hinj : ∀ i j, i < N → j < N → rep i = rep j → i = j) (hall : ∀ r ∈ repsF n f, ∃ k, k < N ∧ rep k = r) : d.map rep = repsF n f := by
  have hnd : d.Nodup := hp.nodup_iff.2 List.nodup_range
  have hlt : ∀ k ∈ d, k < N := fun k hk => by simpa using hp.mem_iff.1 hk
  have h1 : (d.map (fun k => (rep k : Int))).Pairwise (· < ·) := by
    rw [List.pairwise_map]
    have := List.Pairwise.and hs hnd
    refine List.Pairwise.imp_of_mem (fun {a b} ha hb h => ?_) this
    have hne : rep a ≠ rep b := fun e => h.2 (hinj a b (hlt a ha) (hlt b hb) e)
    omega
  have h2 : ((repsF n f).map (fun i : Nat => (i : Int))).Pairwise (· < ·) := by
    rw [List.pairwise_map]
    exact (reps_rises n f).imp (fun h => by omega)
  have h3 := rise_one h1 h2 (fun e => by
    rw [List.mem_map, List.mem_map]
    constructor
    · rintro ⟨k, hk, rfl⟩; exact ⟨rep k, hin k (hlt k hk), rfl⟩
    · rintro ⟨r, hr, rfl⟩
      obtain ⟨k, hk, rfl⟩ := hall r hr
      exact ⟨k, hp.mem_iff.2 (by simpa using hk), rfl⟩)
  have h4 : (d.map rep).map (fun i : Nat => (i : Int)) = (repsF n f).map (fun i : Nat => (i : Int)) := by rw [List.map_map]; exact h3
  exact (List.map_inj_right (fun a b hab => by omega)).1 h4
theorem ints_slice {w : World} {base : Nat} {e : TypeId} {v : Value} {zs : List Int} (h : w.ownsInts base e .i64 v zs) (h0 : 0 < zs.length) : ∃ g cap, v = .slice (some ⟨g, 0, none⟩) zs.length cap ∧ base ≤ g ∧ Row1 w g zs.length (fun j => zs[j]?.getD 0) := by
  rcases h.1.2 with ⟨_, h1⟩ | ⟨g, cap, cur, hv, hb, _⟩
  · omega
  · subst hv
    exact ⟨g, cap, rfl, hb, row1_own h.1 rfl⟩
theorem Row1.grown {w w' : World} {row : Option Nat} {g n : Nat} {c : Nat → Int} (h : Row1 w g n c) (hg : w.grownBy w' row) (hne : some g ≠ row) : Row1 w' g n c :=
  ⟨Nat.lt_of_lt_of_le h.1 hg.size, fun j hj => ⟨(World.cell?_of_block (w := w) (a := ⟨g, j, none⟩) (hg.block g h.1 hne)).trans (h.2 j hj).1, (World.frozen?_of_block (w := w) (a := ⟨g, j, none⟩) (hg.block g h.1 hne)).trans (h.2 j hj).2⟩⟩
theorem Row1.below {w w' : World} {g n : Nat} {c : Nat → Int} (h : Row1 w g n c) (hb : Below w.heap.size w w') : Row1 w' g n c := h.grown (grown_of_below hb) (by simp)
end Go.Proofs.Ythakjmfjbibbjaa
