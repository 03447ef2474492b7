/-
  slices.Collect(maps.Values(m)) of layer 4: the rows of the map, each once.
  The sort of layer 4: rows of numbers by their first ones: slices.SortFunc by its contract, its closure and cmp.Compare walked.
  A search under way, in memory (layer 7).
  Numbers in order, in memory: slices.Sort by its contract.
-/
import Derived.Test.YtplhpinaadgkkaaB16
import Derived.Test.YtplhpinaadgkkaaB08
import Derived.Test.YtplhpinaadgkkaaB01
import Derived.Test.YtplhpinaadgkkaaB15
import Derived.Test.YtplhpinaadgkkaaB12
import Derived.Test.YtplhpinaadgkkaaB11
namespace Go.Proofs.Ytplhpinaadgkkaa
open Go.RowKit Go.Lib Go.Shelf Go.Maps
attribute [local go_sem] Oper.semAt_some

theorem ownsMap_below {w W : World} {b n : Nat} {D' : DataW Value} (h : w.ownsMap Try.prog 3 heldR b n D') (hW : Below w.heap.size w W) : W.ownsMap Try.prog 3 heldR b n D' := by
  have hbl := h.lt
  obtain ⟨es, clock, hb, Ft, hs, hD⟩ := h
  exact ⟨es, clock, (hW.block b hbl).trans hb, Ft, hs, hD⟩
/-- The closure of maps.Values as an iterator. -/
theorem vals_stops (m : Nat) (hm : 1 ≤ m) (Bm b nn : Nat) (D' : DataW Value) (w : World) (hBm : Bm < w.heap.size) (hm0 : w.cell? ⟨Bm, 0, none⟩ = some (.map (some b))) (hown : w.ownsMap Try.prog 3 heldR b nn D') :
    SeqStopsK Fence.wide m Try.prog 94 #[.pointer (some ⟨Bm, 0, none⟩)] (fun x : Int × (Option Addr × Nat × Nat) => #[slv x.2]) KeepsWalks (Came1 D') (fun _ => True) (Maps.size D') w := fun l J Jx W hW hJ _ hY h0 =>
  vals1_in m hm l Bm b nn D' J Jx hY W hJ ((hW.cell (p := ⟨Bm, 0, none⟩) hBm).trans hm0) (ownsMap_below hown hW) h0
/-- What is collected: a row of slices of its own. -/
def CollIs (D' : DataW Value) (w w' : World) (v : Value) : Prop := ∃ xs, Came1 D' xs ∧ w'.ownsRow w.heap.size 28 1 v xs.length (xs.map (fun x => slv x.2)) ∧ Below w.heap.size w w'

set_option maxRecDepth 100000 in
set_option maxHeartbeats 2000000 in
theorem appendSeq_vals (Bm b nn : Nat) (D' : DataW Value) (w : World) (hsz : Maps.size D' ≤ 1000) (hBm : Bm < w.heap.size) (hm0 : w.cell? ⟨Bm, 0, none⟩ = some (.map (some b))) (hown : w.ownsMap Try.prog 3 heldR b nn D') :
    Calls Try.prog 93 #[.slice none 0 0, .func (.func 94) #[] #[.pointer (some ⟨Bm, 0, none⟩)]] w fun e w' => ∃ v, e = .returned v ∧ CollIs D' w w' v := by
  obtain ⟨i0, hi, hz0, hz1, hz2⟩ := info_parts Try.info28
  refine (callsIn_wide (n := 6)).1 ?_
  refine callsIn_of_wp_marks Try.func93 rfl trivial ?_ rfl
  simp only [Try.ntmps93, List.size_toArray, List.length_cons, List.length_nil, Nat.reduceAdd, Nat.reduceSub, Array.replicate_succ, Array.replicate_zero, List.push_toArray, List.append_toArray, List.nil_append, List.cons_append]
  gi_wp2_with fail
  have bO := Boxed.new w 29 (.slice none 0 0)
  have hB0 : Below w.heap.size w (w.alloc (.cells #[.slice none 0 0] 29)) := (Below.refl _ w).alloc (Nat.le_refl _) _
  refine wpIn_rangeFunc_ownG rfl (by omega) (gf := 94) (lb := #[.pointer (some ⟨Bm, 0, none⟩)]) rfl trivial (enters_of Try.func94 (by kernel_rfl) rfl)
    (vals_stops 5 (by omega) Bm b nn D' _ (by simp; omega) ((hB0.cell (p := ⟨Bm, 0, none⟩) hBm).trans hm0) (ownsMap_below hown hB0)) walksK_t (fun W l o o' h1 h2 h3 h4 => walksK_b (w := w.alloc (.cells #[.slice none 0 0] 29)) W l o o' h1 h2 h3 h4) (Below.refl _ _) (fun _ => rfl)
    (fun pre W => (∃ v, Boxed W w.heap.size 29 v ∧ W.ownsRow w.heap.size 28 1 v pre.length (pre.map (fun x => slv x.2)) ∧ True) ∧ Below w.heap.size w W)
    (fun _ _ _ => False)
    (OwnFrom.and (Own.from (holdsRow_own w.heap.size w.heap.size 29 28 1 (fun pre : List (Int × (Option Addr × Nat × Nat)) => pre.length) (fun pre => pre.map (fun x => slv x.2)) (fun _ _ => True)) _) (ownFrom_below (Nat.le_refl _) (by simp)))
    (fun _ _ _ _ _ hs _ _ => hs)
    ⟨⟨_, bO, World.ownsRow_nil _ _ _ _, trivial⟩, hB0⟩
    (fun z => { tmps := #[.slice none 0 0, .func (.func 94) #[] #[.pointer (some ⟨Bm, 0, none⟩)], .pointer (some ⟨w.heap.size, 0, none⟩), undef, .slice none 0 0, slv z.2, .func (.func 94) #[] #[.pointer (some ⟨Bm, 0, none⟩)], slv z.2, undef, undef, undef, undef, undef], defers := [] }) ?assign ?body ?done ?stop
  case assign =>
    intro l z W K hK
    gi_wp2
    exact hK
  case body =>
    rintro l pre ⟨z, ca, cn, cc⟩ W ⟨⟨v, hv, hrow, _⟩, hB⟩ hlt
    have hc := hv.cell
    have h1c : ∀ x ∈ [Value.slice ca cn cc], x.oneCell' = true := fun v hv => by simp at hv; rw [hv]; rfl
    have hlt' : pre.length < 1000 := by omega
    simp only [slv]
    gi_wp2_with (gi_at_builtin; refine wpListIn_append_own _ rfl _ _ 29 rfl w.heap.size 28 i0 (.slice none 0 0) 1 24 Try.underlying29 hi hz0 hz1 hz2 rfl (by decide) _ _ _ rfl (hrow.alloc _) ⟨W.heap.size, 0, none⟩ 1 1 [.slice ca cn cc] rfl rfl (cell_one_new _ _ _) h1c (by unfold maxLen; omega) (by omega) (by have := hB.size; simp; omega) ?_; intro v' w1 hown' hgrow _; obtain ⟨g', cap', rfl⟩ := ownsRow_succ hown'; obtain ⟨hv1, hv2, hr2, hk2, hb2⟩ := hv.appended (by decide) hrow hB.size (Nat.le_refl _) hown' hgrow; have hc1 := hv1.cell; have hf1 := hv1.frozen)
    exact ⟨hk2.from _, hk2.walks, ⟨_, hv2, by simpa [slv] using hr2, trivial⟩, hB.trans hb2⟩
  case done =>
    rintro D ys W hD hys ⟨⟨v, hv, hrow, _⟩, hB⟩ hK
    have hc := hv.cell
    have HC := hid hys
    clear hys
    gi_wp2
    refine ⟨by simp, .inl ⟨_, _, rfl, run_takeDeferred hK, ?_⟩⟩
    exact ⟨_, results_tmp rfl _ _ _, v, rfl, ys, HC.out, ownsRow_putObj hrow _ hK rfl, hB.trans (belowK_b (w := w) (Nat.le_refl _) W D _ _ (by simp at hD; omega) hK rfl rfl)⟩
  case stop =>
    rintro D c pre W _ _ h _
    exact h.elim

set_option maxHeartbeats 1000000 in
set_option maxRecDepth 100000 in
theorem collect_vals (Bm b nn : Nat) (D' : DataW Value) (w : World) (hsz : Maps.size D' ≤ 1000) (hBm : Bm < w.heap.size) (hm0 : w.cell? ⟨Bm, 0, none⟩ = some (.map (some b))) (hown : w.ownsMap Try.prog 3 heldR b nn D') :
    Calls Try.prog 68 #[.func (.func 94) #[] #[.pointer (some ⟨Bm, 0, none⟩)]] w fun e w' => ∃ v, e = .returned v ∧ CollIs D' w w' v := by
  have hap := hid (appendSeq_vals Bm b nn D' w hsz hBm hm0 hown)
  clear hm0 hown hsz
  go_enter Try.func68, Try.ntmps68
  go_wp2_with fail
  refine hap.out.mono ?_
  rintro e w1 ⟨v, rfl, hc⟩
  have HC := hid hc
  clear hc
  go_wp2
  go_ret
  exact ⟨v, rfl, HC.out⟩

set_option maxHeartbeats 1000000 in
theorem values_any (mb : Option Nat) (w : World) :
    Calls Try.prog 69 #[.map mb] w fun e w' => e = .returned (.func (.func 94) #[] #[.pointer (some ⟨w.heap.size, 0, none⟩)]) ∧ w' = w.alloc (.cells #[.map mb] 95) := by
  go_enter Try.func69, Try.ntmps69
  go_wp2
  go_ret
  exact ⟨rfl, rfl⟩
end Go.Proofs.Ytplhpinaadgkkaa
namespace Go.Proofs.Ytplhpinaadgkkaa
open Go.RowKit Go.Lib Go.Shelf Go.Sort

def cmpI (x y : Int) : Int := if x < y then -1 else if y < x then 1 else 0
set_option maxHeartbeats 400000 in
theorem isnan_any (x : Int) (w : World) : Calls Try.prog 91 #[.int .i64 x] w fun e w' => e = .returned (.bool false) ∧ w' = w := by
  go_enter Try.func91, Try.ntmps91
  go_wp2
  go_ret
  exact ⟨rfl, rfl⟩
set_option maxHeartbeats 400000 in
theorem compare_any (x y : Int) (w : World) : Calls Try.prog 59 #[.int .i64 x, .int .i64 y] w fun e w' => e = .returned (.int .i64 (cmpI x y)) ∧ w' = w := by
  have HN : Hid (∀ (z : Int) W, Calls Try.prog 91 #[.int .i64 z] W fun e w' => e = .returned (.bool false) ∧ w' = W) := fun z W => isnan_any z W
  unfold cmpI
  by_cases h : x < y
  · rw [if_pos h]
    go_enter Try.func59, Try.ntmps59
    go_wp2_with fail
    refine (HN.out _ _).mono ?_
    rintro e w1 ⟨rfl, rfl⟩
    go_wp2_with fail
    refine (HN.out _ _).mono ?_
    rintro e w2 ⟨rfl, rfl⟩
    go_wp2
    go_ret
    exact ⟨rfl, rfl⟩
  · rw [if_neg h]
    by_cases h2 : y < x
    · rw [if_pos h2]
      go_enter Try.func59, Try.ntmps59
      go_wp2_with fail
      refine (HN.out _ _).mono ?_
      rintro e w1 ⟨rfl, rfl⟩
      go_wp2_with fail
      refine (HN.out _ _).mono ?_
      rintro e w2 ⟨rfl, rfl⟩
      go_wp2
      go_ret
      exact ⟨rfl, rfl⟩
    · rw [if_neg h2]
      go_enter Try.func59, Try.ntmps59
      go_wp2_with fail
      refine (HN.out _ _).mono ?_
      rintro e w1 ⟨rfl, rfl⟩
      go_wp2_with fail
      refine (HN.out _ _).mono ?_
      rintro e w2 ⟨rfl, rfl⟩
      go_wp2
      go_ret
      exact ⟨rfl, rfl⟩
set_option maxHeartbeats 400000 in
theorem cmp1_any (g1 g2 n1 n2 c1 c2 : Nat) (x y : Int) (w : World) (h1 : w.cell? ⟨g1, 0, none⟩ = some (.int .i64 x)) (h2 : w.cell? ⟨g2, 0, none⟩ = some (.int .i64 y)) (l1 : 0 < n1) (l2 : 0 < n2) :
    Calls Try.prog 71 #[.slice (some ⟨g1, 0, none⟩) n1 c1, .slice (some ⟨g2, 0, none⟩) n2 c2] w fun e w' => e = .returned (.int .i64 (cmpI x y)) ∧ ∃ q, w' = w.drewN q := by
  have HC : Hid (∀ W, Calls Try.prog 59 #[.int .i64 x, .int .i64 y] W fun e w' => e = .returned (.int .i64 (cmpI x y)) ∧ w' = W) := fun W => compare_any x y W
  go_enter Try.func71, Try.ntmps71
  go_wp2_with fail
  go_quiet (first | (go_at_call 59; refine Calls.quiet_of_same (HC.out _)))
  go_wp2
  go_ret
  exact ⟨rfl, _, rfl⟩

/-- Rows that can be compared: each lies in a block of its own, and has a first number. -/
def Heads (w : World) (blk : Nat) (V : Nat → Value) (hd : Nat → Int) : Prop := ∀ k, ∃ g n c, V k = .slice (some ⟨g, 0, none⟩) n c ∧ 0 < n ∧ g < w.heap.size ∧ g ≠ blk ∧ w.cell? ⟨g, 0, none⟩ = some (.int .i64 (hd k))
theorem swoI (hd : Nat → Int) : SWO (ltOf (fun x y => cmpI (hd x) (hd y))) := by
  have e : ∀ x y, ltOf (fun x y => cmpI (hd x) (hd y)) x y = decide (hd x < hd y) := fun x y => by
    unfold ltOf cmpI
    apply decide_eq_decide.2
    show (if hd x < hd y then (-1 : Int) else if hd y < hd x then 1 else 0) < 0 ↔ hd x < hd y
    split
    · omega
    · split <;> omega
  exact ⟨fun x => by rw [e]; simp, fun x y z h h' => by rw [e] at *; simp at *; omega, fun x y z h h' => by rw [e] at *; simp at *; omega⟩
theorem grown_sortW {w : World} {enc : Nat → Value} {g n : Nat} {os : Array Obj} (d : Array Nat) : w.grownBy (sortWorld enc w g 0 n d os) (some g) := by
  refine ⟨rfl, rfl, rfl, ?_, fun k hk hne => ?_⟩
  · unfold sortWorld
    rw [size_grow]
    simp [putRow, mapBlock, Sort.ahead]
  · unfold sortWorld
    rw [heap_grow_old _ _ (by simpa [putRow, mapBlock, Sort.ahead] using hk)]
    have : g ≠ k := fun e => hne (by rw [e])
    simp [putRow, mapBlock, Sort.ahead, Array.getElem?_modify, this]
theorem cell_grown1 {w w' : World} {row : Option Nat} (h : w.grownBy w' row) {p : Addr} (hp : p.block < w.heap.size) (hne : some p.block ≠ row) : w'.cell? p = w.cell? p := World.cell?_of_block (w := w) (h.block p.block hp hne)

/-- What the sort leaves: the same rows, by their first numbers. -/
def SortIs (w w' : World) (blk N : Nat) (V : Nat → Value) (hd : Nat → Int) : Prop :=
  ∃ d : List Nat, d.Perm (List.range N) ∧ d.Pairwise (fun x y => ¬ hd y < hd x) ∧ (∀ j (h : j < d.length), w'.cell? ⟨blk, j, none⟩ = some (V d[j]) ∧ w'.frozen? ⟨blk, j, none⟩ = false) ∧ w.grownBy w' (some blk)

set_option maxHeartbeats 400000 in
theorem sort_rows (blk N cap : Nat) (V : Nat → Value) (hd : Nat → Int) (w : World) (hN : N ≤ 1000) (hblk : blk < w.heap.size) (hV : Heads w blk V hd) (hr : ∀ j, j < N → w.cell? ⟨blk, j, none⟩ = some (V j) ∧ w.frozen? ⟨blk, j, none⟩ = false) :
    Calls Try.prog 28 #[.slice (some ⟨blk, 0, none⟩) N cap, .func (.func 71) #[] #[]] w fun e w' => e = .returned (.tuple #[]) ∧ SortIs w w' blk N V hd := by
  have hsz : (Array.range N).size = N := by simp
  have eg : ∀ args w, (callFunc 71 args).run Try.prog w = .ok (.enter 71 args) w := enters_of Try.func71 (by kernel_rfl) rfl
  have hone : OneCell V := fun x => by obtain ⟨g, n, c, e, _⟩ := hV x; rw [e]; rfl
  have hH : Holds V w blk 0 (Array.range N) := fun j hj => by
    have hj' : j < N := by simpa using hj
    have e : (Array.range N)[j]! = j := by rw [getElem!_pos (Array.range N) j hj]; simp
    rw [Nat.zero_add, e]
    exact hr j hj'
  have hcmp : CmpReads Try.prog 71 #[] V (fun x y => cmpI (hd x) (hd y)) blk 0 (Array.range N).size w := fun m os dk _ x y => by
    obtain ⟨g1, n1, c1, e1, l1, b1, k1, d1⟩ := hV x
    obtain ⟨g2, n2, c2, e2, l2, b2, k2, d2⟩ := hV y
    rw [e1, e2]
    exact cmp1_any g1 g2 n1 n2 c1 c2 (hd x) (hd y) _ ((cell_grown1 (grown_sortW dk) (p := ⟨g1, 0, none⟩) b1 (fun e => k1 (Option.some.inj e))).trans d1) ((cell_grown1 (grown_sortW dk) (p := ⟨g2, 0, none⟩) b2 (fun e => k2 (Option.some.inj e))).trans d2) l1 l2
  have hcon := Any.slices_SortFunc Try.sortR V hone (fun x y => cmpI (hd x) (hd y)) (swoI hd) 71 #[] blk 0 cap (Array.range N) w eg hcmp.lays hH hblk (by rw [hsz]; omega)
  change Calls Try.prog 28 _ _ _ at hcon
  rw [hsz] at hcon
  refine hcon.mono ?_
  rintro e w' ⟨rfl, d', q, os, hp, hs, rfl⟩
  have hd' : d'.size = N := by rw [hp.1, hsz]
  refine ⟨rfl, d'.toList, ?_, ?_, fun j hj => ?_, grown_sortW d'⟩
  · have hperm := hp.2.2
    have e1 : (d'.extract 0 N).toList = d'.toList := by rw [show N = d'.size from hd'.symm]; simp
    have e2 : ((Array.range N).extract 0 N).toList = List.range N := by
      rw [Array.toList_extract]
      simp [List.take_of_length_le]
    rw [e1, e2] at hperm
    exact hperm
  · rw [List.pairwise_iff_getElem]
    intro i j hi hj hij
    have hi' : i < d'.size := by simpa using hi
    have hj' : j < d'.size := by simpa using hj
    have := hs i j (Nat.zero_le _) hij (by omega)
    rw [getElem!_pos d' i hi', getElem!_pos d' j hj'] at this
    intro hlt
    have h2 : ltOf (fun x y => cmpI (hd x) (hd y)) d'[j] d'[i] = true := by
      unfold ltOf cmpI
      have : hd d'[j] < hd d'[i] := by simpa using hlt
      simp [this]
    rw [h2] at this
    cases this
  · have hj' : j < d'.size := by simpa using hj
    have hw : Holds V (sortWorld V w blk 0 q d' os) blk 0 d' := SW.holds (⟨q, os, rfl⟩ : SW V w blk 0 d' (sortWorld V w blk 0 q d' os)) hblk hH (by rw [hd', hsz])
    have := hw j hj'
    rw [Nat.zero_add, getElem!_pos d' j hj'] at this
    simpa using this
end Go.Proofs.Ytplhpinaadgkkaa
namespace Go.Proofs.Ytplhpinaadgkkaa
open Go.RowKit Go.Lib

/-- A search s in memory; v: those gone through, u: the blocks, as the variables hold them. -/
structure DMem (w W0 : World) (nr bl gn nm ct go lw D gw m : Nat) (es : List (Int × Int)) (s : Dst) (v u : Value) (us : List Value) : Prop where
  ord : W0.heap.size ≤ nr ∧ nr < bl ∧ bl < gn ∧ gn < nm ∧ nm < ct ∧ ct < go ∧ go < lw ∧ lw < D
  sz : D ≤ w.heap.size
  bel : Below W0.heap.size W0 w
  near : NearAt W0 gw m es
  cnr : w.cell? ⟨nr, 0, none⟩ = some (.slice (some ⟨gw, 0, none⟩) m m)
  cnm : w.cell? ⟨nm, 0, none⟩ = some (.slice (some ⟨gn, 0, none⟩) m m)
  cct : w.cell? ⟨ct, 0, none⟩ = some (.int .i64 s.cnt) ∧ w.frozen? ⟨ct, 0, none⟩ = false
  clw : w.cell? ⟨lw, 0, none⟩ = some (.func (.func 55) #[] #[.pointer (some ⟨ct, 0, none⟩), .pointer (some ⟨nm, 0, none⟩), .pointer (some ⟨go, 0, none⟩), .pointer (some ⟨nr, 0, none⟩), .pointer (some ⟨lw, 0, none⟩), .pointer (some ⟨bl, 0, none⟩)])
  num : Row1 w gn m s.num
  cgo : w.cell? ⟨go, 0, none⟩ = some v ∧ w.frozen? ⟨go, 0, none⟩ = false
  cbl : w.cell? ⟨bl, 0, none⟩ = some u ∧ w.frozen? ⟨bl, 0, none⟩ = false
  gone : w.ownsRow D 3 1 v s.gone.length (s.gone.map (Value.int .i64))
  blk : LLOwn w D (fun k => D ≤ k ∧ v.ownBlock ≠ some k) u us s.blk

theorem LLOwn.swap {A A' : Nat → Prop} {w : World} {base : Nat} {v : Value} {us : List Value} {LL : List (List Int)} (h : LLOwn w base A v us LL) (hA : ∀ k, k < w.heap.size → A k → A' k) : LLOwn w base A' v us LL := by
  refine ⟨h.1, h.2.1, fun g hg => hA g (h.1.lt g hg).2 (h.2.2.1 g hg), fun k hk => ?_⟩
  obtain ⟨ak, ck, h1, h2, h3⟩ := h.2.2.2 k hk
  refine ⟨ak, ck, h1, h2, fun g off e h0 => ⟨hA g ?_ (h3 g off e h0).1, (h3 g off e h0).2⟩⟩
  obtain ⟨g2, o2, e2, hg2, _⟩ := h2 h0
  rw [e] at e2
  cases e2
  exact hg2
section
variable {w W0 : World} {nr bl gn nm ct go lw D gw m : Nat} {es : List (Int × Int)} {s : Dst} {v u : Value} {us : List Value}
theorem DMem.size (h : DMem w W0 nr bl gn nm ct go lw D gw m es s v u us) : nr < w.heap.size ∧ bl < w.heap.size ∧ gn < w.heap.size ∧ nm < w.heap.size ∧ ct < w.heap.size ∧ go < w.heap.size ∧ lw < w.heap.size ∧ W0.heap.size ≤ D := by
  have := h.ord
  have := h.sz
  omega
theorem DMem.own (h : DMem w W0 nr bl gn nm ct go lw D gw m es s v u us) : (∀ k, v.ownBlock = some k → D ≤ k ∧ k < w.heap.size) ∧ (∀ k, u.ownBlock = some k → D ≤ k ∧ k < w.heap.size ∧ v.ownBlock ≠ some k) :=
  ⟨fun k hk => h.gone.lt k hk, fun k hk => ⟨(h.blk.1.lt k hk).1, (h.blk.1.lt k hk).2, (h.blk.2.2.1 k hk).2⟩⟩
/-- All that does not lie in S stays. -/
theorem DMem.kept {S : Nat → Prop} {w' : World} (h : DMem w W0 nr bl gn nm ct go lw D gw m es s v u us) (hk : KeptBut S w w') (h0 : ∀ k, k < w.heap.size → S k → W0.heap.size ≤ k)
    (n1 : ¬ S nr) (n2 : ¬ S nm) (n3 : ¬ S lw) : 
    D ≤ w'.heap.size ∧ Below W0.heap.size W0 w' ∧ w'.cell? ⟨nr, 0, none⟩ = some (.slice (some ⟨gw, 0, none⟩) m m) ∧ w'.cell? ⟨nm, 0, none⟩ = some (.slice (some ⟨gn, 0, none⟩) m m) ∧
    w'.cell? ⟨lw, 0, none⟩ = some (.func (.func 55) #[] #[.pointer (some ⟨ct, 0, none⟩), .pointer (some ⟨nm, 0, none⟩), .pointer (some ⟨go, 0, none⟩), .pointer (some ⟨nr, 0, none⟩), .pointer (some ⟨lw, 0, none⟩), .pointer (some ⟨bl, 0, none⟩)]) ∧
    (¬ S ct → w'.cell? ⟨ct, 0, none⟩ = some (.int .i64 s.cnt) ∧ w'.frozen? ⟨ct, 0, none⟩ = false) ∧ (¬ S gn → Row1 w' gn m s.num) ∧
    (¬ S go → w'.cell? ⟨go, 0, none⟩ = some v ∧ w'.frozen? ⟨go, 0, none⟩ = false) ∧ (¬ S bl → w'.cell? ⟨bl, 0, none⟩ = some u ∧ w'.frozen? ⟨bl, 0, none⟩ = false) := by
  obtain ⟨z1, z2, z3, z4, z5, z6, z7, z8⟩ := h.size
  have hs := hk.size
  have hsz := h.sz
  refine ⟨by omega, h.bel.trans (hk.below (by omega) h0), ?_, ?_, ?_, fun n => ?_, fun n => h.num.kept hk n, fun n => ?_, fun n => ?_⟩
  · rw [hk.cell (p := ⟨nr, 0, none⟩) z1 n1]; exact h.cnr
  · rw [hk.cell (p := ⟨nm, 0, none⟩) z4 n2]; exact h.cnm
  · rw [hk.cell (p := ⟨lw, 0, none⟩) z7 n3]; exact h.clw
  · rw [hk.cell (p := ⟨ct, 0, none⟩) z5 n, hk.frozen (p := ⟨ct, 0, none⟩) z5 n]; exact h.cct
  · rw [hk.cell (p := ⟨go, 0, none⟩) z6 n, hk.frozen (p := ⟨go, 0, none⟩) z6 n]; exact h.cgo
  · rw [hk.cell (p := ⟨bl, 0, none⟩) z2 n, hk.frozen (p := ⟨bl, 0, none⟩) z2 n]; exact h.cbl
theorem DMem.below {w' : World} (h : DMem w W0 nr bl gn nm ct go lw D gw m es s v u us) (hb : Below w.heap.size w w') : DMem w' W0 nr bl gn nm ct go lw D gw m es s v u us := by
  obtain ⟨a1, a2, a3, a4, a5, a6, a7, a8, a9⟩ := h.kept (KeptBut.of_whole (fun _ => False) hb) (fun _ _ k => k.elim) (fun k => k) (fun k => k) (fun k => k)
  exact ⟨h.ord, a1, a2, h.near, a3, a4, a6 (fun k => k), a5, a7 (fun k => k), a8 (fun k => k), a9 (fun k => k), own_below h.gone hb, h.blk.below hb⟩
theorem DMem.count (h : DMem w W0 nr bl gn nm ct go lw D gw m es s v u us) (c : Nat) : DMem (w.setCell ⟨ct, 0, none⟩ (.int .i64 c)) W0 nr bl gn nm ct go lw D gw m es ⟨s.num, c, s.gone, s.blk⟩ v u us := by
  have ho := h.ord
  have hk := kept_set w ⟨ct, 0, none⟩ (.int .i64 c)
  obtain ⟨a1, a2, a3, a4, a5, _, a7, a8, a9⟩ := h.kept hk (fun k _ e => by simp only at e; omega) (by simp only; omega) (by simp only; omega) (by simp only; omega)
  obtain ⟨o1, o2⟩ := h.own
  refine ⟨h.ord, a1, a2, h.near, a3, a4, ⟨World.cell?_setCell_same' _ _ _ (by rw [h.cct.1]; rfl), by rw [World.frozen?_setCell]; exact h.cct.2⟩, a5, a7 (by simp only; omega), a8 (by simp only; omega), a9 (by simp only; omega), own_kept h.gone hk (fun g hg e => ?_), h.blk.kept hk (fun k hA _ e => ?_)⟩
  · have := o1 g hg; simp only at e; omega
  · have := hA.1; simp only at e; omega
theorem DMem.number (h : DMem w W0 nr bl gn nm ct go lw D gw m es s v u us) {j : Nat} (hj : j < m) (x : Int) : DMem (w.setCell ⟨gn, j, none⟩ (.int .i64 x)) W0 nr bl gn nm ct go lw D gw m es ⟨fun i => if i = j then x else s.num i, s.cnt, s.gone, s.blk⟩ v u us := by
  have ho := h.ord
  have hk := kept_set w ⟨gn, j, none⟩ (.int .i64 x)
  obtain ⟨a1, a2, a3, a4, a5, a6, _, a8, a9⟩ := h.kept hk (fun k _ e => by simp only at e; omega) (by simp only; omega) (by simp only; omega) (by simp only; omega)
  obtain ⟨o1, o2⟩ := h.own
  refine ⟨h.ord, a1, a2, h.near, a3, a4, a6 (by simp only; omega), a5, h.num.put hj x, a8 (by simp only; omega), a9 (by simp only; omega), own_kept h.gone hk (fun g hg e => ?_), h.blk.kept hk (fun k hA _ e => ?_)⟩
  · have := o1 g hg; simp only at e; omega
  · have := hA.1; simp only at e; omega
/-- One number more gone through. -/
theorem DMem.push {wa w4 : World} {v' : Value} {x : Int} (h : DMem w W0 nr bl gn nm ct go lw D gw m es s v u us) (hb : Below w.heap.size w wa) (hown : w4.ownsRow D 3 1 v' (s.gone.length + 1) (s.gone.map (Value.int .i64) ++ [.int .i64 x])) (hg : wa.grownBy w4 v.ownBlock) (hat : v'.ownBlock = v.ownBlock ∨ v'.ownBlock = some wa.heap.size) :
    (w4.cell? ⟨go, 0, none⟩ = some v ∧ w4.frozen? ⟨go, 0, none⟩ = false) ∧ DMem (w4.setCell ⟨go, 0, none⟩ v') W0 nr bl gn nm ct go lw D gw m es ⟨s.num, s.cnt, s.gone ++ [x], s.blk⟩ v' u us := by
  have ho := h.ord
  have hsz := h.sz
  have hbs := hb.size
  obtain ⟨o1, o2⟩ := h.own
  have hk : KeptBut (fun k => some k = v.ownBlock) w w4 := (KeptBut.of_whole _ hb).trans (KeptBut.of_grown hg)
  have hne : ∀ k, k < D → ¬ some k = v.ownBlock := fun k hk e => by have := o1 k e.symm; omega
  obtain ⟨a1, a2, a3, a4, a5, a6, a7, a8, a9⟩ := h.kept hk (fun k _ e => by have := o1 k e.symm; omega) (hne _ (by omega)) (hne _ (by omega)) (hne _ (by omega))
  have a8 := a8 (hne _ (by omega))
  have hks := kept_set w4 ⟨go, 0, none⟩ v'
  have hv' : ∀ g, v'.ownBlock = some g → D ≤ g := fun g hg' => by
    rcases hat with h1 | h1
    · exact (o1 g (h1.symm.trans hg')).1
    · rw [h1] at hg'; simp at hg'; omega
  have hblk : LLOwn w4 D (fun k => D ≤ k ∧ v'.ownBlock ≠ some k) u us s.blk := by
    have h1 := h.blk.swap (A' := fun k => D ≤ k ∧ v.ownBlock ≠ some k ∧ v'.ownBlock ≠ some k) (fun k hkl hA => ⟨hA.1, hA.2, fun e => by
      rcases hat with h1 | h1
      · exact hA.2 (h1.symm.trans e)
      · rw [h1] at e; simp at e; omega⟩)
    have h2 := h1.kept hk (fun k hA _ e => hA.2.1 e.symm)
    exact h2.swap (fun k _ hA => ⟨hA.1, hA.2.2⟩)
  refine ⟨a8, ⟨h.ord, by simpa using a1, a2.setCell (p := ⟨go, 0, none⟩) (by simp only; omega) _, h.near, ?_, ?_, ?_, ?_, (a7 (hne _ (by omega))).kept hks (by simp only; omega), ⟨World.cell?_setCell_same' _ _ _ (by rw [a8.1]; rfl), by rw [World.frozen?_setCell]; exact a8.2⟩, ?_, own_kept (S := fun k => k = go) ?_ hks (fun g hg' e => ?_), hblk.kept hks (fun k hA _ e => ?_)⟩⟩
  · rw [World.cell?_setCell_other _ _ _ _ (by simp <;> omega)]; exact a3
  · rw [World.cell?_setCell_other _ _ _ _ (by simp <;> omega)]; exact a4
  · rw [World.cell?_setCell_other _ _ _ _ (by simp <;> omega), World.frozen?_setCell]; exact a6 (hne _ (by omega))
  · rw [World.cell?_setCell_other _ _ _ _ (by simp <;> omega)]; exact a5
  · rw [World.cell?_setCell_other _ _ _ _ (by simp <;> omega), World.frozen?_setCell]; exact a9 (hne _ (by omega))
  · rw [List.length_append, List.map_append]; exact hown
  · have := hv' g hg'; omega
  · have := hA.1; simp only at e; omega
theorem own_take {w : World} {base : Nat} {e : TypeId} {g n cap k : Nat} {xs : List Value} (h : w.ownsRow base e 1 (.slice (some ⟨g, 0, none⟩) n cap) n xs) (hk : k ≤ n) : w.ownsRow base e 1 (.slice (some ⟨g, 0, none⟩) k cap) k (xs.take k) := by
  refine ⟨by rw [List.length_take, h.1]; omega, Or.inr ?_⟩
  rcases h.2 with ⟨hv, _⟩ | ⟨g', cap', cur, hv, hb, hg, h1, h2, h3, h4⟩
  · simp at hv
  · simp only [Value.slice.injEq, Option.some.injEq, Addr.mk.injEq, and_true, true_and] at hv
    obtain ⟨rfl, rfl⟩ := hv
    refine ⟨g, cap, cur, rfl, hb, hg, by omega, h2, h3, ?_⟩
    rw [← h4, List.take_take]
    congr 1
    omega
/-- A block cut off: it stands behind the others, those gone through end ahead of it. -/
theorem DMem.cut {w4 : World} {X : Obj} {u' : Value} {g n cap k : Nat} {ar : Option Addr} {cr : Nat} {L : List Int} (h : DMem w W0 nr bl gn nm ct go lw D gw m es s (.slice (some ⟨g, 0, none⟩) n cap) u us) (hn : n = s.gone.length) (hk : k ≤ n) (hI : IAt w ar L) (hA : ∀ g' off, ar = some ⟨g', off, none⟩ → 0 < L.length → D ≤ g' ∧ g ≠ g' ∧ u.ownBlock ≠ some g')
    (hown : w4.ownsRow D 28 1 u' (s.blk.length + 1) (us ++ [.slice ar L.length cr])) (hg : (w.alloc X).grownBy w4 u.ownBlock) (hat : u'.ownBlock = u.ownBlock ∨ u'.ownBlock = some (w.alloc X).heap.size) :
    (w4.cell? ⟨go, 0, none⟩ = some (.slice (some ⟨g, 0, none⟩) n cap) ∧ w4.frozen? ⟨go, 0, none⟩ = false) ∧ (w4.cell? ⟨bl, 0, none⟩ = some u ∧ w4.frozen? ⟨bl, 0, none⟩ = false) ∧ ((w4.setCell ⟨bl, 0, none⟩ u').cell? ⟨go, 0, none⟩ = some (.slice (some ⟨g, 0, none⟩) n cap) ∧ (w4.setCell ⟨bl, 0, none⟩ u').frozen? ⟨go, 0, none⟩ = false) ∧ DMem ((w4.setCell ⟨bl, 0, none⟩ u').setCell ⟨go, 0, none⟩ (.slice (some ⟨g, 0, none⟩) k cap)) W0 nr bl gn nm ct go lw D gw m es ⟨s.num, s.cnt, s.gone.take k, s.blk ++ [L]⟩ (.slice (some ⟨g, 0, none⟩) k cap) u' (us ++ [.slice ar L.length cr]) := by
  have ho := h.ord
  have hsz := h.sz
  obtain ⟨o1, o2⟩ := h.own
  have hgl := o1 g rfl
  have hb : Below w.heap.size w (w.alloc X) := (Below.refl _ _).alloc (Nat.le_refl _) _
  have hbs := hb.size
  have hkp : KeptBut (fun k => some k = u.ownBlock) w w4 := (KeptBut.of_whole _ hb).trans (KeptBut.of_grown hg)
  have hne : ∀ k, k < D → ¬ some k = u.ownBlock := fun k hk e => by have := o2 k e.symm; omega
  obtain ⟨a1, a2, a3, a4, a5, a6, a7, a8, a9⟩ := h.kept hkp (fun k _ e => by have := o2 k e.symm; omega) (hne _ (by omega)) (hne _ (by omega)) (hne _ (by omega))
  have a8 := a8 (hne _ (by omega))
  have a9 := a9 (hne _ (by omega))
  have hk1 := kept_set w4 ⟨bl, 0, none⟩ u'
  have hk2 := kept_set (w4.setCell ⟨bl, 0, none⟩ u') ⟨go, 0, none⟩ (.slice (some ⟨g, 0, none⟩) k cap)
  have hut : ∀ i, u'.ownBlock = some i → D ≤ i := fun i hi => by
    rcases hat with h1 | h1
    · exact (o2 i (h1.symm.trans hi)).1
    · rw [h1] at hi; simp at hi; simp at hbs; omega
  have hblk : LLOwn w4 D (fun k => D ≤ k ∧ some g ≠ some k) u' (us ++ [.slice ar L.length cr]) (s.blk ++ [L]) :=
    LLOwn.put (X := X) h.blk hI (fun g' off e h0 => by
      obtain ⟨q1, q2, q3⟩ := hA g' off e h0
      exact ⟨⟨q1, fun e => q2 (Option.some.inj e)⟩, q3⟩) ⟨by simp; omega, fun e => by simp at e; omega⟩ hown hg hat
  have hgone4 : w4.ownsRow D 3 1 (.slice (some ⟨g, 0, none⟩) n cap) n (s.gone.map (Value.int .i64)) := by
    have := own_kept h.gone hkp (fun i hi e => (o2 i e.symm).2.2 hi)
    rw [← hn] at this
    exact this
  have c8 : (w4.setCell ⟨bl, 0, none⟩ u').cell? ⟨go, 0, none⟩ = some (.slice (some ⟨g, 0, none⟩) n cap) := by rw [World.cell?_setCell_other _ _ _ _ (by simp <;> omega)]; exact a8.1
  refine ⟨a8, a9, ⟨c8, by rw [World.frozen?_setCell]; exact a8.2⟩, h.ord, by simpa using a1, (a2.setCell (p := ⟨bl, 0, none⟩) (by simp only; omega) _).setCell (p := ⟨go, 0, none⟩) (by simp only; omega) _, h.near, ?_, ?_, ?_, ?_, ((a7 (hne _ (by omega))).kept hk1 (by simp only; omega)).kept hk2 (by simp only; omega), ⟨World.cell?_setCell_same' _ _ _ (by rw [c8]; rfl), by rw [World.frozen?_setCell, World.frozen?_setCell]; exact a8.2⟩, ?_, own_kept (S := fun k => k = go) (own_kept (S := fun k => k = bl) ?_ hk1 (fun i hi e => ?_)) hk2 (fun i hi e => ?_), (hblk.kept hk1 (fun i hi _ e => ?_)).kept hk2 (fun i hi _ e => ?_)⟩
  · rw [World.cell?_setCell_other _ _ _ _ (by simp <;> omega), World.cell?_setCell_other _ _ _ _ (by simp <;> omega)]; exact a3
  · rw [World.cell?_setCell_other _ _ _ _ (by simp <;> omega), World.cell?_setCell_other _ _ _ _ (by simp <;> omega)]; exact a4
  · rw [World.cell?_setCell_other _ _ _ _ (by simp <;> omega), World.cell?_setCell_other _ _ _ _ (by simp <;> omega), World.frozen?_setCell, World.frozen?_setCell]; exact a6 (hne _ (by omega))
  · rw [World.cell?_setCell_other _ _ _ _ (by simp <;> omega), World.cell?_setCell_other _ _ _ _ (by simp <;> omega)]; exact a5
  · rw [World.cell?_setCell_other _ _ _ _ (by simp <;> omega), World.frozen?_setCell, World.frozen?_setCell]
    exact ⟨World.cell?_setCell_same' _ _ _ (by rw [a9.1]; rfl), a9.2⟩
  · have := own_take hgone4 hk
    rw [← List.map_take] at this
    have hl : (s.gone.take k).length = k := by rw [List.length_take]; omega
    simp only
    rw [hl]
    exact this
  · simp [Value.ownBlock] at hi; omega
  · simp [Value.ownBlock] at hi; omega
  · have := hi.1; simp only at e; omega
  · have := hi.1; simp only at e; omega
end
end Go.Proofs.Ytplhpinaadgkkaa
namespace Go.Proofs.Ytplhpinaadgkkaa
open Go.RowKit Go.Lib Go.Shelf Go.Sort

theorem own_holds {w : World} {B : Nat} {fv : Value} {F : List Int} (h : w.ownsRow B 3 1 fv F.length (F.map (Value.int .i64))) (h0 : 0 < F.length) : ∃ g cap, fv = .slice (some ⟨g, 0, none⟩) F.length cap ∧ F.length ≤ cap ∧ B ≤ g ∧ g < w.heap.size ∧ Holds (Value.int .i64) w g 0 F.toArray := by
  rcases h.2 with ⟨_, h0'⟩ | ⟨g, cap, cur, hv, hg, hgb, hc, _⟩
  · omega
  · refine ⟨g, cap, hv, hc, hg, (Array.getElem?_eq_some_iff.1 hgb).1, fun j hj => ?_⟩
    have hj' : j < F.length := by simpa using hj
    have := h.cells (g := g) (by rw [hv]; rfl) j (.int .i64 F[j]) (by rw [List.getElem?_map, List.getElem?_eq_getElem hj']; rfl)
    rw [add_at] at this
    refine ⟨?_, frozen_of_heap hgb _⟩
    rw [this, getElem!_pos F.toArray j hj]
    simp
theorem grown_sortI {w : World} {g n : Nat} {os : Array Obj} (d : Array Int) : w.grownBy (sortWorld (Value.int .i64) w g 0 n d os) (some g) := by
  refine ⟨rfl, rfl, rfl, ?_, fun k hk hne => ?_⟩
  · unfold sortWorld
    rw [size_grow]
    simp [putRow, mapBlock, Sort.ahead]
  · unfold sortWorld
    rw [heap_grow_old _ _ (by simpa [putRow, mapBlock, Sort.ahead] using hk)]
    have : g ≠ k := fun e => hne (by rw [e])
    simp [putRow, mapBlock, Sort.ahead, Array.getElem?_modify, this]
/-- slices.Sort of a row of the call's own. -/
theorem bsort_any (base : Nat) (fv : Value) (xs : List Int) (w : World) (hown : w.ownsRow base 3 1 fv xs.length (xs.map (Value.int .i64))) (h0 : 0 < xs.length) (hN : xs.length ≤ 1000000) :
    ∃ g cap, fv = .slice (some ⟨g, 0, none⟩) xs.length cap ∧ base ≤ g ∧ g < w.heap.size ∧ Calls Try.prog 56 #[.slice (some ⟨g, 0, none⟩) xs.length cap] w fun e w' => e = .returned (.tuple #[]) ∧ w.grownBy w' (some g) ∧ IAt w' (some ⟨g, 0, none⟩) (isrt xs) := by
  obtain ⟨g, cap, hv, hcap, hg, hgl, hH⟩ := own_holds hown h0
  have hs := Any.slices_Sort_int Try.sortI g 0 cap xs w hH hgl (by omega)
  change Calls Try.prog 56 _ _ _ at hs
  refine ⟨g, cap, hv, hg, hgl, hs.mono ?_⟩
  rintro e w2 ⟨rfl, q, os, hw2⟩
  have hw2' : w2 = sortWorld (Value.int .i64) w g 0 q (srtI xs).toArray os := hw2
  have hsz : (srtI xs).toArray.size = xs.toArray.size := by simp [srtI_len]
  have hgr : w.grownBy w2 (some g) := by rw [hw2']; exact grown_sortI _
  have hH2 : Holds (Value.int .i64) w2 g 0 (srtI xs).toArray := by
    rw [hw2']
    exact SW.holds (⟨q, os, rfl⟩ : SW (Value.int .i64) w g 0 (srtI xs).toArray (sortWorld (Value.int .i64) w g 0 q (srtI xs).toArray os)) hgl hH hsz
  refine ⟨rfl, hgr, fun _ => ⟨g, 0, rfl, Nat.lt_of_lt_of_le hgl hgr.size, fun k hk => ?_⟩⟩
  rw [← srtI_is] at hk
  have h := (hH2 k (by simpa using hk)).1
  rw [h, getElem!_pos (srtI xs).toArray k (by simpa using hk)]
  simp only [List.getElem_toArray]
  congr 2
  simp only [srtI_is]
end Go.Proofs.Ytplhpinaadgkkaa
