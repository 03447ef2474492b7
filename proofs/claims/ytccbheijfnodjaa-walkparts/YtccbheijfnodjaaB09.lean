/-
  slices.Collect(maps.Values(m)) of layer 4: the rows of the map, each once.
  The sort of layer 4: rows of numbers by their first ones: slices.SortFunc by its contract, its closure and cmp.Compare walked.
  carcanetlaw04.PartTells answers true, for any part that keeps the contracts.
-/
import Derived.Test.YtccbheijfnodjaaB08
import Derived.Test.YtccbheijfnodjaaB06
import Derived.Test.YtccbheijfnodjaaB02
import Derived.Test.YtccbheijfnodjaaB07
namespace Go.Proofs.Ytccbheijfnodjaa
open Go.RowKit Go.Lib Go.Shelf Go.Maps
attribute [local go_sem] Oper.semAt_some

theorem ownsMap_below {w W : World} {b n : Nat} {D' : DataW Value} (h : w.ownsMap Try.prog 3 heldR b n D') (hW : Below w.heap.size w W) : W.ownsMap Try.prog 3 heldR b n D' := by
  have hbl := h.lt
  obtain ⟨es, clock, hb, Ft, hs, hD⟩ := h
  exact ⟨es, clock, (hW.block b hbl).trans hb, Ft, hs, hD⟩
/-- The closure of maps.Values as an iterator. -/
theorem vals_stops (m : Nat) (hm : 1 ≤ m) (Bm b nn : Nat) (D' : DataW Value) (w : World) (hBm : Bm < w.heap.size) (hm0 : w.cell? ⟨Bm, 0, none⟩ = some (.map (some b))) (hown : w.ownsMap Try.prog 3 heldR b nn D') :
    SeqStopsK Fence.wide m Try.prog 80 #[.pointer (some ⟨Bm, 0, none⟩)] (fun x : Int × (Option Addr × Nat × Nat) => #[slv x.2]) KeepsWalks (Came1 D') (fun _ => True) (Maps.size D') w := fun l J Jx W hW hJ _ hY h0 =>
  vals1_in m hm l Bm b nn D' J Jx hY W hJ ((hW.cell (p := ⟨Bm, 0, none⟩) hBm).trans hm0) (ownsMap_below hown hW) h0
/-- What is collected: a row of slices of its own. -/
def CollIs (D' : DataW Value) (w w' : World) (v : Value) : Prop := ∃ xs, Came1 D' xs ∧ w'.ownsRow w.heap.size 25 1 v xs.length (xs.map (fun x => slv x.2)) ∧ Below w.heap.size w w'

set_option maxRecDepth 100000 in
set_option maxHeartbeats 2000000 in
theorem appendSeq_vals (Bm b nn : Nat) (D' : DataW Value) (w : World) (hsz : Maps.size D' ≤ 1000) (hBm : Bm < w.heap.size) (hm0 : w.cell? ⟨Bm, 0, none⟩ = some (.map (some b))) (hown : w.ownsMap Try.prog 3 heldR b nn D') :
    Calls Try.prog 79 #[.slice none 0 0, .func (.func 80) #[] #[.pointer (some ⟨Bm, 0, none⟩)]] w fun e w' => ∃ v, e = .returned v ∧ CollIs D' w w' v := by
  obtain ⟨i0, hi, hz0, hz1, hz2⟩ := info_parts Try.info25
  refine (callsIn_wide (n := 6)).1 ?_
  refine callsIn_of_wp_marks Try.func79 rfl trivial ?_ rfl
  simp only [Try.ntmps79, List.size_toArray, List.length_cons, List.length_nil, Nat.reduceAdd, Nat.reduceSub, Array.replicate_succ, Array.replicate_zero, List.push_toArray, List.append_toArray, List.nil_append, List.cons_append]
  gi_wp2_with fail
  have bO := Boxed.new w 36 (.slice none 0 0)
  have hB0 : Below w.heap.size w (w.alloc (.cells #[.slice none 0 0] 36)) := (Below.refl _ w).alloc (Nat.le_refl _) _
  refine wpIn_rangeFunc_ownG rfl (by omega) (gf := 80) (lb := #[.pointer (some ⟨Bm, 0, none⟩)]) rfl trivial (enters_of Try.func80 (by kernel_rfl) rfl)
    (vals_stops 5 (by omega) Bm b nn D' _ (by simp; omega) ((hB0.cell (p := ⟨Bm, 0, none⟩) hBm).trans hm0) (ownsMap_below hown hB0)) walksK_t (fun W l o o' h1 h2 h3 h4 => walksK_b (w := w.alloc (.cells #[.slice none 0 0] 36)) W l o o' h1 h2 h3 h4) (Below.refl _ _) (fun _ => rfl)
    (fun pre W => (∃ v, Boxed W w.heap.size 36 v ∧ W.ownsRow w.heap.size 25 1 v pre.length (pre.map (fun x => slv x.2)) ∧ True) ∧ Below w.heap.size w W)
    (fun _ _ _ => False)
    (OwnFrom.and (Own.from (holdsRow_own w.heap.size w.heap.size 36 25 1 (fun pre : List (Int × (Option Addr × Nat × Nat)) => pre.length) (fun pre => pre.map (fun x => slv x.2)) (fun _ _ => True)) _) (ownFrom_below (Nat.le_refl _) (by simp)))
    (fun _ _ _ _ _ hs _ _ => hs)
    ⟨⟨_, bO, World.ownsRow_nil _ _ _ _, trivial⟩, hB0⟩
    (fun z => { tmps := #[.slice none 0 0, .func (.func 80) #[] #[.pointer (some ⟨Bm, 0, none⟩)], .pointer (some ⟨w.heap.size, 0, none⟩), undef, .slice none 0 0, slv z.2, .func (.func 80) #[] #[.pointer (some ⟨Bm, 0, none⟩)], slv z.2, undef, undef, undef, undef, undef], defers := [] }) ?assign ?body ?done ?stop
  case assign =>
    intro l z W K hK
    gi_wp2
    exact hK
  case body =>
    rintro l pre ⟨z, ca, cn, cc⟩ W ⟨⟨v, hv, hrow, _⟩, hB⟩ hlt
    have hc := hv.cell
    have h1c : ∀ x ∈ [Value.slice ca cn cc], x.oneCell' = true := fun v hv => by simp at hv; rw [hv]; rfl
    have hlt' : pre.length < 1000 := by omega
    simp only [slv]
    gi_wp2_with (gi_at_builtin; refine wpListIn_append_own _ rfl _ _ 36 rfl w.heap.size 25 i0 (.slice none 0 0) 1 24 Try.underlying36 hi hz0 hz1 hz2 rfl (by decide) _ _ _ rfl (hrow.alloc _) ⟨W.heap.size, 0, none⟩ 1 1 [.slice ca cn cc] rfl rfl (cell_one_new _ _ _) h1c (by unfold maxLen; omega) (by omega) (by have := hB.size; simp; omega) ?_; intro v' w1 hown' hgrow _; obtain ⟨g', cap', rfl⟩ := ownsRow_succ hown'; obtain ⟨hv1, hv2, hr2, hk2, hb2⟩ := hv.appended (by decide) hrow hB.size (Nat.le_refl _) hown' hgrow; have hc1 := hv1.cell; have hf1 := hv1.frozen)
    exact ⟨hk2.from _, hk2.walks, ⟨_, hv2, by simpa [slv] using hr2, trivial⟩, hB.trans hb2⟩
  case done =>
    rintro D ys W hD hys ⟨⟨v, hv, hrow, _⟩, hB⟩ hK
    have hc := hv.cell
    have HC := hid hys
    clear hys
    gi_wp2
    refine ⟨by simp, .inl ⟨_, _, rfl, run_takeDeferred hK, ?_⟩⟩
    exact ⟨_, results_tmp rfl _ _ _, v, rfl, ys, HC.out, ownsRow_putObj hrow _ hK rfl, hB.trans (belowK_b (w := w) (Nat.le_refl _) W D _ _ (by simp at hD; omega) hK rfl rfl)⟩
  case stop =>
    rintro D c pre W _ _ h _
    exact h.elim

set_option maxHeartbeats 1000000 in
set_option maxRecDepth 100000 in
theorem collect_vals (Bm b nn : Nat) (D' : DataW Value) (w : World) (hsz : Maps.size D' ≤ 1000) (hBm : Bm < w.heap.size) (hm0 : w.cell? ⟨Bm, 0, none⟩ = some (.map (some b))) (hown : w.ownsMap Try.prog 3 heldR b nn D') :
    Calls Try.prog 68 #[.func (.func 80) #[] #[.pointer (some ⟨Bm, 0, none⟩)]] w fun e w' => ∃ v, e = .returned v ∧ CollIs D' w w' v := by
  have hap := hid (appendSeq_vals Bm b nn D' w hsz hBm hm0 hown)
  clear hm0 hown hsz
  go_enter Try.func68, Try.ntmps68
  go_wp2_with fail
  refine hap.out.mono ?_
  rintro e w1 ⟨v, rfl, hc⟩
  have HC := hid hc
  clear hc
  go_wp2
  go_ret
  exact ⟨v, rfl, HC.out⟩

set_option maxHeartbeats 1000000 in
theorem values_any (mb : Option Nat) (w : World) :
    Calls Try.prog 69 #[.map mb] w fun e w' => e = .returned (.func (.func 80) #[] #[.pointer (some ⟨w.heap.size, 0, none⟩)]) ∧ w' = w.alloc (.cells #[.map mb] 84) := by
  go_enter Try.func69, Try.ntmps69
  go_wp2
  go_ret
  exact ⟨rfl, rfl⟩
end Go.Proofs.Ytccbheijfnodjaa
namespace Go.Proofs.Ytccbheijfnodjaa
open Go.RowKit Go.Lib Go.Shelf Go.Sort

def cmpI (x y : Int) : Int := if x < y then -1 else if y < x then 1 else 0
set_option maxHeartbeats 400000 in
theorem isnan_any (x : Int) (w : World) : Calls Try.prog 83 #[.int .i64 x] w fun e w' => e = .returned (.bool false) ∧ w' = w := by
  go_enter Try.func83, Try.ntmps83
  go_wp2
  go_ret
  exact ⟨rfl, rfl⟩
set_option maxHeartbeats 400000 in
theorem compare_any (x y : Int) (w : World) : Calls Try.prog 73 #[.int .i64 x, .int .i64 y] w fun e w' => e = .returned (.int .i64 (cmpI x y)) ∧ w' = w := by
  have HN : Hid (∀ (z : Int) W, Calls Try.prog 83 #[.int .i64 z] W fun e w' => e = .returned (.bool false) ∧ w' = W) := fun z W => isnan_any z W
  unfold cmpI
  by_cases h : x < y
  · rw [if_pos h]
    go_enter Try.func73, Try.ntmps73
    go_wp2_with fail
    refine (HN.out _ _).mono ?_
    rintro e w1 ⟨rfl, rfl⟩
    go_wp2_with fail
    refine (HN.out _ _).mono ?_
    rintro e w2 ⟨rfl, rfl⟩
    go_wp2
    go_ret
    exact ⟨rfl, rfl⟩
  · rw [if_neg h]
    by_cases h2 : y < x
    · rw [if_pos h2]
      go_enter Try.func73, Try.ntmps73
      go_wp2_with fail
      refine (HN.out _ _).mono ?_
      rintro e w1 ⟨rfl, rfl⟩
      go_wp2_with fail
      refine (HN.out _ _).mono ?_
      rintro e w2 ⟨rfl, rfl⟩
      go_wp2
      go_ret
      exact ⟨rfl, rfl⟩
    · rw [if_neg h2]
      go_enter Try.func73, Try.ntmps73
      go_wp2_with fail
      refine (HN.out _ _).mono ?_
      rintro e w1 ⟨rfl, rfl⟩
      go_wp2_with fail
      refine (HN.out _ _).mono ?_
      rintro e w2 ⟨rfl, rfl⟩
      go_wp2
      go_ret
      exact ⟨rfl, rfl⟩
set_option maxHeartbeats 400000 in
theorem cmp1_any (g1 g2 n1 n2 c1 c2 : Nat) (x y : Int) (w : World) (h1 : w.cell? ⟨g1, 0, none⟩ = some (.int .i64 x)) (h2 : w.cell? ⟨g2, 0, none⟩ = some (.int .i64 y)) (l1 : 0 < n1) (l2 : 0 < n2) :
    Calls Try.prog 72 #[.slice (some ⟨g1, 0, none⟩) n1 c1, .slice (some ⟨g2, 0, none⟩) n2 c2] w fun e w' => e = .returned (.int .i64 (cmpI x y)) ∧ ∃ q, w' = w.drewN q := by
  have HC : Hid (∀ W, Calls Try.prog 73 #[.int .i64 x, .int .i64 y] W fun e w' => e = .returned (.int .i64 (cmpI x y)) ∧ w' = W) := fun W => compare_any x y W
  go_enter Try.func72, Try.ntmps72
  go_wp2_with fail
  go_quiet (first | (go_at_call 73; refine Calls.quiet_of_same (HC.out _)))
  go_wp2
  go_ret
  exact ⟨rfl, _, rfl⟩

/-- Rows that can be compared: each lies in a block of its own, and has a first number. -/
def Heads (w : World) (blk : Nat) (V : Nat → Value) (hd : Nat → Int) : Prop := ∀ k, ∃ g n c, V k = .slice (some ⟨g, 0, none⟩) n c ∧ 0 < n ∧ g < w.heap.size ∧ g ≠ blk ∧ w.cell? ⟨g, 0, none⟩ = some (.int .i64 (hd k))
theorem swoI (hd : Nat → Int) : SWO (ltOf (fun x y => cmpI (hd x) (hd y))) := by
  have e : ∀ x y, ltOf (fun x y => cmpI (hd x) (hd y)) x y = decide (hd x < hd y) := fun x y => by
    unfold ltOf cmpI
    apply decide_eq_decide.2
    show (if hd x < hd y then (-1 : Int) else if hd y < hd x then 1 else 0) < 0 ↔ hd x < hd y
    split
    · omega
    · split <;> omega
  exact ⟨fun x => by rw [e]; simp, fun x y z h h' => by rw [e] at *; simp at *; omega, fun x y z h h' => by rw [e] at *; simp at *; omega⟩
theorem grown_sortW {w : World} {enc : Nat → Value} {g n : Nat} {os : Array Obj} (d : Array Nat) : w.grownBy (sortWorld enc w g 0 n d os) (some g) := by
  refine ⟨rfl, rfl, rfl, ?_, fun k hk hne => ?_⟩
  · unfold sortWorld
    rw [size_grow]
    simp [putRow, mapBlock, Sort.ahead]
  · unfold sortWorld
    rw [heap_grow_old _ _ (by simpa [putRow, mapBlock, Sort.ahead] using hk)]
    have : g ≠ k := fun e => hne (by rw [e])
    simp [putRow, mapBlock, Sort.ahead, Array.getElem?_modify, this]
theorem cell_grown1 {w w' : World} {row : Option Nat} (h : w.grownBy w' row) {p : Addr} (hp : p.block < w.heap.size) (hne : some p.block ≠ row) : w'.cell? p = w.cell? p := World.cell?_of_block (w := w) (h.block p.block hp hne)

/-- What the sort leaves: the same rows, by their first numbers. -/
def SortIs (w w' : World) (blk N : Nat) (V : Nat → Value) (hd : Nat → Int) : Prop :=
  ∃ d : List Nat, d.Perm (List.range N) ∧ d.Pairwise (fun x y => ¬ hd y < hd x) ∧ (∀ j (h : j < d.length), w'.cell? ⟨blk, j, none⟩ = some (V d[j]) ∧ w'.frozen? ⟨blk, j, none⟩ = false) ∧ w.grownBy w' (some blk)

set_option maxHeartbeats 400000 in
theorem sort_rows (blk N cap : Nat) (V : Nat → Value) (hd : Nat → Int) (w : World) (hN : N ≤ 1000) (hblk : blk < w.heap.size) (hV : Heads w blk V hd) (hr : ∀ j, j < N → w.cell? ⟨blk, j, none⟩ = some (V j) ∧ w.frozen? ⟨blk, j, none⟩ = false) :
    Calls Try.prog 71 #[.slice (some ⟨blk, 0, none⟩) N cap, .func (.func 72) #[] #[]] w fun e w' => e = .returned (.tuple #[]) ∧ SortIs w w' blk N V hd := by
  have hsz : (Array.range N).size = N := by simp
  have eg : ∀ args w, (callFunc 72 args).run Try.prog w = .ok (.enter 72 args) w := enters_of Try.func72 (by kernel_rfl) rfl
  have hone : OneCell V := fun x => by obtain ⟨g, n, c, e, _⟩ := hV x; rw [e]; rfl
  have hH : Holds V w blk 0 (Array.range N) := fun j hj => by
    have hj' : j < N := by simpa using hj
    have e : (Array.range N)[j]! = j := by rw [getElem!_pos (Array.range N) j hj]; simp
    rw [Nat.zero_add, e]
    exact hr j hj'
  have hcmp : CmpReads Try.prog 72 #[] V (fun x y => cmpI (hd x) (hd y)) blk 0 (Array.range N).size w := fun m os dk _ x y => by
    obtain ⟨g1, n1, c1, e1, l1, b1, k1, d1⟩ := hV x
    obtain ⟨g2, n2, c2, e2, l2, b2, k2, d2⟩ := hV y
    rw [e1, e2]
    exact cmp1_any g1 g2 n1 n2 c1 c2 (hd x) (hd y) _ ((cell_grown1 (grown_sortW dk) (p := ⟨g1, 0, none⟩) b1 (fun e => k1 (Option.some.inj e))).trans d1) ((cell_grown1 (grown_sortW dk) (p := ⟨g2, 0, none⟩) b2 (fun e => k2 (Option.some.inj e))).trans d2) l1 l2
  have hcon := Any.slices_SortFunc Try.sortE V hone (fun x y => cmpI (hd x) (hd y)) (swoI hd) 72 #[] blk 0 cap (Array.range N) w eg hcmp.lays hH hblk (by rw [hsz]; omega)
  change Calls Try.prog 71 _ _ _ at hcon
  rw [hsz] at hcon
  refine hcon.mono ?_
  rintro e w' ⟨rfl, d', q, os, hp, hs, rfl⟩
  have hd' : d'.size = N := by rw [hp.1, hsz]
  refine ⟨rfl, d'.toList, ?_, ?_, fun j hj => ?_, grown_sortW d'⟩
  · have hperm := hp.2.2
    have e1 : (d'.extract 0 N).toList = d'.toList := by rw [show N = d'.size from hd'.symm]; simp
    have e2 : ((Array.range N).extract 0 N).toList = List.range N := by
      rw [Array.toList_extract]
      simp [List.take_of_length_le]
    rw [e1, e2] at hperm
    exact hperm
  · rw [List.pairwise_iff_getElem]
    intro i j hi hj hij
    have hi' : i < d'.size := by simpa using hi
    have hj' : j < d'.size := by simpa using hj
    have := hs i j (Nat.zero_le _) hij (by omega)
    rw [getElem!_pos d' i hi', getElem!_pos d' j hj'] at this
    intro hlt
    have h2 : ltOf (fun x y => cmpI (hd x) (hd y)) d'[j] d'[i] = true := by
      unfold ltOf cmpI
      have : hd d'[j] < hd d'[i] := by simpa using hlt
      simp [this]
    rw [h2] at this
    cases this
  · have hj' : j < d'.size := by simpa using hj
    have hw : Holds V (sortWorld V w blk 0 q d' os) blk 0 d' := SW.holds (⟨q, os, rfl⟩ : SW V w blk 0 d' (sortWorld V w blk 0 q d' os)) hblk hH (by rw [hd', hsz])
    have := hw j hj'
    rw [Nat.zero_add, getElem!_pos d' j hj'] at this
    simpa using this
end Go.Proofs.Ytccbheijfnodjaa
namespace Go.Proofs.Ytccbheijfnodjaa
open Go.RowKit Go.Lib

theorem EAt.at2 {w : World} {a : Option Addr} {l : List (Int × Int)} (h : EAt w a l) {k : Nat} (hk : k < l.length) : ∃ g off, a = some ⟨g, off, none⟩ ∧ g < w.heap.size ∧ w.cell? ⟨g, off + k * 2, none⟩ = some (.int .i64 l[k].1) ∧ w.cell? ⟨g, off + k * 2 + 1, none⟩ = some (.int .i64 l[k].2) := by
  obtain ⟨g, off, ha, hg, hc⟩ := h (by omega)
  exact ⟨g, off, ha, hg, (hc k hk).1, (hc k hk).2⟩
/-- Both parts, side by side. -/
structure TwoP (PA : World → Addr → Nat → (Nat → Nat) → (Nat → Prop) → Prop) (u w : World) (b0 : Nat) (p : Addr) (b g : Nat) (a : Option Addr) (n cap : Nat) (f : Nat → Nat) (S : Nat → Prop) : Prop where
  pa : PA w p n f S
  ge : ∀ k, S k → b0 ≤ k
  nb : ¬ S b
  ng : 0 < n → ¬ S g
  qa : QAt w b g a n cap f
  qb : b0 ≤ b
  qg : b0 ≤ g
  bel : Below b0 u w
theorem TwoP.next {PA : World → Addr → Nat → (Nat → Nat) → (Nat → Prop) → Prop} {u w w' : World} {b0 : Nat} {p : Addr} {b g : Nat} {a : Option Addr} {n cap : Nat} {f f' : Nat → Nat} {S : Nat → Prop} (h : TwoP PA u w b0 p b g a n cap f S) (hN : PNext PA S w w' p n f') (h0 : b0 ≤ u.heap.size) :
    ∃ S', PA w' p n f' S' ∧ (∀ k, S' k → b0 ≤ k) ∧ ¬ S' b ∧ (0 < n → ¬ S' g) ∧ QAt w' b g a n cap f ∧ Below b0 u w' := by
  obtain ⟨S', h1, h2, h3, h4, h5⟩ := hN.step h.ge h.bel (Nat.le_trans h0 h.bel.size)
  have hbl := block_lt_of_cell h.qa.box
  refine ⟨S', h1, h2, fun e => (h5 b e).elim h.nb (fun e => by simp at hbl; omega), fun hn e => (h5 g e).elim (h.ng hn) (fun e => by have := (h.qa.row hn).2.1; omega), h.qa.kept h4 h.nb h.ng, h3⟩
theorem TwoP.same {PA : World → Addr → Nat → (Nat → Nat) → (Nat → Prop) → Prop} {u w w' : World} {b0 : Nat} {p : Addr} {b g : Nat} {a : Option Addr} {n cap : Nat} {f : Nat → Nat} {S : Nat → Prop} (h : TwoP PA u w b0 p b g a n cap f S) (hN : PNext PA S w w' p n f) (h0 : b0 ≤ u.heap.size) : ∃ S', TwoP PA u w' b0 p b g a n cap f S' := by
  obtain ⟨S', h1, h2, h3, h4, h5, h6⟩ := h.next hN h0
  exact ⟨S', h1, h2, h3, h4, h5, h.qb, h.qg, h6⟩
end Go.Proofs.Ytccbheijfnodjaa
