/-
  graph.place: where an edge stands among rising ones, or would stand, and whether it does.
  slices.Clone, slices.Grow at nil, slices.Concat, at edges: walked.
  graph.Add, graph.Without: one edge more, one edge less.
-/
import Derived.Test.YtckcbaegehfkoaaB01
import Derived.BigQuiet
import Derived.Shelf.SlSortCmp.QuietGrown
import Derived.Lib.AppendZeros
import Derived.Lib.SliceRun
import Derived.Laws.AppendOwnNone
import Derived.Deep.DeepCutAuto
import Derived.Deep.RegionHeld3
namespace Go.Proofs.Ytckcbaegehfkoaa
open Go.RowKit Go.Lib Go.Sort

theorem count_mono (p : Nat → Bool) : ∀ n, (∀ a b, a ≤ b → b < n → p a = true → p b = true) → (List.range n).countP (fun i => !p i) ≤ n ∧ (∀ i, i < (List.range n).countP (fun i => !p i) → p i = false) ∧ (∀ i, (List.range n).countP (fun i => !p i) ≤ i → i < n → p i = true)
  | 0, _ => ⟨by simp, fun i h => absurd h (by simp), fun i _ h => absurd h (by omega)⟩
  | n + 1, hm => by
    obtain ⟨h1, h2, h3⟩ := count_mono p n (fun a b hab hb => hm a b hab (by omega))
    rw [List.range_succ, List.countP_append]
    cases hp : p n with
    | true =>
      have e : List.countP (fun i => !p i) [n] = 0 := by simp [hp]
      rw [e, Nat.add_zero]
      refine ⟨by omega, h2, fun i hi hn => ?_⟩
      by_cases h : i = n
      · rw [h]; exact hp
      · exact h3 i hi (by omega)
    | false =>
      have e : List.countP (fun i => !p i) [n] = 1 := by simp [hp]
      have hall : ∀ i, i ≤ n → p i = false := fun i hi => by
        cases hpi : p i with
        | false => rfl
        | true => rw [hm i n hi (by omega) hpi] at hp; exact absurd hp (by simp)
      have hc : (List.range n).countP (fun i => !p i) = n := by
        rcases Nat.lt_or_ge ((List.range n).countP (fun i => !p i)) n with h | h
        · have := h3 _ (Nat.le_refl _) h
          rw [hall _ (by omega)] at this
          exact absurd this (by simp)
        · omega
      rw [e, hc]
      exact ⟨Nat.le_refl _, fun i hi => hall i (by omega), fun i hi _ => by omega⟩

set_option maxHeartbeats 1000000 in
set_option maxRecDepth 100000 in
theorem placeF_any (B1 B2 g off n cap i : Nat) (x1 x2 e1 e2 : Int) (w : World) (hi : i < n) (c0 : w.cell? ⟨B1, 0, none⟩ = some (.slice (some ⟨g, off, none⟩) n cap)) (c1 : w.cell? ⟨B2, 0, none⟩ = some (.int .i64 e1)) (c2 : w.cell? ⟨B2, 1, none⟩ = some (.int .i64 e2)) (d0 : w.cell? ⟨g, off + i * 2, none⟩ = some (.int .i64 x1)) (d1 : w.cell? ⟨g, off + i * 2 + 1, none⟩ = some (.int .i64 x2)) :
    Calls Try.prog 92 #[.int .i64 i, .pointer (some ⟨B1, 0, none⟩), .pointer (some ⟨B2, 0, none⟩)] w fun e w' => e = .returned (.bool (!ltE (x1, x2) (e1, e2))) ∧ ∃ q os, w' = grow (w.drewN q) os := by
  have mixed : Try.prog.follows .mixedOrders = true := by kernel_rfl
  obtain ⟨r, hr⟩ := ex_eq (ltE (x1, x2) (e1, e2))
  have HC : ∀ W, Calls Try.prog 90 #[.agg #[.int .i64 x1, .int .i64 x2], .agg #[.int .i64 e1, .int .i64 e2]] W fun e w' => e = .returned (.bool r) ∧ ∃ q os, w' = grow (W.drewN q) os := fun W => (before_any (x1, x2) (e1, e2) W).mono fun _ _ ⟨h, os, hw⟩ => ⟨by rw [hr]; exact h, 0, os, hw⟩
  rw [← hr]
  have C0 := cell_grown (block_lt_of_cell c0) c0
  have C1 := cell_grown (block_lt_of_cell c1) c1
  have C2 := cell_grown (block_lt_of_cell c2) c2
  have D0 := cell_grown (block_lt_of_cell d0) d0
  have D1 := cell_grown (block_lt_of_cell d1) d1
  have q0 : (i : Int) < (n : Int) := by omega
  clear c0 c1 c2 d0 d1 hr
  go_enter Try.func92, Try.ntmps92
  go_wp2_with fail
  go_quiet_grown (refine Calls.grown_of (HC _))
  go_wp2
  go_ret
  exact ⟨rfl, _, _, rfl⟩

/-- What place tells: how many edges stand ahead, and whether the edge is one of them. -/
structure PlaceAt (es : List (Int × Int)) (e : Int × Int) (at_ : Nat) (has : Bool) : Prop where
  le : at_ ≤ es.length
  ahead : ∀ i (h : i < es.length), i < at_ → ltE es[i] e = true
  behind : ∀ i (h : i < es.length), at_ ≤ i → ltE es[i] e = false
  has_iff : has = true ↔ ∃ h : at_ < es.length, es[at_] = e
theorem PlaceAt.mem {es : List (Int × Int)} {e : Int × Int} {at_ : Nat} {has : Bool} (h : PlaceAt es e at_ has) (hr : Rises es) : has = true ↔ e ∈ es := by
  rw [h.has_iff]
  constructor
  · rintro ⟨h1, h2⟩; rw [← h2]; exact List.getElem_mem _
  · intro he
    obtain ⟨i, hi, rfl⟩ := List.getElem_of_mem he
    have h1 : ¬ i < at_ := fun hlt => by have := h.ahead i hi hlt; rw [ltE_irrefl] at this; exact absurd this (by simp)
    have h2 : ¬ at_ < i := fun hlt => by
      have h3 := rises_at hr hlt hi
      rw [h.behind at_ (by omega) (Nat.le_refl _)] at h3
      exact absurd h3 (by simp)
    obtain rfl : at_ = i := by omega
    exact ⟨hi, rfl⟩

theorem same_or' (x y : Int × Int) : (x.1 = y.1 ∧ x.2 = y.2) ∨ (x.1 = y.1 ∧ (x.2 == y.2) = false) ∨ (x.1 == y.1) = false := by
  by_cases h : x.1 = y.1
  · by_cases h2 : x.2 = y.2
    · exact Or.inl ⟨h, h2⟩
    · exact Or.inr (Or.inl ⟨h, beq_eq_false_iff_ne.2 h2⟩)
  · exact Or.inr (Or.inr (beq_eq_false_iff_ne.2 h))

set_option maxHeartbeats 1000000 in
set_option maxRecDepth 100000 in
theorem place_any (a : Option Addr) (cap : Nat) (es : List (Int × Int)) (e1 e2 : Int) (w : World) (hN : es.length ≤ 1000000) (hE : EAt w a es) (hr : Rises es) :
    Calls Try.prog 65 #[.slice a es.length cap, .agg #[.int .i64 e1, .int .i64 e2]] w fun e w' => ∃ (at_ : Nat) (has : Bool), e = .returned (.tuple #[.int .i64 at_, .bool has]) ∧ PlaceAt es (e1, e2) at_ has ∧ RowKit.Below w.heap.size w w' := by
  obtain ⟨W0, hW0⟩ : ∃ W0, W0 = (w.alloc (.cells #[.slice a es.length cap] 22)).alloc (.cells #[.int .i64 e1, .int .i64 e2] 59) := ⟨_, rfl⟩
  have s1 : (w.alloc (.cells #[.slice a es.length cap] 22)).heap.size = w.heap.size + 1 := by simp
  have hs0 : W0.heap.size = w.heap.size + 1 + 1 := by rw [hW0]; simp
  have hB0 : RowKit.Below w.heap.size w W0 := by rw [hW0]; exact ((Below.refl _ w).alloc (Nat.le_refl _) _).alloc (by omega) _
  have o1 : W0.heap[w.heap.size]? = some (.cells #[.slice a es.length cap] 22) := by
    rw [hW0, Below.heap_alloc _ _ _ (by omega)]; exact heap_alloc_new _ _
  have o2 : W0.heap[w.heap.size + 1]? = some (.cells #[.int .i64 e1, .int .i64 e2] 59) := by
    rw [hW0, ← s1]; exact heap_alloc_new _ _
  have hE0 : EAt W0 a es := hE.below hB0
  have ca : W0.cell? ⟨w.heap.size, 0, none⟩ = some (.slice a es.length cap) := cell_of_heap o1 0
  have c1 : W0.cell? ⟨w.heap.size + 1, 0, none⟩ = some (.int .i64 e1) := cell_of_heap o2 0
  have c2 : W0.cell? ⟨w.heap.size + 1, 1, none⟩ = some (.int .i64 e2) := cell_of_heap o2 1
  obtain ⟨p, hp⟩ : ∃ p : Nat → Bool, p = fun i => !ltE (es[i]?.getD (0, 0)) (e1, e2) := ⟨_, rfl⟩
  have eg : ∀ args w, (callFunc 92 args).run Try.prog w = .ok (.enter 92 args) w := enters_of Try.func92 (by kernel_rfl) rfl
  have hmono : ∀ a b, a ≤ b → b < es.length → p a = true → p b = true := fun i j hij hj h => by
    rw [hp] at h ⊢
    simp only [Bool.not_eq_true'] at h ⊢
    rw [List.getElem?_eq_getElem (show i < es.length by omega)] at h
    rw [List.getElem?_eq_getElem hj]
    simp only [Option.getD_some] at h ⊢
    by_cases e : i = j
    · subst e; exact h
    · have := rises_at hr (i := i) (j := j) (by omega) hj
      exact ltE_ntrans (ltE_asymm this) h
  have hS := Any.sort_Search Try.search 92 #[.pointer (some ⟨w.heap.size, 0, none⟩), .pointer (some ⟨w.heap.size + 1, 0, none⟩)] es.length p W0 eg (by omega)
    (fun m os i hi => by
      obtain ⟨g, off, rfl, hg, hc⟩ := hE0 (by omega)
      obtain ⟨d0, d1⟩ := hc i hi
      have e0 : p i = !ltE (es[i].1, es[i].2) (e1, e2) := by rw [hp]; simp only []; rw [List.getElem?_eq_getElem hi]; rfl
      rw [e0]
      exact placeF_any w.heap.size (w.heap.size + 1) g off es.length cap i es[i].1 es[i].2 e1 e2 _ hi (cell_grown (block_lt_of_cell ca) ca m os) (cell_grown (block_lt_of_cell c1) c1 m os) (cell_grown (block_lt_of_cell c2) c2 m os) (cell_grown (block_lt_of_cell d0) d0 m os) (cell_grown (block_lt_of_cell d1) d1 m os)) hmono
  change Calls Try.prog 91 _ _ _ at hS
  obtain ⟨hcl, hca, hcb⟩ := count_mono p es.length hmono
  obtain ⟨at_, hat⟩ := ex_eq ((List.range es.length).countP (fun i => !p i))
  rw [← hat] at hS hcl hca hcb
  have HA : Hid (∀ i (h : i < es.length), i < at_ → ltE es[i] (e1, e2) = true) := fun i h hi => by
    have := hca i hi
    rw [hp] at this
    simpa [List.getElem?_eq_getElem h] using this
  have HBH : Hid (∀ i (h : i < es.length), at_ ≤ i → ltE es[i] (e1, e2) = false) := fun i h hi => by
    have := hcb i hi h
    rw [hp] at this
    simpa [List.getElem?_eq_getElem h] using this
  obtain ⟨N, hNe⟩ := ex_eq es.length
  have HN : Hid (N = es.length) := hNe
  have HE0 : Hid (EAt W0 a es) := hE0
  have HW0 : Hid (W0 = (w.alloc (.cells #[.slice a N cap] 22)).alloc (.cells #[.int .i64 e1, .int .i64 e2] 59)) := by
    show W0 = _
    rw [hNe]; exact hW0
  rw [← hNe] at hS hcl ca hN ⊢
  have HS : Hid (Calls Try.prog 91 #[.int .i64 N, .func (.func 92) #[] #[.pointer (some ⟨w.heap.size, 0, none⟩), .pointer (some ⟨w.heap.size + 1, 0, none⟩)]] W0 fun e w' => e = .returned (.int .i64 at_) ∧ ∃ q os, w' = grow (W0.drewN q) os) := hS
  clear hS hca hcb hat hp hmono hE hE0 hNe hW0 o1 o2 s1 eg hr
  have hB2 : Hid (∀ q os, RowKit.Below w.heap.size w (grow (W0.drewN q) os)) := fun q os => hB0.trans (below_grown_sl w.heap.size W0 q os (by omega))
  go_enter Try.func65, Try.ntmps65
  go_wp2_with fail
  rw [← HW0.out]
  refine HS.out.mono ?_
  rintro e w1 ⟨rfl, q, os, hw1⟩
  have k0 : w1.cell? ⟨w.heap.size, 0, none⟩ = some (.slice a N cap) := by rw [hw1]; exact cell_grown (block_lt_of_cell ca) ca q os
  have k1 : w1.cell? ⟨w.heap.size + 1, 0, none⟩ = some (.int .i64 e1) := by rw [hw1]; exact cell_grown (block_lt_of_cell c1) c1 q os
  have k2 : w1.cell? ⟨w.heap.size + 1, 1, none⟩ = some (.int .i64 e2) := by rw [hw1]; exact cell_grown (block_lt_of_cell c2) c2 q os
  have hbw : RowKit.Below w.heap.size w w1 := by rw [hw1]; exact hB2.out q os
  have hb01 : RowKit.Below W0.heap.size W0 w1 := by rw [hw1]; exact below_grown_sl _ W0 q os (Nat.le_refl _)
  have HE1 : Hid (EAt w1 a es) := HE0.out.below hb01
  clear hw1 ca c1 c2 HS HW0 hB2 hB0 HE0 hb01
  by_cases hlt : at_ < N
  · have hkr : at_ < es.length := by rw [← HN.out]; exact hlt
    obtain ⟨g, off, rfl, hg, hc⟩ := HE1.out (by omega)
    obtain ⟨d0, d1⟩ := hc at_ hkr
    have hso := same_or' es[at_] (e1, e2)
    obtain ⟨x1, hx1⟩ := ex_eq es[at_].1
    obtain ⟨x2, hx2⟩ := ex_eq es[at_].2
    rw [← hx1] at d0
    rw [← hx2] at d1
    rw [← hx1, ← hx2] at hso
    simp only [] at hso
    have HX : Hid (x1 = es[at_].1 ∧ x2 = es[at_].2) := ⟨hx1, hx2⟩
    have q0 : (at_ : Int) < (N : Int) := by omega
    clear hc hx1 hx2
    rcases hso with ⟨h1, h2⟩ | ⟨h1, h2⟩ | h1
    · subst h1 h2
      go_wp2
      go_quiet (fail)
      go_wp2
      go_ret2
      exact ⟨at_, true, rfl, ⟨by rw [← HN.out]; exact hcl, HA.out, HBH.out, ⟨fun _ => ⟨hkr, Prod.ext HX.out.1.symm HX.out.2.symm⟩, fun _ => rfl⟩⟩, below_drewN hbw _⟩
    · subst h1
      go_wp2
      go_quiet (fail)
      go_wp2
      go_ret2
      refine ⟨at_, false, rfl, ⟨by rw [← HN.out]; exact hcl, HA.out, HBH.out, ⟨fun h => absurd h (by simp), fun ⟨_, h⟩ => ?_⟩⟩, below_drewN hbw _⟩
      have : x2 = e2 := HX.out.2.trans (congrArg Prod.snd h)
      rw [this] at h2
      simp at h2
    · go_wp2
      go_quiet (fail)
      go_wp2
      go_ret2
      refine ⟨at_, false, rfl, ⟨by rw [← HN.out]; exact hcl, HA.out, HBH.out, ⟨fun h => absurd h (by simp), fun ⟨_, h⟩ => ?_⟩⟩, below_drewN hbw _⟩
      have : x1 = e1 := HX.out.1.trans (congrArg Prod.fst h)
      rw [this] at h1
      simp at h1
  · have q0 : ¬ (at_ : Int) < (N : Int) := by omega
    go_wp2
    go_quiet (fail)
    go_wp2
    go_ret2
    refine ⟨at_, false, rfl, ⟨by rw [← HN.out]; exact hcl, HA.out, HBH.out, ⟨fun h => absurd h (by simp), fun ⟨h, _⟩ => ?_⟩⟩, below_drewN hbw _⟩
    rw [← HN.out] at h
    exact absurd h hlt
end Go.Proofs.Ytckcbaegehfkoaa
namespace Go.Proofs.Ytckcbaegehfkoaa
open Go.RowKit Go.Lib

theorem EAt.news {w : World} {ad : Addr} {es : List (Int × Int)} (h : EAt w (some ad) es) : ∀ j u, (cellsE es)[j]? = some u → w.cell? (ad.add j) = some u := by
  intro j u hu
  have hj : j < es.length * 2 := by rw [← cellsE_len]; exact (List.getElem?_eq_some_iff.1 hu).1
  obtain ⟨g, off, e, _, _⟩ := h (by omega)
  obtain rfl := Option.some.inj e
  rw [add_at]
  exact h.cells j u hu
theorem eat_none {w : World} {es : List (Int × Int)} (h : EAt w none es) : es = [] := by
  by_cases h0 : 0 < es.length
  · obtain ⟨_, _, e, _⟩ := h h0
    cases e
  · exact List.eq_nil_of_length_eq_zero (by omega)
theorem own_empty {w : World} (o : Obj) (ho : o = .cells #[] 59 (0, 0)) : (w.alloc o).ownsRow w.heap.size 59 2 (.slice (some ⟨w.heap.size, 0, none⟩) 0 0) 0 [] := by
  subst ho
  exact ⟨rfl, Or.inr ⟨w.heap.size, 0, #[], rfl, Nat.le_refl _, heap_alloc_new _ _, Nat.le_refl _, Nat.zero_le _, rfl, rfl⟩⟩

theorem own_ge {w : World} {base : Nat} {e : TypeId} {size n cap : Nat} {a : Option Addr} {xs : List Value} (h : w.ownsRow base e size (.slice a n cap) n xs) : ∀ g off, a = some ⟨g, off, none⟩ → base ≤ g := fun g off ha => by
  rcases h.2 with ⟨hv, _⟩ | ⟨g', cap', cur, hv, hb, _⟩
  · simp only [Value.slice.injEq] at hv
    rw [hv.1] at ha
    cases ha
  · simp only [Value.slice.injEq] at hv
    rw [hv.1] at ha
    simp only [Option.some.injEq, Addr.mk.injEq, and_true] at ha
    omega

set_option maxHeartbeats 1000000 in
theorem clone_any (a : Option Addr) (cap : Nat) (es : List (Int × Int)) (w : World) (hN : es.length ≤ 1000000) (hE : EAt w a es) (hS : Sl a cap es.length) :
    Calls Try.prog 66 #[.slice a es.length cap] w fun e w' => ∃ a' cap', e = .returned (.slice a' es.length cap') ∧ Sl a' cap' es.length ∧ EAt w' a' es ∧ (∀ g off, a' = some ⟨g, off, none⟩ → w.heap.size ≤ g) ∧ Below w.heap.size w w' := by
  obtain ⟨i0, hi, hz0, hz1, hz2⟩ := info_parts Try.info59
  have q22 : ∀ (w : World) (a : Option Addr) (n c n' c' : Nat), (binOp .eql 22 (.slice a n c) (.slice none n' c')).run Try.prog w = .ok (.bool a.isNone) w := fun w a n c n' c' => Lib.run_eql_slice_nil w _ _ a n c n' c' Try.underlying22
  cases a with
  | none =>
    have he := eat_none hE
    subst he
    obtain ⟨_, h0, _⟩ := hS
    obtain rfl := h0 rfl
    clear hi hz0 hz1 hz2 hE
    go_enter Try.func66, Try.ntmps66
    go_wp2
    go_ret
    exact ⟨none, 0, rfl, sl_nil, eat_nil _ _, (fun _ _ h => by cases h), Below.refl _ _⟩
  | some ad =>
    have HE : Hid (EAt w (some ad) es) := hE
    obtain ⟨N, hNe⟩ := ex_eq es.length
    have HN : Hid (N = es.length) := hNe
    rw [← hNe] at hN ⊢
    clear hE hS hNe
    go_enter Try.func66, Try.ntmps66
    have HOE := own_empty (w := w) (.cells #[] 59) rfl
    have HEA : Hid (EAt (w.alloc (.cells #[] 59)) (some ad) es) := HE.out.below ((Below.refl _ _).alloc (Nat.le_refl _) _)
    have hlen : (cellsE es).length = N * 2 := by rw [cellsE_len, ← HN.out]
    obtain ⟨cs, hcs⟩ := ex_eq (cellsE es)
    have HCS : Hid (cs = cellsE es) := hcs
    rw [← hcs] at hlen
    clear hcs
    go_wp2_with (at_builtin; refine wpList_append_own _ rfl _ _ 22 rfl w.heap.size 59 i0 _ 2 16 Try.underlying22 hi hz0 hz1 hz2 rfl (by decide) _ _ _ rfl HOE ad N cap cs rfl hlen ?c1 ?c2 ?c3 ?c4 ?c5 ?_)
    case c1 => rw [HCS.out]; exact HEA.out.news
    case c2 => rw [HCS.out]; exact cellsE_one es
    case c3 => unfold maxLen; omega
    case c4 => omega
    case c5 => simp
    intro v' w4 hown4 hgrow _
    have hb4 : Below w.heap.size w w4 := Below.grown ((Below.refl _ _).alloc (Nat.le_refl _) _) hgrow (by simp) (fun j hj => by simp only [Value.ownBlock, Option.some.injEq] at hj; omega)
    have HO : Hid (w4.ownsRow w.heap.size 59 2 v' es.length (cellsE es)) := by
      show w4.ownsRow w.heap.size 59 2 v' es.length (cellsE es)
      rw [← HCS.out, ← HN.out]
      simpa using hown4
    clear hgrow hown4 hi hz0 hz1 hz2 HOE
    go_wp2
    go_ret
    obtain ⟨a', cap', rfl, hsl, hea⟩ := eat_own HO.out
    exact ⟨a', cap', by rw [HN.out]; rfl, by rw [HN.out]; exact hsl, hea, own_ge HO.out, hb4⟩

set_option maxHeartbeats 1000000 in
theorem growN_any (n : Nat) (w : World) (hn : n ≤ 1000000) :
    Calls Try.prog 93 #[.slice none 0 0, .int .i64 n] w fun e w' => ∃ v, e = .returned v ∧ w'.ownsRow w.heap.size 59 2 v 0 [] ∧ Below w.heap.size w w' := by
  by_cases h0 : n = 0
  · subst h0
    go_enter Try.func93, Try.ntmps93
    go_wp2
    go_ret
    exact ⟨_, rfl, World.ownsRow_nil _ _ _ _, Below.refl _ _⟩
  · obtain ⟨i0, hi, hz0, hz1, hz2⟩ := info_parts Try.info59
    have hpos : 0 < n := by omega
    have hr : ∀ W ty, (Builtin.append_ #[22, 3] ty #[.slice none 0 0, .int .i64 n]).run Try.prog W = .ok (.slice (some ⟨W.heap.size, 0, none⟩) n (grownCap W n 0 59)) (W.drew.alloc (.cells (Builtin.zeroCells (Value.agg #[.int .i64 0, .int .i64 0]).cells n ++ Builtin.zeroCells (Value.agg #[.int .i64 0, .int .i64 0]).cells (grownCap W n 0 59 - n)) 59)) := fun W ty =>
      run_append_nil_zeros W _ _ ty _ i0 _ .i64 .i64 Try.underlying22 Try.underlying3 hi hz0 n hpos (by rw [hz1]; decide) (by omega) (by rw [hz2]; omega)
    have hc1 := grownCap_ge w n 0 59
    have hc2 := grownCap_le_maxLen w n 0 59 (by unfold maxLen; omega)
    obtain ⟨C, hC⟩ := ex_eq (grownCap w n 0 59)
    obtain ⟨cur, hcur⟩ := ex_eq (Builtin.zeroCells (Value.agg #[.int .i64 0, .int .i64 0]).cells n ++ Builtin.zeroCells (Value.agg #[.int .i64 0, .int .i64 0]).cells (C - n))
    have hr' : ∀ ty, (Builtin.append_ #[22, 3] ty #[.slice none 0 0, .int .i64 n]).run Try.prog w = .ok (.slice (some ⟨w.heap.size, 0, none⟩) n C) (w.drew.alloc (.cells cur 59)) := fun ty => by rw [hr w ty, hcur, hC]
    rw [← hC] at hc1 hc2
    have hsz : cur.size = C * 2 := by
      rw [hcur]
      simp [Builtin.zeroCells, Value.cells]
      omega
    have HO : Hid ((w.drew.alloc (.cells cur 59)).ownsRow w.heap.size 59 2 (.slice (some ⟨w.heap.size, 0, none⟩) 0 C) 0 []) := ⟨rfl, Or.inr ⟨w.heap.size, C, cur, rfl, Nat.le_refl _, heap_alloc_new _ _, Nat.zero_le _, hc2, hsz, rfl⟩⟩
    have hb : Below w.heap.size w (w.drew.alloc (.cells cur 59)) := ((Below.refl _ w).drew).alloc (Nat.le_refl _) _
    clear hr hcur hC hi hz0 hz1 hz2 hsz
    go_enter Try.func93, Try.ntmps93
    go_wp2_with (at_builtin; refine wpList_append_run _ rfl _ _ 22 3 rfl _ _ rfl rfl _ _ (hr' _) ?_)
    go_ret
    exact ⟨_, rfl, HO.out, hb⟩

/-- The parts' edges, one part behind the other. -/
def cat : List (Option Addr × Nat × List (Int × Int)) → List (Int × Int)
  | [] => []
  | p :: ps => p.2.2 ++ cat ps
theorem cat_append (a b : List (Option Addr × Nat × List (Int × Int))) : cat (a ++ b) = cat a ++ cat b := by
  induction a with
  | nil => rfl
  | cons p a ih => rw [List.cons_append, cat, cat, ih, List.append_assoc]
theorem cat_take {ps : List (Option Addr × Nat × List (Int × Int))} {k : Nat} (h : k < ps.length) : cat (ps.take (k + 1)) = cat (ps.take k) ++ ps[k].2.2 := by
  rw [List.take_succ_eq_append_getElem h, cat_append, cat, cat, List.append_nil]
theorem cat_le (ps : List (Option Addr × Nat × List (Int × Int))) (k : Nat) : (cat (ps.take k)).length ≤ (cat ps).length := by
  have h : cat ps = cat (ps.take k) ++ cat (ps.drop k) := by rw [← cat_append, List.take_append_drop]
  rw [h, List.length_append]
  omega

set_option maxHeartbeats 2000000 in
set_option maxRecDepth 100000 in
theorem concat_any (gs capS : Nat) (ps : List (Option Addr × Nat × List (Int × Int))) (w : World) (hg : gs < w.heap.size) (hm : ps.length ≤ 10) (hc : ∀ j (h : j < ps.length), w.cell? ⟨gs, j, none⟩ = some (.slice ps[j].1 ps[j].2.2.length ps[j].2.1)) (hE : ∀ p ∈ ps, EAt w p.1 p.2.2 ∧ (p.1 = none → p.2.1 = 0)) (hN : (cat ps).length ≤ 1000000) :
    Calls Try.prog 67 #[.slice (some ⟨gs, 0, none⟩) ps.length capS] w fun e w' => ∃ a cap, e = .returned (.slice a (cat ps).length cap) ∧ Sl a cap (cat ps).length ∧ EAt w' a (cat ps) ∧ (∀ g off, a = some ⟨g, off, none⟩ → w.heap.size ≤ g) ∧ Below w.heap.size w w' := by
  obtain ⟨i0, hi, hz0, hz1, hz2⟩ := info_parts Try.info59
  obtain ⟨M, hMe⟩ := ex_eq ps.length
  have HM : Hid (M = ps.length) := hMe
  have HC : Hid (∀ j (h : j < ps.length), w.cell? ⟨gs, j, none⟩ = some (.slice ps[j].1 ps[j].2.2.length ps[j].2.1)) := hc
  have HE : Hid (∀ p ∈ ps, EAt w p.1 p.2.2 ∧ (p.1 = none → p.2.1 = 0)) := hE
  rw [← hMe] at hm ⊢
  obtain ⟨T, hT⟩ := ex_eq (cat ps).length
  have HT : Hid (T = (cat ps).length) := hT
  rw [← hT] at hN ⊢
  clear hMe hc hE hT
  go_enter Try.func67, Try.ntmps67
  go_wp2
  go_loopw [3, 11] (fun s i wr => ∃ k : Nat, k ≤ M ∧ i = .int .i64 k ∧ s = .int .i64 (cat (ps.take k)).length ∧ Hid (wr = w)) (fun _ i _ => M - (RowKit.intOf i).toNat)
  case atStart => exact ⟨0, Nat.zero_le _, rfl, rfl, (rfl : _ = _)⟩
  case round =>
    obtain ⟨k, hk, rfl, rfl, hw⟩ := hrel
    have hw2 := hw.out.symm
    clear hw
    subst hw2
    by_cases hlt : k < M
    · have hkr : k < ps.length := by rw [← HM.out]; exact hlt
      have c0 := HC.out k hkr
      have h1 := cat_le ps (k + 1)
      rw [← HT.out] at h1
      have h2 : (cat (ps.take (k + 1))).length = (cat (ps.take k)).length + ps[k].2.2.length := by rw [cat_take hkr, List.length_append]
      obtain ⟨x, hx⟩ := ex_eq (cat (ps.take k)).length
      obtain ⟨y, hy⟩ := ex_eq ps[k].2.2.length
      obtain ⟨ak, hak⟩ := ex_eq ps[k].1
      obtain ⟨ck, hck⟩ := ex_eq ps[k].2.1
      rw [← hx, ← hy] at h2
      rw [← hy, ← hak, ← hck] at c0
      rw [← hx]
      have HH : Hid ((cat (ps.take (k + 1))).length = x + y) := h2
      have hxy : x + y ≤ 1000000 := by omega
      clear hx hy hak hck h1 h2
      go_wp2
      go_roundw
      case rel => exact ⟨k + 1, by omega, by go_num, by rw [HH.out]; go_num, trivial⟩
      case measure => simp [RowKit.intOf]; omega
    · obtain rfl : k = M := by omega
      have hT2 : (cat (ps.take k)).length = T := by rw [HT.out, HM.out, List.take_length]
      rw [hT2]
      go_wp2_with fail
      refine (growN_any T _ hN).mono ?_
      rintro e w1 ⟨v, rfl, hown, hb1⟩
      have HO : Hid (w1.ownsRow w.heap.size 59 2 v 0 []) := hown
      clear hown
      go_wp2
      go_loopw [6, 27] (fun v i wz => ∃ k2 : Nat, k2 ≤ k ∧ i = .int .i64 k2 ∧ Hid (wz.ownsRow w.heap.size 59 2 v (cat (ps.take k2)).length (cellsE (cat (ps.take k2)))) ∧ Below w.heap.size w wz) (fun _ i _ => k - (RowKit.intOf i).toNat)
      case atStart => exact ⟨0, Nat.zero_le _, rfl, HO, hb1⟩
      case round =>
        obtain ⟨k2, hk2, rfl, hown, hbr⟩ := hrel
        have hsr := hbr.size
        by_cases hlt2 : k2 < k
        · have hkr : k2 < ps.length := by rw [← HM.out]; exact hlt2
          have c0 := (hbr.cell (p := ⟨gs, k2, none⟩) hg).trans (HC.out k2 hkr)
          obtain ⟨hEk, hSk⟩ := HE.out ps[k2] (List.getElem_mem _)
          have h1 := cat_le ps (k2 + 1)
          rw [← HT.out] at h1
          have h3 := cat_take hkr
          have h2 : (cat (ps.take (k2 + 1))).length = (cat (ps.take k2)).length + ps[k2].2.2.length := by rw [h3, List.length_append]
          obtain ⟨P, hP⟩ := ex_eq (cat (ps.take k2))
          obtain ⟨E, hE2⟩ := ex_eq ps[k2].2.2
          obtain ⟨ak, hak⟩ := ex_eq ps[k2].1
          obtain ⟨ck, hck⟩ := ex_eq ps[k2].2.1
          rw [← hP] at h2 h3 hown
          rw [← hE2, ← hak] at hEk
          rw [← hak, ← hck] at hSk
          rw [← hE2, ← hak, ← hck] at c0
          rw [← hE2] at h2 h3
          have HH : Hid (cat (ps.take (k2 + 1)) = P ++ E) := h3
          have hxy : P.length + E.length ≤ 1000000 := by omega
          have hEr : EAt wr ak E := hEk.below hbr
          clear hP hE2 hak hck h1 h2 h3 hEk
          cases ak with
          | none =>
            have he := eat_none hEr
            subst he
            obtain rfl := hSk rfl
            have HO2 : Hid (wr.ownsRow w.heap.size 59 2 u6 (cat (ps.take (k2 + 1))).length (cellsE (cat (ps.take (k2 + 1))))) := by
              show wr.ownsRow w.heap.size 59 2 u6 (cat (ps.take (k2 + 1))).length (cellsE (cat (ps.take (k2 + 1))))
              rw [HH.out, List.append_nil]; exact hown.out
            go_wp2_with (at_builtin; refine wpList_append_own_none rfl _ _ 22 rfl w.heap.size 59 i0 2 Try.underlying22 hi _ _ _ rfl hown.out rfl ?_)
            go_roundw
            case rel => exact ⟨k2 + 1, by omega, by go_num, HO2, hbr⟩
            case measure => simp [RowKit.intOf]; omega
          | some ad =>
            have HEr : Hid (EAt wr (some ad) E) := hEr
            obtain ⟨n, hn⟩ := ex_eq E.length
            have HNE : Hid (n = E.length) := hn
            rw [← hn] at hxy c0
            obtain ⟨cs, hcs⟩ := ex_eq (cellsE E)
            have HCS : Hid (cs = cellsE E) := hcs
            have hlen : cs.length = n * 2 := by rw [hcs, cellsE_len, ← hn]
            clear hEr hn hcs hSk
            go_wp2_with (at_builtin; refine wpList_append_own _ rfl _ _ 22 rfl w.heap.size 59 i0 _ 2 16 Try.underlying22 hi hz0 hz1 hz2 rfl (by decide) _ _ _ rfl hown.out ad n ck cs rfl hlen ?c1 ?c2 ?c3 ?c4 ?c5 ?_)
            case c1 => rw [HCS.out]; exact HEr.out.news
            case c2 => rw [HCS.out]; exact cellsE_one E
            case c3 => unfold maxLen; omega
            case c4 => omega
            case c5 => exact hsr
            intro v' w4 hown4 hgrow _
            have hb4 : Below w.heap.size w w4 := Below.grown hbr hgrow hsr (fun j hj => (hown.out.lt j hj).1)
            have HO2 : Hid (w4.ownsRow w.heap.size 59 2 v' (cat (ps.take (k2 + 1))).length (cellsE (cat (ps.take (k2 + 1))))) := by
              show w4.ownsRow w.heap.size 59 2 v' (cat (ps.take (k2 + 1))).length (cellsE (cat (ps.take (k2 + 1))))
              rw [HH.out, cellsE_append, List.length_append, ← HCS.out, ← HNE.out]
              exact hown4
            clear hgrow hown4 hown
            go_wp2
            go_roundw
            case rel => exact ⟨k2 + 1, by omega, by go_num, HO2, hb4⟩
            case measure => simp [RowKit.intOf]; omega
        · obtain rfl : k2 = k := by omega
          have htk : ps.take k2 = ps := by rw [HM.out, List.take_length]
          rw [htk] at hown
          clear hi hz0 hz1 hz2
          go_wp2
          go_ret
          obtain ⟨a, cap, rfl, hsl, hea⟩ := eat_own hown.out
          exact ⟨a, cap, by rw [HT.out]; rfl, by rw [HT.out]; exact hsl, hea, own_ge hown.out, hbr⟩
end Go.Proofs.Ytckcbaegehfkoaa
namespace Go.Proofs.Ytckcbaegehfkoaa
open Go.RowKit Go.Lib

/-- What Add answers. -/
def AddE (n : Int) (es : List (Int × Int)) (a b er : Int) (ys : List (Int × Int)) : Prop :=
  (¬ RightG n es ∧ er = 1 ∧ ys = []) ∨ (RightG n es ∧ ¬ ((0 ≤ a ∧ a < n) ∧ (0 ≤ b ∧ b < n)) ∧ er = 4 ∧ ys = []) ∨
  (RightG n es ∧ ((0 ≤ a ∧ a < n) ∧ (0 ≤ b ∧ b < n)) ∧ ((a = b ∧ er = 1 ∧ ys = []) ∨ (a ≠ b ∧ (min a b, max a b) ∈ es ∧ er = 0 ∧ ys = es) ∨
    (a ≠ b ∧ (min a b, max a b) ∉ es ∧ es.length = 4000 ∧ er = 5 ∧ ys = []) ∨
    (a ≠ b ∧ (min a b, max a b) ∉ es ∧ es.length < 4000 ∧ er = 0 ∧ Rises ys ∧ ys.length = es.length + 1 ∧ ∀ e, e ∈ ys ↔ e ∈ es ∨ e = (min a b, max a b))))
def nOf' (n er : Int) : Int := if er = 0 then n else 0

theorem new_two' (w : World) (o1 o2 : Obj) : ∃ W0, W0 = (w.alloc o1).alloc o2 ∧ W0.heap.size = w.heap.size + 1 + 1 ∧ W0.heap[w.heap.size]? = some o1 ∧ W0.heap[w.heap.size + 1]? = some o2 ∧ Below w.heap.size w W0 := by
  have s1 : (w.alloc o1).heap.size = w.heap.size + 1 := by simp
  refine ⟨_, rfl, by simp, ?_, ?_, ((Below.refl _ _).alloc (Nat.le_refl _) _).alloc (by omega) _⟩
  · rw [Below.heap_alloc _ _ _ (by omega)]; exact heap_alloc_new _ _
  · rw [← s1]; exact heap_alloc_new _ _
theorem placeAt_ex {es : List (Int × Int)} (hr : Rises es) (e : Int × Int) : ∃ k has, PlaceAt es e k has := by
  obtain ⟨p, hp⟩ : ∃ p : Nat → Bool, p = fun i => !ltE (es[i]?.getD (0, 0)) e := ⟨_, rfl⟩
  have hmono : ∀ a b, a ≤ b → b < es.length → p a = true → p b = true := fun i j hij hj h => by
    rw [hp] at h ⊢
    simp only [Bool.not_eq_true'] at h ⊢
    rw [List.getElem?_eq_getElem (show i < es.length by omega)] at h
    rw [List.getElem?_eq_getElem hj]
    simp only [Option.getD_some] at h ⊢
    by_cases e : i = j
    · subst e; exact h
    · have := rises_at hr (i := i) (j := j) (by omega) hj
      exact ltE_ntrans (ltE_asymm this) h
  obtain ⟨hcl, hca, hcb⟩ := count_mono p es.length hmono
  refine ⟨_, decide (∃ h : (List.range es.length).countP (fun i => !p i) < es.length, es[(List.range es.length).countP (fun i => !p i)] = e), hcl, fun i h hi => ?_, fun i h hi => ?_, by rw [decide_eq_true_eq]⟩
  · have := hca i hi
    rw [hp] at this
    simpa [List.getElem?_eq_getElem h] using this
  · have := hcb i hi h
    rw [hp] at this
    simpa [List.getElem?_eq_getElem h] using this
theorem PlaceAt.unique {es : List (Int × Int)} {e : Int × Int} {k k' : Nat} {b b' : Bool} (h : PlaceAt es e k b) (h' : PlaceAt es e k' b') : k = k' ∧ b = b' := by
  have key : ∀ {k k' : Nat} {b b' : Bool}, PlaceAt es e k b → PlaceAt es e k' b' → ¬ k < k' := fun {k k' b b'} h h' hlt => by
    have hl := h'.le
    have h1 := h'.ahead k (by omega) hlt
    rw [h.behind k (by omega) (Nat.le_refl _)] at h1
    exact absurd h1 (by simp)
  have e1 : k = k' := by
    have := key h h'
    have := key h' h
    omega
  subst e1
  refine ⟨rfl, ?_⟩
  rw [Bool.eq_iff_iff, h.has_iff, h'.has_iff]
theorem place_det (a : Option Addr) (cap : Nat) (es : List (Int × Int)) (e1 e2 : Int) (k : Nat) (has : Bool) (hp : PlaceAt es (e1, e2) k has) (w : World) (hN : es.length ≤ 1000000) (hE : EAt w a es) (hr : Rises es) :
    Calls Try.prog 65 #[.slice a es.length cap, .agg #[.int .i64 e1, .int .i64 e2]] w fun e w' => e = .returned (.tuple #[.int .i64 k, .bool has]) ∧ Below w.heap.size w w' :=
  (place_any a cap es e1 e2 w hN hE hr).mono fun _ _ ⟨k', has', he, hp', hb⟩ => by
    obtain ⟨rfl, rfl⟩ := hp.unique hp'
    exact ⟨he, hb⟩
theorem joining_below (a b : Int) (w : World) : Calls Try.prog 64 #[.int .i64 a, .int .i64 b] w fun e w' => e = .returned (.agg #[.int .i64 (min a b), .int .i64 (max a b)]) ∧ Below w.heap.size w w' :=
  (joining_any a b w).mono fun _ _ ⟨h, os, hw⟩ => ⟨h, hw ▸ grow_below w os⟩
theorem put_rises {es : List (Int × Int)} {e : Int × Int} {k : Nat} {has : Bool} (h : PlaceAt es e k has) (hr : Rises es) (hn : has = false) : Rises (es.take k ++ [e] ++ es.drop k) := by
  have h1 : ∀ x ∈ es.take k, ltE x e = true := fun x hx => by
    obtain ⟨i, hi, rfl⟩ := List.getElem_of_mem hx
    rw [List.length_take] at hi
    rw [List.getElem_take]
    exact h.ahead i (by omega) (by omega)
  have h2 : ∀ x ∈ es.drop k, ltE e x = true := fun x hx => by
    obtain ⟨i, hi, rfl⟩ := List.getElem_of_mem hx
    rw [List.length_drop] at hi
    rw [List.getElem_drop]
    have h3 := h.behind (k + i) (by omega) (by omega)
    cases h4 : ltE e es[k + i] with
    | true => rfl
    | false =>
      have e1 := ltE_tri _ _ h3 h4
      have : has = true := (h.mem hr).2 (by rw [← e1]; exact List.getElem_mem _)
      rw [hn] at this
      exact absurd this (by simp)
  unfold Rises at *
  rw [List.append_assoc, List.pairwise_append]
  refine ⟨hr.sublist (List.take_sublist _ _), ?_, fun x hx y hy => ?_⟩
  · rw [List.singleton_append, List.pairwise_cons]
    exact ⟨h2, hr.sublist (List.drop_sublist _ _)⟩
  · rcases List.mem_append.1 hy with hy | hy
    · simp at hy; subst hy; exact h1 x hx
    · exact ltE_trans (h1 x hx) (h2 y hy)

theorem two_set {w : World} {b : Nat} {x y : Value} (h0 : w.cell? ⟨b, 0, none⟩ = some x) (h1 : w.cell? ⟨b, 1, none⟩ = some y) (u v : Value) : ((w.setCell ⟨b, 0, none⟩ u).setCell ⟨b, 1, none⟩ v).cell? ⟨b, 0, none⟩ = some u ∧ ((w.setCell ⟨b, 0, none⟩ u).setCell ⟨b, 1, none⟩ v).cell? ⟨b, 1, none⟩ = some v := by
  refine ⟨?_, World.cell?_setCell_same' _ _ _ ?_⟩
  · rw [World.cell?_setCell_other _ _ _ _ (by simp)]
    exact World.cell?_setCell_same' _ _ _ (by rw [h0]; rfl)
  · rw [World.cell?_setCell_other _ _ _ _ (by simp), h1]; rfl
theorem eat_take {w : World} {a : Option Addr} {es : List (Int × Int)} (h : EAt w a es) (k : Nat) : EAt w a (es.take k) := fun h0 => by
  rw [List.length_take] at h0
  obtain ⟨g, off, ha, hg, hc⟩ := h (by omega)
  refine ⟨g, off, ha, hg, fun j hj => ?_⟩
  rw [List.length_take] at hj
  rw [List.getElem_take]
  exact hc j (by omega)
theorem eat_drop {w : World} {g off : Nat} {es : List (Int × Int)} (h : EAt w (some ⟨g, off, none⟩) es) (k : Nat) : EAt w (some ⟨g, off + k * 2, none⟩) (es.drop k) := fun h0 => by
  rw [List.length_drop] at h0
  obtain ⟨g', off', ha, hg, hc⟩ := h (by omega)
  simp only [Option.some.injEq, Addr.mk.injEq, and_true] at ha
  obtain ⟨rfl, rfl⟩ := ha
  refine ⟨g, off + k * 2, rfl, hg, fun j hj => ?_⟩
  rw [List.length_drop] at hj
  rw [List.getElem_drop]
  have := hc (k + j) (by omega)
  rw [show off + (k + j) * 2 = off + k * 2 + j * 2 by omega] at this
  exact this

end Go.Proofs.Ytckcbaegehfkoaa
