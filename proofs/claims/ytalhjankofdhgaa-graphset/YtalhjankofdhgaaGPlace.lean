/-
  graph.place: where an edge stands among rising ones, or would stand, and whether it does.
-/
import Derived.Test.YtalhjankofdhgaaGRight
import Derived.Test.YtalhjankofdhgaaShelf
import Derived.BigQuiet
import Derived.Shelf.SlSortCmp.QuietGrown
namespace Go.Proofs.Ytalhjankofdhgaa
open Go.RowKit Go.Lib Go.Sort

theorem count_mono (p : Nat → Bool) : ∀ n, (∀ a b, a ≤ b → b < n → p a = true → p b = true) → (List.range n).countP (fun i => !p i) ≤ n ∧ (∀ i, i < (List.range n).countP (fun i => !p i) → p i = false) ∧ (∀ i, (List.range n).countP (fun i => !p i) ≤ i → i < n → p i = true)
  | 0, _ => ⟨by simp, fun i h => absurd h (by simp), fun i _ h => absurd h (by omega)⟩
  | n + 1, hm => by
    obtain ⟨h1, h2, h3⟩ := count_mono p n (fun a b hab hb => hm a b hab (by omega))
    rw [List.range_succ, List.countP_append]
    cases hp : p n with
    | true =>
      have e : List.countP (fun i => !p i) [n] = 0 := by simp [hp]
      rw [e, Nat.add_zero]
      refine ⟨by omega, h2, fun i hi hn => ?_⟩
      by_cases h : i = n
      · rw [h]; exact hp
      · exact h3 i hi (by omega)
    | false =>
      have e : List.countP (fun i => !p i) [n] = 1 := by simp [hp]
      have hall : ∀ i, i ≤ n → p i = false := fun i hi => by
        cases hpi : p i with
        | false => rfl
        | true => rw [hm i n hi (by omega) hpi] at hp; exact absurd hp (by simp)
      have hc : (List.range n).countP (fun i => !p i) = n := by
        rcases Nat.lt_or_ge ((List.range n).countP (fun i => !p i)) n with h | h
        · have := h3 _ (Nat.le_refl _) h
          rw [hall _ (by omega)] at this
          exact absurd this (by simp)
        · omega
      rw [e, hc]
      exact ⟨Nat.le_refl _, fun i hi => hall i (by omega), fun i hi _ => by omega⟩

set_option maxHeartbeats 1000000 in
set_option maxRecDepth 100000 in
theorem placeF_any (B1 B2 g off n cap i : Nat) (x1 x2 e1 e2 : Int) (w : World) (hi : i < n) (c0 : w.cell? ⟨B1, 0, none⟩ = some (.slice (some ⟨g, off, none⟩) n cap)) (c1 : w.cell? ⟨B2, 0, none⟩ = some (.int .i64 e1)) (c2 : w.cell? ⟨B2, 1, none⟩ = some (.int .i64 e2)) (d0 : w.cell? ⟨g, off + i * 2, none⟩ = some (.int .i64 x1)) (d1 : w.cell? ⟨g, off + i * 2 + 1, none⟩ = some (.int .i64 x2)) :
    Calls Try.prog 46 #[.int .i64 i, .pointer (some ⟨B1, 0, none⟩), .pointer (some ⟨B2, 0, none⟩)] w fun e w' => e = .returned (.bool (!ltE (x1, x2) (e1, e2))) ∧ ∃ q os, w' = grow (w.drewN q) os := by
  have mixed : Try.prog.follows .mixedOrders = true := by kernel_rfl
  obtain ⟨r, hr⟩ := ex_eq (ltE (x1, x2) (e1, e2))
  have HC : ∀ W, Calls Try.prog 34 #[.agg #[.int .i64 x1, .int .i64 x2], .agg #[.int .i64 e1, .int .i64 e2]] W fun e w' => e = .returned (.bool r) ∧ ∃ q os, w' = grow (W.drewN q) os := fun W => (before_any (x1, x2) (e1, e2) W).mono fun _ _ ⟨h, os, hw⟩ => ⟨by rw [hr]; exact h, 0, os, hw⟩
  rw [← hr]
  have C0 := cell_grown (block_lt_of_cell c0) c0
  have C1 := cell_grown (block_lt_of_cell c1) c1
  have C2 := cell_grown (block_lt_of_cell c2) c2
  have D0 := cell_grown (block_lt_of_cell d0) d0
  have D1 := cell_grown (block_lt_of_cell d1) d1
  have q0 : (i : Int) < (n : Int) := by omega
  clear c0 c1 c2 d0 d1 hr
  go_enter Try.func46, Try.ntmps46
  go_wp2_with fail
  go_quiet_grown (refine Calls.grown_of (HC _))
  go_wp2
  go_ret
  exact ⟨rfl, _, _, rfl⟩

/-- What place tells: how many edges stand ahead, and whether the edge is one of them. -/
structure PlaceAt (es : List (Int × Int)) (e : Int × Int) (at_ : Nat) (has : Bool) : Prop where
  le : at_ ≤ es.length
  ahead : ∀ i (h : i < es.length), i < at_ → ltE es[i] e = true
  behind : ∀ i (h : i < es.length), at_ ≤ i → ltE es[i] e = false
  has_iff : has = true ↔ ∃ h : at_ < es.length, es[at_] = e
theorem PlaceAt.mem {es : List (Int × Int)} {e : Int × Int} {at_ : Nat} {has : Bool} (h : PlaceAt es e at_ has) (hr : Rises es) : has = true ↔ e ∈ es := by
  rw [h.has_iff]
  constructor
  · rintro ⟨h1, h2⟩; rw [← h2]; exact List.getElem_mem _
  · intro he
    obtain ⟨i, hi, rfl⟩ := List.getElem_of_mem he
    have h1 : ¬ i < at_ := fun hlt => by have := h.ahead i hi hlt; rw [ltE_irrefl] at this; exact absurd this (by simp)
    have h2 : ¬ at_ < i := fun hlt => by
      have h3 := rises_at hr hlt hi
      rw [h.behind at_ (by omega) (Nat.le_refl _)] at h3
      exact absurd h3 (by simp)
    obtain rfl : at_ = i := by omega
    exact ⟨hi, rfl⟩

theorem same_or' (x y : Int × Int) : (x.1 = y.1 ∧ x.2 = y.2) ∨ (x.1 = y.1 ∧ (x.2 == y.2) = false) ∨ (x.1 == y.1) = false := by
  by_cases h : x.1 = y.1
  · by_cases h2 : x.2 = y.2
    · exact Or.inl ⟨h, h2⟩
    · exact Or.inr (Or.inl ⟨h, beq_eq_false_iff_ne.2 h2⟩)
  · exact Or.inr (Or.inr (beq_eq_false_iff_ne.2 h))

set_option maxHeartbeats 1000000 in
set_option maxRecDepth 100000 in
theorem place_any (a : Option Addr) (cap : Nat) (es : List (Int × Int)) (e1 e2 : Int) (w : World) (hN : es.length ≤ 1000000) (hE : EAt w a es) (hr : Rises es) :
    Calls Try.prog 37 #[.slice a es.length cap, .agg #[.int .i64 e1, .int .i64 e2]] w fun e w' => ∃ (at_ : Nat) (has : Bool), e = .returned (.tuple #[.int .i64 at_, .bool has]) ∧ PlaceAt es (e1, e2) at_ has ∧ RowKit.Below w.heap.size w w' := by
  obtain ⟨W0, hW0⟩ : ∃ W0, W0 = (w.alloc (.cells #[.slice a es.length cap] 22)).alloc (.cells #[.int .i64 e1, .int .i64 e2] 39) := ⟨_, rfl⟩
  have s1 : (w.alloc (.cells #[.slice a es.length cap] 22)).heap.size = w.heap.size + 1 := by simp
  have hs0 : W0.heap.size = w.heap.size + 1 + 1 := by rw [hW0]; simp
  have hB0 : RowKit.Below w.heap.size w W0 := by rw [hW0]; exact ((Below.refl _ w).alloc (Nat.le_refl _) _).alloc (by omega) _
  have o1 : W0.heap[w.heap.size]? = some (.cells #[.slice a es.length cap] 22) := by
    rw [hW0, Below.heap_alloc _ _ _ (by omega)]; exact heap_alloc_new _ _
  have o2 : W0.heap[w.heap.size + 1]? = some (.cells #[.int .i64 e1, .int .i64 e2] 39) := by
    rw [hW0, ← s1]; exact heap_alloc_new _ _
  have hE0 : EAt W0 a es := hE.below hB0
  have ca : W0.cell? ⟨w.heap.size, 0, none⟩ = some (.slice a es.length cap) := cell_of_heap o1 0
  have c1 : W0.cell? ⟨w.heap.size + 1, 0, none⟩ = some (.int .i64 e1) := cell_of_heap o2 0
  have c2 : W0.cell? ⟨w.heap.size + 1, 1, none⟩ = some (.int .i64 e2) := cell_of_heap o2 1
  obtain ⟨p, hp⟩ : ∃ p : Nat → Bool, p = fun i => !ltE (es[i]?.getD (0, 0)) (e1, e2) := ⟨_, rfl⟩
  have eg : ∀ args w, (callFunc 46 args).run Try.prog w = .ok (.enter 46 args) w := enters_of Try.func46 (by kernel_rfl) rfl
  have hmono : ∀ a b, a ≤ b → b < es.length → p a = true → p b = true := fun i j hij hj h => by
    rw [hp] at h ⊢
    simp only [Bool.not_eq_true'] at h ⊢
    rw [List.getElem?_eq_getElem (show i < es.length by omega)] at h
    rw [List.getElem?_eq_getElem hj]
    simp only [Option.getD_some] at h ⊢
    by_cases e : i = j
    · subst e; exact h
    · have := rises_at hr (i := i) (j := j) (by omega) hj
      exact ltE_ntrans (ltE_asymm this) h
  have hS := Any.sort_Search Try.search 46 #[.pointer (some ⟨w.heap.size, 0, none⟩), .pointer (some ⟨w.heap.size + 1, 0, none⟩)] es.length p W0 eg (by omega)
    (fun m os i hi => by
      obtain ⟨g, off, rfl, hg, hc⟩ := hE0 (by omega)
      obtain ⟨d0, d1⟩ := hc i hi
      have e0 : p i = !ltE (es[i].1, es[i].2) (e1, e2) := by rw [hp]; simp only []; rw [List.getElem?_eq_getElem hi]; rfl
      rw [e0]
      exact placeF_any w.heap.size (w.heap.size + 1) g off es.length cap i es[i].1 es[i].2 e1 e2 _ hi (cell_grown (block_lt_of_cell ca) ca m os) (cell_grown (block_lt_of_cell c1) c1 m os) (cell_grown (block_lt_of_cell c2) c2 m os) (cell_grown (block_lt_of_cell d0) d0 m os) (cell_grown (block_lt_of_cell d1) d1 m os)) hmono
  change Calls Try.prog 45 _ _ _ at hS
  obtain ⟨hcl, hca, hcb⟩ := count_mono p es.length hmono
  obtain ⟨at_, hat⟩ := ex_eq ((List.range es.length).countP (fun i => !p i))
  rw [← hat] at hS hcl hca hcb
  have HA : Hid (∀ i (h : i < es.length), i < at_ → ltE es[i] (e1, e2) = true) := fun i h hi => by
    have := hca i hi
    rw [hp] at this
    simpa [List.getElem?_eq_getElem h] using this
  have HBH : Hid (∀ i (h : i < es.length), at_ ≤ i → ltE es[i] (e1, e2) = false) := fun i h hi => by
    have := hcb i hi h
    rw [hp] at this
    simpa [List.getElem?_eq_getElem h] using this
  obtain ⟨N, hNe⟩ := ex_eq es.length
  have HN : Hid (N = es.length) := hNe
  have HE0 : Hid (EAt W0 a es) := hE0
  have HW0 : Hid (W0 = (w.alloc (.cells #[.slice a N cap] 22)).alloc (.cells #[.int .i64 e1, .int .i64 e2] 39)) := by
    show W0 = _
    rw [hNe]; exact hW0
  rw [← hNe] at hS hcl ca hN ⊢
  have HS : Hid (Calls Try.prog 45 #[.int .i64 N, .func (.func 46) #[] #[.pointer (some ⟨w.heap.size, 0, none⟩), .pointer (some ⟨w.heap.size + 1, 0, none⟩)]] W0 fun e w' => e = .returned (.int .i64 at_) ∧ ∃ q os, w' = grow (W0.drewN q) os) := hS
  clear hS hca hcb hat hp hmono hE hE0 hNe hW0 o1 o2 s1 eg hr
  have hB2 : Hid (∀ q os, RowKit.Below w.heap.size w (grow (W0.drewN q) os)) := fun q os => hB0.trans (below_grown_sl w.heap.size W0 q os (by omega))
  go_enter Try.func37, Try.ntmps37
  go_wp2_with fail
  rw [← HW0.out]
  refine HS.out.mono ?_
  rintro e w1 ⟨rfl, q, os, hw1⟩
  have k0 : w1.cell? ⟨w.heap.size, 0, none⟩ = some (.slice a N cap) := by rw [hw1]; exact cell_grown (block_lt_of_cell ca) ca q os
  have k1 : w1.cell? ⟨w.heap.size + 1, 0, none⟩ = some (.int .i64 e1) := by rw [hw1]; exact cell_grown (block_lt_of_cell c1) c1 q os
  have k2 : w1.cell? ⟨w.heap.size + 1, 1, none⟩ = some (.int .i64 e2) := by rw [hw1]; exact cell_grown (block_lt_of_cell c2) c2 q os
  have hbw : RowKit.Below w.heap.size w w1 := by rw [hw1]; exact hB2.out q os
  have hb01 : RowKit.Below W0.heap.size W0 w1 := by rw [hw1]; exact below_grown_sl _ W0 q os (Nat.le_refl _)
  have HE1 : Hid (EAt w1 a es) := HE0.out.below hb01
  clear hw1 ca c1 c2 HS HW0 hB2 hB0 HE0 hb01
  by_cases hlt : at_ < N
  · have hkr : at_ < es.length := by rw [← HN.out]; exact hlt
    obtain ⟨g, off, rfl, hg, hc⟩ := HE1.out (by omega)
    obtain ⟨d0, d1⟩ := hc at_ hkr
    have hso := same_or' es[at_] (e1, e2)
    obtain ⟨x1, hx1⟩ := ex_eq es[at_].1
    obtain ⟨x2, hx2⟩ := ex_eq es[at_].2
    rw [← hx1] at d0
    rw [← hx2] at d1
    rw [← hx1, ← hx2] at hso
    simp only [] at hso
    have HX : Hid (x1 = es[at_].1 ∧ x2 = es[at_].2) := ⟨hx1, hx2⟩
    have q0 : (at_ : Int) < (N : Int) := by omega
    clear hc hx1 hx2
    rcases hso with ⟨h1, h2⟩ | ⟨h1, h2⟩ | h1
    · subst h1 h2
      go_wp2
      go_quiet (fail)
      go_wp2
      go_ret2
      exact ⟨at_, true, rfl, ⟨by rw [← HN.out]; exact hcl, HA.out, HBH.out, ⟨fun _ => ⟨hkr, Prod.ext HX.out.1.symm HX.out.2.symm⟩, fun _ => rfl⟩⟩, below_drewN hbw _⟩
    · subst h1
      go_wp2
      go_quiet (fail)
      go_wp2
      go_ret2
      refine ⟨at_, false, rfl, ⟨by rw [← HN.out]; exact hcl, HA.out, HBH.out, ⟨fun h => absurd h (by simp), fun ⟨_, h⟩ => ?_⟩⟩, below_drewN hbw _⟩
      have : x2 = e2 := HX.out.2.trans (congrArg Prod.snd h)
      rw [this] at h2
      simp at h2
    · go_wp2
      go_quiet (fail)
      go_wp2
      go_ret2
      refine ⟨at_, false, rfl, ⟨by rw [← HN.out]; exact hcl, HA.out, HBH.out, ⟨fun h => absurd h (by simp), fun ⟨_, h⟩ => ?_⟩⟩, below_drewN hbw _⟩
      have : x1 = e1 := HX.out.1.trans (congrArg Prod.fst h)
      rw [this] at h1
      simp at h1
  · have q0 : ¬ (at_ : Int) < (N : Int) := by omega
    go_wp2
    go_quiet (fail)
    go_wp2
    go_ret2
    refine ⟨at_, false, rfl, ⟨by rw [← HN.out]; exact hcl, HA.out, HBH.out, ⟨fun h => absurd h (by simp), fun ⟨h, _⟩ => ?_⟩⟩, below_drewN hbw _⟩
    rw [← HN.out] at h
    exact absurd h hlt
end Go.Proofs.Ytalhjankofdhgaa
