/-
  The rows of the edges, one number more, as the document's Of lays them (layer 7).
  The document's tree while blocks are laid into it (layer 7): its variable, its rows, a header written over.
  The program's changes of a model's sets: a copy, room for a vertex, a vertex more (H3).
-/
import Derived.Test.YtlebimolgienkaaP08
import Derived.Test.YtlebimolgienkaaP04
import Derived.Test.YtlebimolgienkaaP02
import Derived.Test.YtlebimolgienkaaP06
import Derived.Test.YtlebimolgienkaaP03
import Derived.Lib.Walk
namespace Go.Proofs.Ytlebimolgienkaa
open Go.RowKit Go.Lib

/-- While the first k edges have a number more, beside the part that it is read from. -/
structure Cls (w : World) (Nb N Bp gp : Nat) (ap : Option Addr) (cp m : Nat) (F : Nat → Nat → Nat) (es : List (Int × Int)) (t k : Nat) (V : Nat → Value) : Prop where
  no : NO w (Nb + 1) Nb N V (clsK F es t k)
  ne : ∀ j, j < N → (V j).ownBlock ≠ some Bp ∧ (V j).ownBlock ≠ some gp
  part : QAt w Bp gp ap m cp (F t)
theorem clsK_own (F : Nat → Nat → Nat) (es : List (Int × Int)) (t k : Nat) : clsK F es t k k = clsI F t (es.getD k (0, 0)) := by unfold clsK; rw [if_neg (by omega)]
theorem Cls.half {w1 w : World} {Nb N Bp gp : Nat} {ap : Option Addr} {cp m : Nat} {F : Nat → Nat → Nat} {es : List (Int × Int)} {t k : Nat} {V : Nat → Value} (h : Cls w Nb N Bp gp ap cp m F es t k V) (hk : k < N) (hm : 0 < m) (hb : Below Nb w1 w) (hN : Nb ≤ w.heap.size) (hB : Nb < Bp) (hg : Nb < gp) :
    ∀ wa w4 v', Below w.heap.size w wa → w4.ownsRow (Nb + 1) 3 1 v' (t + 1) ((clsI F t (es.getD k (0, 0))).map (Value.int .i64) ++ [.int .i64 (F t (offEnd t (es.getD k (0, 0))))]) → wa.grownBy w4 (V k).ownBlock → (v'.ownBlock = (V k).ownBlock ∨ v'.ownBlock = some wa.heap.size) →
      (w4.cell? ⟨Nb, k, none⟩ = some (V k) ∧ w4.frozen? ⟨Nb, k, none⟩ = false) ∧ Below Nb w1 (w4.setCell ⟨Nb, k, none⟩ v') ∧ w.heap.size ≤ (w4.setCell ⟨Nb, k, none⟩ v').heap.size ∧
      ∃ V', Cls (w4.setCell ⟨Nb, k, none⟩ v') Nb N Bp gp ap cp m F es t (k + 1) V' := fun wa w4 v' hba hown hgr hat => by
  have hkb : KeptBut (fun j => some j = (V k).ownBlock) w w4 := (KeptBut.of_whole _ hba).trans (KeptBut.of_grown hgr)
  have hNk : ¬ some Nb = (V k).ownBlock := fun e => (h.no.own k hk).2 e.symm
  have hBlt : Bp < w.heap.size := block_lt_of_cell h.part.box
  have hglt : gp < w.heap.size := (h.part.row hm).2.1
  refine ⟨?_, ?_, ?_, ⟨fun u => if u = k then v' else V u, ?_, fun j hj => ?_, ?_⟩⟩
  · rw [hkb.cell (p := ⟨Nb, k, none⟩) h.no.lt hNk, hkb.frozen (p := ⟨Nb, k, none⟩) h.no.lt hNk]
    exact h.no.hd k hk
  · refine (hb.trans (hkb.below hN (fun j _ e => ?_))).setCell (p := ⟨Nb, k, none⟩) (Nat.le_refl _) _
    have := ((h.no.own k hk).1.lt j e.symm).1
    omega
  · simpa using hkb.size
  · refine (h.no.push (x := (F t (offEnd t (es.getD k (0, 0))) : Int)) hk hba ?_ hgr hat).congr (fun j _ => ?_)
    · rw [clsK_own, clsI_len]; exact hown
    · by_cases e : j = k
      · subst e
        rw [if_pos rfl, clsK_own, ← clsI_next]
        unfold clsK
        rw [if_pos (by omega)]
      · rw [if_neg e]
        unfold clsK
        by_cases e2 : j < k
        · rw [if_pos e2, if_pos (by omega)]
        · rw [if_neg e2, if_neg (by omega)]
  · by_cases e : j = k
    · simp only [if_pos e]
      rcases hat with h1 | h1
      · rw [h1]; exact h.ne k hk
      · rw [h1]
        have := hba.size
        simp only [ne_eq, Option.some.injEq]
        omega
    · simp only [if_neg e]; exact h.ne j hj
  · refine (h.part.kept hkb (fun e => (h.ne k hk).1 e.symm) (fun _ e => (h.ne k hk).2 e.symm)).kept (kept_set _ _ _) ?_ (fun _ => ?_)
    · simp only; omega
    · simp only; omega
end Go.Proofs.Ytlebimolgienkaa
namespace Go.Proofs.Ytlebimolgienkaa
open Go.RowKit Go.Lib

/-- One header is written over. -/
theorem LLOwn.setHead {A : Nat → Prop} {w : World} {base g cap : Nat} {us : List Value} {LL : List (List Int)} (h : LLOwn w base A (.slice (some ⟨g, 0, none⟩) LL.length cap) us LL) {k : Nat} (hk : k < LL.length) {L : List Int} {ar : Option Addr} {cr : Nat} (hI : IAt w ar L)
    (hr : ∀ g' off, ar = some ⟨g', off, none⟩ → 0 < L.length → A g' ∧ g' ≠ g) :
    LLOwn (w.setCell ⟨g, k, none⟩ (.slice ar L.length cr)) base A (.slice (some ⟨g, 0, none⟩) LL.length cap) (us.set k (.slice ar L.length cr)) (LL.set k L) := by
  have hks := kept_set w ⟨g, k, none⟩ (.slice ar L.length cr)
  refine ⟨?_, by rw [List.length_set, List.length_set, h.2.1], h.2.2.1, fun j hj => ?_⟩
  · rw [List.length_set]; exact (h.1.stored k _).1
  · rw [List.length_set] at hj
    by_cases e : k = j
    · subst e
      refine ⟨ar, cr, ?_, ?_, fun g' off ha h0 => ?_⟩
      · rw [List.getElem?_set_self (by rw [h.2.1]; exact hk), List.getElem_set_self]
      · rw [List.getElem_set_self]
        exact hI.kept hks (fun g' off ha h0 => (hr g' off ha h0).2)
      · rw [List.getElem_set_self] at h0
        exact ⟨(hr g' off ha h0).1, fun e => (hr g' off ha h0).2 (by cases e; rfl)⟩
    · obtain ⟨ak, ck, h1, h2, h3⟩ := h.2.2.2 j hj
      refine ⟨ak, ck, ?_, ?_, fun g' off ha h0 => ?_⟩
      · rw [List.getElem?_set_ne e, List.getElem_set_ne e]; exact h1
      · rw [List.getElem_set_ne e]
        exact h2.kept hks (fun g' off ha h0 e2 => (h3 g' off ha h0).2 (by rw [show g' = g from e2]; rfl))
      · rw [List.getElem_set_ne e] at h0
        exact h3 g' off ha h0
/-- The tree's variable, with the rows that its blocks are. -/
structure OutAt (w : World) (O base : Nat) (A : Nat → Prop) (v : Value) (us : List Value) (Bs : List (List Int)) : Prop where
  c0 : w.cell? ⟨O, 0, none⟩ = some (.slice none 0 0)
  c1 : w.cell? ⟨O, 1, none⟩ = some v
  f0 : w.frozen? ⟨O, 0, none⟩ = false
  f1 : w.frozen? ⟨O, 1, none⟩ = false
  ll : LLOwn w base A v us Bs
theorem OutAt.kept {S A : Nat → Prop} {w w' : World} {O base : Nat} {v : Value} {us : List Value} {Bs : List (List Int)} (h : OutAt w O base A v us Bs) (hk : KeptBut S w w') (hO : ¬ S O) (hs : ∀ k, A k → k < w.heap.size → ¬ S k) : OutAt w' O base A v us Bs := by
  have hlt : O < w.heap.size := block_lt_of_cell h.c0
  exact ⟨(hk.cell (p := ⟨O, 0, none⟩) hlt hO).trans h.c0, (hk.cell (p := ⟨O, 1, none⟩) hlt hO).trans h.c1, (hk.frozen (p := ⟨O, 0, none⟩) hlt hO).trans h.f0, (hk.frozen (p := ⟨O, 1, none⟩) hlt hO).trans h.f1, h.ll.kept hk hs⟩
/-- While l is laid in: from one place to the next one down. -/
theorem OutAt.down {A : Nat → Prop} {w : World} {O base k : Nat} {v : Value} {us : List Value} {l : List Int} {Bs : List (List Int)} {la : Option Addr} {lc : Nat} (h : OutAt w O base A v us (midR l Bs (k + 1))) (hk : k + 1 ≤ Bs.length) (hO : O < base) (hI : IAt w la l) (hl : ∀ g off, la = some ⟨g, off, none⟩ → 0 < l.length → A g ∧ v.ownBlock ≠ some g) :
    ∃ g cap ak ck, v = .slice (some ⟨g, 0, none⟩) (Bs.length + 1) cap ∧ (w.cell? ⟨g, k, none⟩ = some (.slice ak (Bs[k]'(by omega)).length ck) ∧ IAt w ak (Bs[k]'(by omega))) ∧ w.frozen? ⟨g, k + 1, none⟩ = false ∧ w.frozen? ⟨g, k, none⟩ = false ∧ (∃ x, w.cell? ⟨g, k + 1, none⟩ = some x) ∧ O < g ∧ base ≤ g ∧
      ∃ us', OutAt ((w.setCell ⟨g, k + 1, none⟩ (.slice ak (Bs[k]'(by omega)).length ck)).setCell ⟨g, k, none⟩ (.slice la l.length lc)) O base A v us' (midR l Bs k) := by
  have hml : (midR l Bs (k + 1)).length = Bs.length + 1 := midR_len hk
  have hmk : (midR l Bs (k + 1))[k]? = some (Bs[k]'(by omega)) := by rw [midR_at hk (by omega)]; exact List.getElem?_eq_getElem (by omega)
  have hown := h.ll.1
  rcases hown.2 with ⟨hv, h0⟩ | ⟨g, cap, cur, hv, hg, hgb, hr⟩
  · exact absurd h0 (by omega)
  · subst hv
    obtain ⟨ak, ck, h1, h2, h3⟩ := h.ll.2.2.2 k (by omega)
    have e1 : (midR l Bs (k + 1))[k]'(by omega) = Bs[k]'(by omega) := by
      have := List.getElem?_eq_getElem (l := midR l Bs (k + 1)) (i := k) (by omega)
      rw [this] at hmk
      exact Option.some.inj hmk
    rw [e1] at h1 h2 h3
    have hus : us.length = Bs.length + 1 := by rw [h.ll.2.1, hml]
    have hc1 := hown.cells (g := g) rfl k _ h1
    rw [add_at, Nat.zero_add] at hc1
    have hc2 := hown.cells (g := g) rfl (k + 1) (us[k + 1]'(by omega)) (List.getElem?_eq_getElem (by omega))
    rw [add_at, Nat.zero_add] at hc2
    have hOg : O < g := by omega
    have hll := h.ll
    have h1c := h.c1
    rw [hml] at hll hown h1c ⊢
    have s1 := LLOwn.setHead (cap := cap) (g := g) (w := w) (by rw [hml]; exact hll) (k := k + 1) (by omega) h2 (cr := ck) (fun g' off ha h0 => ⟨(h3 g' off ha h0).1, fun e => (h3 g' off ha h0).2 (by rw [e]; rfl)⟩)
    have hIl : IAt (w.setCell ⟨g, k + 1, none⟩ (.slice ak (Bs[k]'(by omega)).length ck)) la l := hI.kept (kept_set _ _ _) (fun g' off ha h0 e => (hl g' off ha h0).2 (by rw [show g' = g from e]; rfl))
    have s2 := LLOwn.setHead (cap := cap) (g := g) (LL := (midR l Bs (k + 1)).set (k + 1) (Bs[k]'(by omega))) (by rw [List.length_set, hml]; rw [hml] at s1; exact s1) (k := k) (by rw [List.length_set]; omega) hIl (cr := lc) (fun g' off ha h0 => ⟨(hl g' off ha h0).1, fun e => (hl g' off ha h0).2 (by rw [e]; rfl)⟩)
    rw [← midR_step hk, List.length_set, hml] at s2
    refine ⟨g, cap, ak, ck, rfl, ⟨hc1, h2⟩, frozen_of_heap hgb _, frozen_of_heap hgb _, ⟨_, hc2⟩, hOg, hg, _, ⟨?_, ?_, ?_, ?_, s2⟩⟩
    · rw [World.cell?_setCell_other _ _ _ _ (fun e => by have := congrArg Addr.block e; simp at this; omega), World.cell?_setCell_other _ _ _ _ (fun e => by have := congrArg Addr.block e; simp at this; omega)]; exact h.c0
    · rw [World.cell?_setCell_other _ _ _ _ (fun e => by have := congrArg Addr.block e; simp at this; omega), World.cell?_setCell_other _ _ _ _ (fun e => by have := congrArg Addr.block e; simp at this; omega)]; exact h1c
    · rw [World.frozen?_setCell, World.frozen?_setCell]; exact h.f0
    · rw [World.frozen?_setCell, World.frozen?_setCell]; exact h.f1
end Go.Proofs.Ytlebimolgienkaa
namespace Go.Proofs.Ytlebimolgienkaa
open Go.RowKit Go.Lib Go.Shelf

theorem getD_cellsM {w : World} {g off : Nat} {c : List Int} (hc : ∀ k (hk : k < c.length), w.cell? ⟨g, off + k, none⟩ = some (.int .i64 c[k])) : ∀ j, j < c.length → w.cell? ⟨g, off + j, none⟩ = some (.int .i64 (c.getD j 0)) := fun j hj => by
  rw [hc j hj]; simp [List.getD, hj]
/-- A new row: what a call tells. -/
def NewRow (L : List Int) (w w' : World) (v : Value) : Prop := w'.ownsRow w.heap.size 3 1 v L.length (L.map (Value.int .i64)) ∧ Below w.heap.size w w'
/-- The numbers of a set may be counted up. -/
def InR (l : List Int) : Prop := ∀ x ∈ l, -9223372036854775808 ≤ x ∧ x ≤ 4611686018427387904
theorem cloneM_any (a : Option Addr) (cap : Nat) (c : List Int) (w : World) (hN : c.length ≤ 1000000) (hI : IAt w a c) :
    Calls Try.prog 56 #[.slice a c.length cap] w fun e w' => ∃ v, e = .returned v ∧ NewRow c w w' v := by
  by_cases h0 : 0 < c.length
  · obtain ⟨g, off, rfl, hg, hc⟩ := hI h0
    have h := Any.slices_Clone_int Try.cloneI g off c.length cap c w (Nat.le_refl _) (by omega) (getD_cellsM hc)
    change Calls Try.prog 56 _ _ _ at h
    refine h.mono ?_
    rintro e w' ⟨v, rfl, h1, _, h3⟩
    rw [List.take_length] at h1
    exact ⟨v, rfl, h1, h3⟩
  · have hn : c = [] := List.length_eq_zero_iff.1 (by omega)
    subst hn
    cases a with
    | none =>
      have h := Any.slices_Clone_int_nil Try.cloneI 0 cap w
      change Calls Try.prog 56 _ _ _ at h
      refine h.mono ?_
      rintro e w' ⟨rfl, rfl⟩
      exact ⟨_, rfl, World.ownsRow_nil _ _ _ _, Below.refl _ _⟩
    | some p =>
      have h := Any.slices_Clone_int_zero Try.cloneI p cap w
      change Calls Try.prog 56 _ _ _ at h
      refine h.mono ?_
      rintro e w' ⟨v, rfl, h1, _, h3⟩
      exact ⟨v, rfl, h1, h3⟩
set_option maxHeartbeats 1000000 in
theorem roomF_any (p x : Int) (B : Nat) (w : World) (hb : w.cell? ⟨B, 0, none⟩ = some (.int .i64 p)) (h1 : -9223372036854775808 ≤ x) (h2 : x ≤ 4611686018427387904) :
    Calls Try.prog 94 #[.int .i64 x, .pointer (some ⟨B, 0, none⟩)] w fun e w' => e = .returned (.int .i64 (upI p x)) ∧ w' = w := by
  obtain ⟨y, hy⟩ := ex_eq (upI p x)
  rw [← hy]
  by_cases h : x < p
  · have e : y = x := by rw [hy]; unfold upI; rw [if_pos h]
    subst e
    clear hy
    go_enter Try.func94, Try.ntmps94
    go_wp2
    go_ret
    exact ⟨rfl, rfl⟩
  · have e : y = x + 1 := by rw [hy]; unfold upI; rw [if_neg h]
    subst e
    have q1 : decide (x < p) = false := decide_eq_false h
    have q2 : IntKind.i64.wrap (x + 1) = x + 1 := by rw [IntKind.wrap_i64]; omega
    clear hy
    go_enter Try.func94, Try.ntmps94
    go_wp2
    go_ret
    exact ⟨rfl, rfl⟩

set_option maxHeartbeats 4000000 in
set_option maxRecDepth 100000 in
theorem anewI_any (p : Int) (B : Nat) (a : Option Addr) (c : Nat) (l : List Int) (w : World) (hl : l.length ≤ 1000000) (hI : IAt w a l) (hb : w.cell? ⟨B, 0, none⟩ = some (.int .i64 p)) (hx : InR l) :
    Calls Try.prog 93 #[.slice a l.length c, .func (.func 94) #[] #[.pointer (some ⟨B, 0, none⟩)]] w fun e w' => ∃ v, e = .returned v ∧ NewRow (l.map (upI p)) w w' v := by
  obtain ⟨i0, hi, hz0, hz1, hz2⟩ := info_parts Try.info3
  obtain ⟨N, hNe⟩ := ex_eq l.length
  obtain ⟨D0, hD0⟩ := ex_eq w.heap.size
  obtain ⟨w1, hrun, hown, hgrow⟩ := run_make_own (P := Try.prog) w D0 28 3 i0 (.int .i64 0) 1 Try.underlying28 hi hz0 hz1 .i64 .i64 N (by rw [hz2]; omega) (by unfold maxLen; omega) (by omega)
  rw [← hD0] at hrun hown
  have hb1 : Below D0 w w1 := by rw [hD0]; exact Below.grown (Below.refl _ _) hgrow (Nat.le_refl _) (fun k hk => by cases hk)
  have HI := hid hI
  have HN := hid hNe
  have HX := hid hx
  have HB := hid hb
  have HD0 := hid hD0
  have HST : Hid (w1.ownsRow D0 3 1 (.slice (some ⟨D0, 0, none⟩) 0 N) 0 (((l.take 0).map (upI p)).map (Value.int .i64))) := hown
  have HB1 := hid hb1
  rw [← hNe] at hl ⊢
  clear hNe hown hgrow hI hx hb hb1 hD0
  go_enter Try.func93, Try.ntmps93
  go_wp2
  clear hrun
  go_loopw [5, 13] (fun v5 i wz => ∃ k : Nat, k ≤ N ∧ i = .int .i64 k ∧ Hid (wz.ownsRow D0 3 1 v5 k (((l.take k).map (upI p)).map (Value.int .i64))) ∧ Hid (Below D0 w wz)) (fun _ i _ => N - (RowKit.intOf i).toNat)
  case atStart => exact ⟨0, Nat.zero_le _, rfl, HST, HB1⟩
  case round =>
    clear HST HB1
    obtain ⟨k, hk, rfl, hown, hbz⟩ := hrel
    obtain ⟨va, vc, rfl, _⟩ := sl_own hown.out
    by_cases hlt : k < N
    · have hkr : k < l.length := by rw [← HN.out]; exact hlt
      obtain ⟨g, off, rfl, hg, hcs⟩ := HI.out (by omega)
      have d0 := (hbz.out.cell (p := ⟨g, off + k, none⟩) (by simp only; rw [HD0.out]; exact hg)).trans (hcs k hkr)
      have b0 := (hbz.out.cell (p := ⟨B, 0, none⟩) (by simp only; rw [HD0.out]; exact block_lt_of_cell HB.out)).trans HB.out
      have hxi := HX.out _ (List.getElem_mem hkr)
      obtain ⟨x, hx⟩ := ex_eq l[k]
      rw [← hx] at d0 hxi
      obtain ⟨y, hy⟩ := ex_eq (upI p x)
      have CR := hid (roomF_any p x B wr b0 hxi.1 hxi.2)
      rw [← hy] at CR
      obtain ⟨xs0, hxs0⟩ := ex_eq (((l.take k).map (upI p)).map (Value.int .i64))
      rw [← hxs0] at hown
      have HNX : Hid (((l.take (k + 1)).map (upI p)).map (Value.int .i64) = xs0 ++ [.int .i64 y]) := by
        show _ = _
        rw [hxs0, ← List.take_append_getElem hkr, List.map_append, List.map_append, ← hx, hy]; rfl
      have q1 : (k : Int) < (N : Int) := by omega
      have HOW : Hid ((wr.alloc (.cells #[.int .i64 y] 3)).ownsRow D0 3 1 (.slice va k vc) k xs0) := hown.out.alloc _
      have HNW : Hid (∀ p', some (⟨wr.heap.size, 0, none⟩ : Addr) = some p' → ∀ j u, [Value.int .i64 y][j]? = some u → (wr.alloc (.cells #[.int .i64 y] 3)).cell? (p'.add j) = some u) := news_one _
      have HON : Hid (∀ v' ∈ [Value.int .i64 y], v'.oneCell' = true) := fun v' hv => by simp at hv; rw [hv]; rfl
      have H63 : Hid (k + 1 ≤ maxLen) := by show _ ≤ _; unfold maxLen; omega
      have HBY : Hid ((k + 1) * 8 ≤ 140737488355328) := by show _ ≤ _; omega
      have HBS : Hid (D0 ≤ (wr.alloc (.cells #[.int .i64 y] 3)).heap.size) := by
        have h1 := hbz.out.size
        have h2 := HD0.out
        show D0 ≤ _; simp; omega
      have HLT : Hid (∀ q, Value.ownBlock (.slice va k vc) = some q → D0 ≤ q) := fun q hq => (hown.out.lt q hq).1
      clear hcs hxi hx hy hown hkr hxs0
      go_wp2_with fail
      refine CR.out.mono ?_
      rintro e w7 ⟨rfl, hw7⟩
      rw [hw7]
      clear hw7 CR b0 d0
      go_wp2_with (at_builtin; refine wpList_append_any _ rfl _ _ 28 rfl D0 3 i0 _ 1 8 Try.underlying28 hi hz0 hz1 hz2 rfl (by decide) _ _ _ rfl HOW.out (some ⟨wr.heap.size, 0, none⟩) 1 1 [.int .i64 y] rfl (fun h => by cases h) rfl HNW.out HON.out H63.out HBY.out HBS.out ?_)
      intro v4 w4 hown4 hgrow hat4
      have HO4 : Hid (w4.ownsRow D0 3 1 v4 (k + 1) (((l.take (k + 1)).map (upI p)).map (Value.int .i64))) := by
        show World.ownsRow _ _ _ _ _ _ _
        rw [HNX.out]; exact hown4
      have HB4 : Hid (Below D0 w w4) := (hbz.out.alloc (by rw [HD0.out]; exact Nat.le_trans (Nat.le_of_eq rfl) hbz.out.size) _).grown hgrow HBS.out HLT.out
      clear hown4 hgrow hat4 HNX HOW HNW HON H63 HBY HBS HLT hbz
      go_wp2
      go_roundw
      case rel => exact ⟨k + 1, by omega, by go_num, HO4, HB4⟩
      case measure => simp [RowKit.intOf]; omega
    · obtain rfl : k = N := by omega
      have HF : Hid (NewRow (l.map (upI p)) w wr (.slice va k vc)) := by
        have h := hown.out
        have e : l.take k = l := by rw [HN.out, List.take_length]
        rw [e] at h
        refine ⟨?_, by rw [← HD0.out]; exact hbz.out⟩
        rw [List.length_map, ← HN.out, ← HD0.out]; exact h
      clear hown hbz
      go_wp2
      go_ret
      exact ⟨_, rfl, HF.out⟩
set_option maxHeartbeats 1000000 in
theorem room_any (p : Int) (a : Option Addr) (c : Nat) (l : List Int) (w : World) (hl : l.length ≤ 1000000) (hI : IAt w a l) (hx : InR l) :
    Calls Try.prog 58 #[.slice a l.length c, .int .i64 p] w fun e w' => ∃ v, e = .returned v ∧ NewRow (l.map (upI p)) w w' v := by
  obtain ⟨W1, hW1⟩ := ex_eq (w.alloc (.cells #[.int .i64 p] 3))
  have hb1 : Below w.heap.size w W1 := by rw [hW1]; exact (Below.refl _ _).alloc (Nat.le_refl _) _
  have C := hid (anewI_any p w.heap.size a c l W1 hl (hI.below hb1) (by rw [hW1, cell_of_heap (heap_alloc_new w _)]; rfl) hx)
  have HW1 := hid hW1
  have HB1 := hid hb1
  clear hW1 hb1 hI hx hl
  go_enter Try.func58, Try.ntmps58
  go_wp2_with fail
  rw [← HW1.out]
  refine C.out.mono ?_
  rintro e w2 ⟨v, rfl, hr⟩
  have HR := hid hr
  clear C hr
  go_wp2
  go_ret
  exact ⟨v, rfl, ⟨HR.out.1.1, by rcases HR.out.1.2 with h | ⟨g, cap, cur, h1, h2, h3⟩; (· exact Or.inl h); (· exact Or.inr ⟨g, cap, cur, h1, Nat.le_trans HB1.out.size h2, h3⟩)⟩, HB1.out.trans (HR.out.2.mono HB1.out.size)⟩
end Go.Proofs.Ytlebimolgienkaa
