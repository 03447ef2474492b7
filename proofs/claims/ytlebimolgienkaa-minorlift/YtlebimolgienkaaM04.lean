/-
  slices.Compact at edges, and graph.eachOnce: the edges of a row, rising, each once.
  slices.Compact at edges, walked; graph.eachOnce.
  graph.Normal: the edges that were told, in order, each once.
-/
import Derived.Test.YtlebimolgienkaaM03
import Derived.BigQuiet
namespace Go.Proofs.Ytlebimolgienkaa
open Go.RowKit Go.Lib Go.Sort

theorem same_or (x y : Int × Int) : (x.1 = y.1 ∧ x.2 = y.2) ∨ (x.1 = y.1 ∧ (x.2 == y.2) = false) ∨ (x.1 == y.1) = false := by
  by_cases h : x.1 = y.1
  · by_cases h2 : x.2 = y.2
    · exact Or.inl ⟨h, h2⟩
    · exact Or.inr (Or.inl ⟨h, beq_eq_false_iff_ne.2 h2⟩)
  · exact Or.inr (Or.inr (beq_eq_false_iff_ne.2 h))
theorem lt_next {c : Nat → Int × Int} {n : Nat} (hs : ∀ i j, i < j → j < n → ltE (c j) (c i) = false) {m : Nat} (hm : m + 1 < n) (hne : c (m + 1) ≠ c m) : ∀ j, j ≤ m → ltE (c j) (c (m + 1)) = true := by
  intro j hj
  cases h : ltE (c j) (c (m + 1)) with
  | true => rfl
  | false =>
    have e := ltE_tri _ _ h (hs j (m + 1) (by omega) hm)
    by_cases hjm : j = m
    · subst hjm; exact absurd e.symm hne
    · have h2 := hs j m (by omega) (by omega)
      have h3 := hs m (m + 1) (by omega) hm
      rw [e] at h2
      exact absurd (ltE_tri _ _ h3 h2) hne
theorem rise_next {c : Nat → Int × Int} {n m : Nat} (hs : ∀ i j, i < j → j < n → ltE (c j) (c i) = false) (hm : m + 1 < n) (hne : c (m + 1) ≠ c m) (h : Rises (lst c (m + 1))) : Rises (lst c (m + 1 + 1)) := by
  rw [lst_succ]
  refine rises_snoc h (fun y hy => ?_)
  obtain ⟨j, hj, rfl⟩ := mem_lst.1 hy
  exact lt_next hs hm hne j (by omega)
theorem rise_small (c : Nat → Int × Int) {n : Nat} (h : n < 2) : Rises (lst c n) := by
  unfold Rises lst
  rcases (by omega : n = 0 ∨ n = 1) with rfl | rfl <;> simp [List.range_succ]

/-- What the second loop has made: K places hold the edges of the first T, each once; those behind are as they were. -/
structure Made (c c' : Nat → Int × Int) (K T : Nat) : Prop where
  rises : Rises (lst c' K)
  mem : ∀ x, x ∈ lst c' K ↔ x ∈ lst c T
  high : ∀ j, K ≤ j → c' j = c j
theorem made_start {c : Nat → Int × Int} {m : Nat} (h : Rises (lst c (m + 1))) (e : c (m + 1) = c m) : Made c c (m + 1) (m + 1 + 1) := by
  refine ⟨h, fun x => ?_, fun _ _ => rfl⟩
  rw [lst_succ c (m + 1), List.mem_append]
  refine ⟨Or.inl, fun hx => ?_⟩
  rcases hx with hx | hx
  · exact hx
  · simp at hx
    rw [hx, e]
    exact mem_lst.2 ⟨m, by omega, rfl⟩
theorem made_skip {c c' : Nat → Int × Int} {K T : Nat} (h : Made c c' K (T + 1)) (e : c (T + 1) = c T) : Made c c' K (T + 1 + 1) := by
  refine ⟨h.rises, fun x => ?_, h.high⟩
  rw [h.mem, lst_succ c (T + 1), List.mem_append]
  refine ⟨Or.inl, fun hx => ?_⟩
  rcases hx with hx | hx
  · exact hx
  · simp at hx
    rw [hx, e]
    exact mem_lst.2 ⟨T, by omega, rfl⟩
theorem made_put {c c' : Nat → Int × Int} {K T n : Nat} (h : Made c c' K (T + 1)) (hs : ∀ i j, i < j → j < n → ltE (c j) (c i) = false) (hT : T + 1 < n) (hne : c (T + 1) ≠ c T) : Made c (fun j => if j = K then c (T + 1) else c' j) (K + 1) (T + 1 + 1) := by
  have e0 : lst (fun j => if j = K then c (T + 1) else c' j) K = lst c' K := lst_congr (fun j hj => if_neg (by omega))
  refine ⟨?_, fun x => ?_, fun j hj => ?_⟩
  · rw [lst_succ, e0]
    refine rises_snoc h.rises (fun y hy => ?_)
    rw [h.mem] at hy
    obtain ⟨j, hj, rfl⟩ := mem_lst.1 hy
    show ltE (c j) (if K = K then c (T + 1) else c' K) = true
    rw [if_pos rfl]
    exact lt_next hs hT hne j (by omega)
  · rw [lst_succ, lst_succ c (T + 1), e0, List.mem_append, List.mem_append, h.mem]
    simp
  · show (if j = K then c (T + 1) else c' j) = c j
    rw [if_neg (by omega)]
    exact h.high j (by omega)

/-- 'clear' of a row of edges: some cells of that block alone are written. -/
theorem run_clear_edges (w : World) (b o n c : Nat) (hn : 0 < n) (hc : ∀ j, j < n * 2 → (w.cell? ⟨b, o + j, none⟩).isSome = true) (hf : ∀ j, j < n * 2 → w.frozen? ⟨b, o + j, none⟩ = false) :
    ∃ vs : List Value, vs.length = n * 2 ∧ ∀ ty : TypeId, (Builtin.clear_ #[22] ty #[.slice (some ⟨b, o, none⟩) n c]).run Try.prog w = .ok (.tuple #[]) (w.setCells b o vs) := by
  obtain ⟨vs, hvs⟩ : ∃ vs : List Value, vs = (Builtin.zeroCells (Value.agg #[.int .i64 0, .int .i64 0]).cells n).toList := ⟨_, rfl⟩
  have hl : vs.length = n * 2 := by rw [hvs]; simp [Builtin.zeroCells, Value.cells]
  have h1 : ∀ v ∈ vs, v.oneCell' = true := by
    rw [hvs]
    intro v hv
    simp [Builtin.zeroCells, Value.cells] at hv
    obtain ⟨i, hi, rfl⟩ := hv
    rcases Nat.mod_two_eq_zero_or_one i with h0 | h0 <;> simp [h0] <;> rfl
  refine ⟨vs, hl, fun ty => ?_⟩
  have hst := run_storeCells_cells (P := Try.prog) b o vs 0 w (by rw [hl]; simpa using hc) (by rw [hl]; simpa using hf) h1
  simp only [Nat.add_zero] at hst
  obtain ⟨m, rfl⟩ : ∃ m, n = m + 1 := ⟨n - 1, by omega⟩
  simp [Builtin.clear_, run_underlying Try.underlying22, Try.zeroValue56, ← hvs, hst]
end Go.Proofs.Ytlebimolgienkaa
namespace Go.Proofs.Ytlebimolgienkaa
open Go.RowKit Go.Lib Go.Sort

theorem below_setCells {base b : Nat} (hb : base ≤ b) : ∀ (vs : List Value) (o : Nat) (w : World), Below base w (w.setCells b o vs)
  | [], _, _ => Below.refl _ _
  | v :: vs, o, w => ((Below.refl base w).setCell (p := ⟨b, o, none⟩) hb v).trans (below_setCells hb vs (o + 1) _)

set_option maxHeartbeats 4000000 in
set_option maxRecDepth 1000000 in
theorem compact_any (g n cap base : Nat) (c : Nat → Int × Int) (w : World) (hb : base ≤ g) (h : Row2 w g n c) (hn : n ≤ 1000000) (hcap : n ≤ cap) (hs : ∀ i j, i < j → j < n → ltE (c j) (c i) = false) :
    Calls Try.prog 142 #[.slice (some ⟨g, 0, none⟩) n cap] w fun e w' => ∃ K c', e = .returned (.slice (some ⟨g, 0, none⟩) K cap) ∧ K ≤ n ∧ EAt w' (some ⟨g, 0, none⟩) (lst c' K) ∧ Rises (lst c' K) ∧ (∀ x, x ∈ lst c' K ↔ x ∈ lst c n) ∧ Below base w w' := by
  have HR : Hid (Row2 w g n c) := h
  have HS : Hid (∀ i j, i < j → j < n → ltE (c j) (c i) = false) := hs
  clear h hs
  by_cases h2 : n < 2
  · go_enter Try.func142, Try.ntmps142
    go_wp2
    go_ret
    exact ⟨n, c, rfl, Nat.le_refl _, HR.out.eat (Nat.le_refl _), rise_small c h2, fun _ => Iff.rfl, Below.refl _ _⟩
  go_enter Try.func142, Try.ntmps142
  go_wp2
  go_loopg [3] n (fun G v wr => ∃ m : Nat, m + 1 ≤ n ∧ n - (m + 1) ≤ G ∧ v = .int .i64 (m + 1) ∧ Hid (Row2 wr g n c) ∧ Below base w wr ∧ Hid (Rises (lst c (m + 1))))
  case atStart => exact ⟨0, by omega, by omega, by go_num, HR, Below.refl _ _, rise_small c (by omega)⟩
  case round =>
    obtain ⟨m, hm, hG, rfl, hrow, hbr, hri⟩ := hrel
    by_cases hlt : m + 1 < n
    · obtain ⟨⟨a0, _⟩, a1, _⟩ := hrow.out.2 (m + 1) hlt
      obtain ⟨⟨b0, _⟩, b1, _⟩ := hrow.out.2 m (by omega)
      have hso := same_or (c (m + 1)) (c m)
      obtain ⟨x1, hx1⟩ := ex_eq (c (m + 1)).1
      obtain ⟨x2, hx2⟩ := ex_eq (c (m + 1)).2
      obtain ⟨y1, hy1⟩ := ex_eq (c m).1
      obtain ⟨y2, hy2⟩ := ex_eq (c m).2
      rw [← hx1] at a0
      rw [← hx2] at a1
      rw [← hy1] at b0
      rw [← hy2] at b1
      rw [← hx1, ← hx2, ← hy1, ← hy2] at hso
      have HXY : Hid (x1 = (c (m + 1)).1 ∧ x2 = (c (m + 1)).2 ∧ y1 = (c m).1 ∧ y2 = (c m).2) := ⟨hx1, hx2, hy1, hy2⟩
      clear hx1 hx2 hy1 hy2
      have q0 : (m : Int) < (n : Int) := by omega
      rcases hso with ⟨e1, e2⟩ | hne
      · subst e1 e2
        have HM : Hid (Made c c (m + 1) (m + 1 + 1)) := made_start hri.out (by
          obtain ⟨h1, h2, h3, h4⟩ := HXY.out
          exact Prod.ext (h1.symm.trans h3) (h2.symm.trans h4))
        go_wp2
        go_quiet (fail)
        go_wp2
        clear a0 a1 b0 b1 HXY
        go_loopg [3, 5] n (fun G2 v3 v5 wr => ∃ (K k2 : Nat) (c' : Nat → Int × Int), v3 = .int .i64 K ∧ v5 = .int .i64 (k2 + 1) ∧ m + 1 + (k2 + 1) ≤ n ∧ n - (m + 1 + (k2 + 1)) ≤ G2 ∧ K ≤ m + 1 + k2 ∧ Hid (Row2 wr g n c') ∧ Below base w wr ∧ Hid (Made c c' K (m + 1 + k2 + 1)))
        case atStart => exact ⟨m + 1, 0, c, by go_num, by go_num, by omega, by omega, by omega, hrow.out.drewN _, below_drewN hbr _, HM⟩
        case round =>
          obtain ⟨K, k2, c', rfl, rfl, hT, hG2, hK, hrow2, hbr2, hmade⟩ := hrel
          by_cases hlt2 : m + 1 + (k2 + 1) < n
          · obtain ⟨⟨a0, _⟩, a1, _⟩ := hrow2.out.2 (m + 1 + (k2 + 1)) hlt2
            obtain ⟨⟨b0, _⟩, b1, _⟩ := hrow2.out.2 (m + 1 + k2) (by omega)
            obtain ⟨⟨k0, f0⟩, k1, f1⟩ := hrow2.out.2 K (by omega)
            rw [hmade.out.high _ (by omega)] at a0 a1 b0 b1
            have hso := same_or (c (m + 1 + (k2 + 1))) (c (m + 1 + k2))
            obtain ⟨x1, hx1⟩ := ex_eq (c (m + 1 + (k2 + 1))).1
            obtain ⟨x2, hx2⟩ := ex_eq (c (m + 1 + (k2 + 1))).2
            obtain ⟨y1, hy1⟩ := ex_eq (c (m + 1 + k2)).1
            obtain ⟨y2, hy2⟩ := ex_eq (c (m + 1 + k2)).2
            rw [← hx1] at a0
            rw [← hx2] at a1
            rw [← hy1] at b0
            rw [← hy2] at b1
            rw [← hx1, ← hx2, ← hy1, ← hy2] at hso
            have HXY : Hid (x1 = (c (m + 1 + (k2 + 1))).1 ∧ x2 = (c (m + 1 + (k2 + 1))).2 ∧ y1 = (c (m + 1 + k2)).1 ∧ y2 = (c (m + 1 + k2)).2) := ⟨hx1, hx2, hy1, hy2⟩
            rw [show (m + 1 + (k2 + 1)) * 2 = (m + 1) * 2 + (k2 + 1) * 2 by omega] at a0 a1
            rw [show (m + 1 + k2) * 2 = (m + 1) * 2 + k2 * 2 by omega] at b0 b1
            clear hx1 hx2 hy1 hy2
            have q1 : (k2 : Int) + 1 < ((n - (m + 1) : Nat) : Int) := by omega
            have q2 : (k2 : Int) < ((n - (m + 1) : Nat) : Int) := by omega
            have q3 : (K : Int) < (n : Int) := by omega
            obtain ⟨N2, hN2⟩ := ex_eq (n - (m + 1))
            rcases hso with ⟨e1, e2⟩ | ⟨e1, e2⟩ | e1
            · subst e1 e2
              have HM2 : Hid (Made c c' K (m + 1 + (k2 + 1) + 1)) := made_skip hmade.out (by
                obtain ⟨h1, h2, h3, h4⟩ := HXY.out
                exact Prod.ext (h1.symm.trans h3) (h2.symm.trans h4))
              go_wp2
              go_quiet (fail)
              go_wp2
              go_roundg (n - (m + 1 + (k2 + 1 + 1)))
              case measure => omega
              case rel => exact ⟨K, k2 + 1, c', rfl, by go_num, by omega, by omega, by omega, hrow2.out.drewN _, below_drewN hbr2 _, HM2⟩
            all_goals
              have HM2 : Hid (Made c (fun j => if j = K then c (m + 1 + (k2 + 1)) else c' j) (K + 1) (m + 1 + (k2 + 1) + 1)) := made_put hmade.out HS.out hlt2 (fun e => by
                obtain ⟨h1, h2, h3, h4⟩ := HXY.out
                have g1 : x1 = y1 := by rw [h1, h3]; exact congrArg Prod.fst e
                have g2 : x2 = y2 := by rw [h2, h4]; exact congrArg Prod.snd e
                first
                  | (rw [g2] at e2; simp at e2)
                  | (rw [g1] at e1; simp at e1))
              have HRP : Hid (∀ W, Row2 W g n c' → Row2 ((W.setCell ⟨g, K * 2, none⟩ (.int .i64 x1)).setCell ⟨g, K * 2 + 1, none⟩ (.int .i64 x2)) g n (fun j => if j = K then c (m + 1 + (k2 + 1)) else c' j)) := fun W hW => by
                have := hW.put (i := K) (by omega) (c (m + 1 + (k2 + 1)))
                obtain ⟨h1, h2, _⟩ := HXY.out
                rwa [← h1, ← h2] at this
              try subst e1
              go_wp2
              go_quiet (fail)
              go_wp2
              go_roundg (n - (m + 1 + (k2 + 1 + 1)))
              case measure => omega
              case rel => exact ⟨K + 1, k2 + 1, _, by go_num, by go_num, by omega, by omega, by omega, HRP.out _ (hrow2.out.drewN _), ((below_drewN hbr2 _).setCell (p := ⟨g, K * 2, none⟩) hb _).setCell (p := ⟨g, K * 2 + 1, none⟩) hb _, HM2⟩
          · have hend : n = m + 1 + k2 + 1 := by omega
            obtain ⟨vs, hvl, hcl⟩ := run_clear_edges wr g (K * 2) (n - K) (cap - K) (by omega) (fun j hj => by
              have := hrow2.out.2 (K + j / 2) (by omega)
              rcases Nat.mod_two_eq_zero_or_one j with h0 | h0
              · rw [show K * 2 + j = (K + j / 2) * 2 by omega, this.1.1]; rfl
              · rw [show K * 2 + j = (K + j / 2) * 2 + 1 by omega, this.2.1]; rfl) (fun j hj => by
              have := hrow2.out.2 (K + j / 2) (by omega)
              rcases Nat.mod_two_eq_zero_or_one j with h0 | h0
              · rw [show K * 2 + j = (K + j / 2) * 2 by omega]; exact this.1.2
              · rw [show K * 2 + j = (K + j / 2) * 2 + 1 by omega]; exact this.2.2)
            have HVL : Hid (vs.length = (n - K) * 2) := hvl
            have HEND : Hid (n = m + 1 + k2 + 1) := hend
            have hT' : n ≤ m + 1 + (k2 + 1) := by omega
            have q1 : ((n - (m + 1) : Nat) : Int) ≤ (k2 : Int) + 1 := by omega
            have q2 : K ≤ n := by omega
            clear hvl hend
            go_wp2
            go_ret
            refine ⟨K, c', rfl, by omega, ?_, hmade.out.rises, ?_, hbr2.trans (below_setCells hb _ _ _)⟩
            · have hE := hrow2.out.eat q2
              intro h0
              obtain ⟨g', off', e, hg', hc⟩ := hE h0
              simp only [Option.some.injEq, Addr.mk.injEq, and_true] at e
              obtain ⟨rfl, rfl⟩ := e
              refine ⟨g, 0, rfl, Nat.lt_of_lt_of_le hg' (below_setCells (Nat.le_refl g) _ _ _).size, fun k hk => ?_⟩
              have hk' : k < K := by rw [lst_len] at hk; exact hk
              rw [World.cell?_setCells_out _ _ _ _ _ (fun _ _ => Or.inl (by simp; omega)), World.cell?_setCells_out _ _ _ _ _ (fun _ _ => Or.inl (by simp; omega))]
              exact hc k hk
            · intro x
              rw [hmade.out.mem, ← HEND.out]
      · have HRN : Hid (Rises (lst c (m + 1 + 1))) := rise_next HS.out hlt (fun e => by
          obtain ⟨h1, h2, h3, h4⟩ := HXY.out
          have g1 : x1 = y1 := by rw [h1, h3]; exact congrArg Prod.fst e
          have g2 : x2 = y2 := by rw [h2, h4]; exact congrArg Prod.snd e
          rcases hne with ⟨_, e2⟩ | e1
          · rw [g2] at e2; simp at e2
          · rw [g1] at e1; simp at e1) hri.out
        rcases hne with ⟨e1, e2⟩ | e1
        all_goals
          try subst e1
          go_wp2
          go_quiet (fail)
          go_wp2
          go_roundg (n - (m + 1 + 1))
          case measure => omega
          case rel => exact ⟨m + 1, by omega, by omega, by go_num, hrow.out.drewN _, below_drewN hbr _, HRN⟩
    · obtain rfl : n = m + 1 := by omega
      go_wp2
      go_ret
      exact ⟨m + 1, c, by rfl, Nat.le_refl _, hrow.out.eat (Nat.le_refl _), hri.out, fun _ => Iff.rfl, hbr⟩

set_option maxHeartbeats 400000 in
theorem eachOnce_any (v : Value) (base : Nat) (es : List (Int × Int)) (w : World) (h : w.ownsRow base 56 2 v es.length (cellsE es)) (hbw : base ≤ w.heap.size) (hn : es.length ≤ 1000000) :
    Calls Try.prog 123 #[v] w fun e w' => ∃ a cap es', e = .returned (.slice a es'.length cap) ∧ Sl a cap es'.length ∧ EAt w' a es' ∧ (0 < es'.length → ∃ g, a = some ⟨g, 0, none⟩ ∧ base ≤ g) ∧ Rises es' ∧ (∀ x, x ∈ es' ↔ x ∈ es) ∧ Below base w w' := by
  by_cases h0 : 0 < es.length
  · obtain ⟨g, cap, rfl, hb, hcap, hrow⟩ := row2_own h h0
    have HM : Hid (∀ x, x ∈ lst (fun j => es[j]?.getD (0, 0)) es.length ↔ x ∈ es) := fun x => by rw [lst_list]
    obtain ⟨n, hne⟩ := ex_eq es.length
    rw [← hne] at hn hcap hrow ⊢
    rw [← hne] at HM
    obtain ⟨c, hc⟩ := ex_eq (fun j : Nat => es[j]?.getD ((0, 0) : Int × Int))
    rw [← hc] at hrow HM
    clear hc h h0
    have HS : Hid (∀ W, base ≤ W.heap.size → Row2 W g n c → Calls Try.prog 140 #[.slice (some ⟨g, 0, none⟩) n cap, .func (.func 141) #[] #[]] W fun e w' => e = .returned (.tuple #[]) ∧ ∃ c', Row2 w' g n c' ∧ (∀ i j, i < j → j < n → ltE (c' j) (c' i) = false) ∧ (∀ x, x ∈ lst c' n ↔ x ∈ lst c n) ∧ Below base W w') := fun W hW hr => sort_any g n cap base c W hb hW hr hn
    have HRW : Hid (Row2 w g n c) := hrow
    clear hrow hne
    go_enter Try.func123, Try.ntmps123
    go_wp2_with fail
    refine (HS.out _ hbw HRW.out).mono ?_
    rintro e w1 ⟨rfl, c', hr, hs, hm, hb1⟩
    have HC := compact_any g n cap base c' w1 hb hr hn hcap hs
    have HCH : Hid (Calls Try.prog 142 #[.slice (some ⟨g, 0, none⟩) n cap] w1 fun e w' => ∃ K c'', e = .returned (.slice (some ⟨g, 0, none⟩) K cap) ∧ K ≤ n ∧ EAt w' (some ⟨g, 0, none⟩) (lst c'' K) ∧ Rises (lst c'' K) ∧ (∀ x, x ∈ lst c'' K ↔ x ∈ lst c' n) ∧ Below base w1 w') := HC
    have HM2 : Hid (∀ x, x ∈ lst c' n ↔ x ∈ lst c n) := hm
    clear HC hr hs hm HS HRW
    go_wp2_with fail
    refine HCH.out.mono ?_
    rintro e w2 ⟨K, c'', rfl, hK, hE, hR, hm2, hb2⟩
    have HE : Hid (EAt w2 (some ⟨g, 0, none⟩) (lst c'' K)) := hE
    have HR : Hid (Rises (lst c'' K)) := hR
    have HM3 : Hid (∀ x, x ∈ lst c'' K ↔ x ∈ lst c' n) := hm2
    clear hE hR hm2 HCH
    go_wp2
    go_ret
    exact ⟨_, cap, lst c'' K, by rw [lst_len]; rfl, sl_some (by rw [lst_len]; omega), HE.out, fun _ => ⟨g, rfl, hb⟩, HR.out, fun x => ((HM3.out x).trans (HM2.out x)).trans (HM.out x), hb1.trans hb2⟩
  · have e0 : es = [] := List.eq_nil_of_length_eq_zero (by omega)
    subst e0
    obtain ⟨a, cap, rfl, hcap, _⟩ := eat_own h
    have hcon : Calls Try.prog 140 #[.slice a 0 cap, .func (.func 141) #[] #[]] w fun e w' => e = .returned (.tuple #[]) ∧ w' = w := AnyF.slices_SortFunc_none Try.sortE a cap _ w
    have hcomp : ∀ W, Calls Try.prog 142 #[.slice a 0 cap] W fun e w' => e = .returned (.slice a 0 cap) ∧ w' = W := fun W => by
      clear hcon h
      go_enter Try.func142, Try.ntmps142
      go_wp2
      go_ret
      exact ⟨rfl, rfl⟩
    have HC : Hid (∀ W, Calls Try.prog 142 #[.slice a 0 cap] W fun e w' => e = .returned (.slice a 0 cap) ∧ w' = W) := hcomp
    clear hcomp h
    go_enter Try.func123, Try.ntmps123
    go_wp2_with fail
    refine hcon.mono ?_
    rintro e w1 ⟨rfl, rfl⟩
    go_wp2_with fail
    refine (HC.out _).mono ?_
    rintro e w2 ⟨rfl, rfl⟩
    go_wp2
    go_ret
    exact ⟨a, cap, [], rfl, hcap, eat_nil _ _, fun h => absurd h (by simp), rises_nil, fun _ => Iff.rfl, Below.refl _ _⟩
end Go.Proofs.Ytlebimolgienkaa
namespace Go.Proofs.Ytlebimolgienkaa
open Go.RowKit Go.Lib

theorem two_cells {w : World} {b : Nat} {x y : Value} {T : TypeId} {fr : Nat × Nat} (h : w.heap[b]? = some (.cells #[x, y] T fr)) : w.cell? ⟨b, 0, none⟩ = some x ∧ w.cell? ⟨b, 1, none⟩ = some y := ⟨cell_of_heap h 0, cell_of_heap h 1⟩
theorem cells_two {w : World} {b : Nat} {x y : Value} {T : TypeId} {fr : Nat × Nat} (h : w.heap[b]? = some (.cells #[x, y] T fr)) : ∀ j v, [x, y][j]? = some v → w.cell? ((⟨b, 0, none⟩ : Addr).add j) = some v := by
  intro j v hj
  rw [add_at, Nat.zero_add, cell_of_heap h]
  simpa using hj
theorem allIn_snoc {n : Int} {l : List (Int × Int)} {e : Int × Int} (h : AllIn n l) (he : (0 ≤ e.1 ∧ e.1 < n) ∧ (0 ≤ e.2 ∧ e.2 < n)) : AllIn n (l ++ [e]) := by
  intro x hx
  rcases List.mem_append.1 hx with hx | hx
  · exact h x hx
  · simp at hx; subst hx; exact he
theorem allIn_take {n : Int} {l : List (Int × Int)} {k : Nat} (hk : k < l.length) (h : AllIn n (l.take k)) (he : (0 ≤ l[k].1 ∧ l[k].1 < n) ∧ (0 ≤ l[k].2 ∧ l[k].2 < n)) : AllIn n (l.take (k + 1)) := by
  rw [List.take_succ_eq_append_getElem hk]
  exact allIn_snoc h he

/-- What Normal answers. -/
def NormE (n : Int) (l : List (Int × Int)) (er : Int) (es : List (Int × Int)) : Prop :=
  (n < 0 ∧ er = 1 ∧ es = []) ∨ (1000 < n ∧ er = 5 ∧ es = []) ∨ ((0 ≤ n ∧ n ≤ 1000) ∧ ¬ AllIn n l ∧ er = 4 ∧ es = []) ∨
  ((0 ≤ n ∧ n ≤ 1000) ∧ AllIn n l ∧ er = 5 ∧ es = [] ∧ ∃ x, IsNorm l x ∧ 4000 < x.length) ∨ ((0 ≤ n ∧ n ≤ 1000) ∧ AllIn n l ∧ er = 0 ∧ IsNorm l es ∧ es.length ≤ 4000)
def nOf (n er : Int) : Int := if er = 0 then n else 0

set_option maxHeartbeats 2000000 in
set_option maxRecDepth 100000 in
theorem normal_any (n : Int) (a : Option Addr) (cap : Nat) (l : List (Int × Int)) (w : World) (hN : l.length ≤ 1000000) (hE : EAt w a l) :
    Calls Try.prog 100 #[.int .i64 n, .slice a l.length cap] w fun e w' => ∃ er es a' cap', e = .returned (.tuple #[.agg #[.int .i64 (nOf n er), .slice a' es.length cap'], .int .i64 er]) ∧ NormE n l er es ∧ Sl a' cap' es.length ∧ EAt w' a' es ∧ Below w.heap.size w w' := by
  obtain ⟨i0, hi, hz0, hz1, hz2⟩ := info_parts Try.info56
  obtain ⟨N, hNe⟩ : ∃ N, N = l.length := ⟨_, rfl⟩
  rw [← hNe] at hN ⊢
  have HN : Hid (N = l.length) := hNe
  have HE : Hid (EAt w a l) := hE
  clear hNe hE
  by_cases h1 : n < 0
  · go_enter Try.func100, Try.ntmps100
    go_wp2
    refine bodyPost_ret (v := .tuple #[.agg #[.int .i64 0, .slice none 0 0], .int .i64 1]) ?_ rfl ⟨1, [], none, 0, rfl, Or.inl ⟨h1, rfl, rfl⟩, sl_nil, eat_nil _ _, (Below.refl _ _).alloc (Nat.le_refl _) _⟩
    rw [results_cell_tmp rfl]
    go_simp
  by_cases h2 : 1000 < n
  · go_enter Try.func100, Try.ntmps100
    go_wp2
    refine bodyPost_ret (v := .tuple #[.agg #[.int .i64 0, .slice none 0 0], .int .i64 5]) ?_ rfl ⟨5, [], none, 0, rfl, Or.inr (Or.inl ⟨h2, rfl, rfl⟩), sl_nil, eat_nil _ _, (Below.refl _ _).alloc (Nat.le_refl _) _⟩
    rw [results_cell_tmp rfl]
    go_simp
  have h1' : 0 ≤ n := by omega
  have h2' : n ≤ 1000 := by omega
  clear h1 h2
  go_enter Try.func100, Try.ntmps100
  go_wp2
  obtain ⟨W0, hW0⟩ : ∃ W0, W0 = w.alloc (.cells #[.int .i64 0, .slice none 0 0] 26) := ⟨_, rfl⟩
  have hsz0 : W0.heap.size = w.heap.size + 1 := by rw [hW0]; simp
  have HBX : Hid (W0.heap[w.heap.size]? = some (.cells #[.int .i64 0, .slice none 0 0] 26 (0, 0))) := by
    show W0.heap[w.heap.size]? = _
    rw [hW0]; exact heap_alloc_new _ _
  have HB0 : Hid (Below w.heap.size w W0) := by
    show Below w.heap.size w W0
    rw [hW0]; exact (Below.refl _ _).alloc (Nat.le_refl _) _
  rw [← hW0]
  clear hW0
  have HE0 : Hid (EAt W0 a l) := HE.out.below HB0.out
  go_loopw [6, 19] (fun v i wr => ∃ k : Nat, k ≤ N ∧ i = .int .i64 k ∧ Hid (wr.ownsRow W0.heap.size 56 2 v (prs (l.take k)).length (cellsE (prs (l.take k)))) ∧ Hid (AllIn n (l.take k)) ∧ Below W0.heap.size W0 wr) (fun _ i _ => N - (RowKit.intOf i).toNat)
  case atStart => exact ⟨0, Nat.zero_le _, rfl, World.ownsRow_nil _ _ _ _, fun e he => absurd he (by simp), Below.refl _ _⟩
  case round =>
    obtain ⟨k, hk, rfl, hown, hall, hbr⟩ := hrel
    have hszr := hbr.size
    rw [hsz0] at hszr
    by_cases hlt : k < N
    · have hkr : k < l.length := by rw [← HN.out]; exact hlt
      obtain ⟨g, off, rfl, hg, hcs⟩ := HE0.out.at hkr
      obtain ⟨e1, he1⟩ := ex_eq l[k].1
      obtain ⟨e2, he2⟩ := ex_eq l[k].2
      have d := hcs wr hbr k hkr
      rw [← he1, ← he2] at d
      obtain ⟨d0, d1⟩ := d
      have HES : Hid (e1 = l[k].1 ∧ e2 = l[k].2) := ⟨he1, he2⟩
      obtain ⟨b1, hb1⟩ := ex_eq (decide (0 ≤ e1 ∧ e1 < n))
      obtain ⟨b2, hb2⟩ := ex_eq (decide (0 ≤ e2 ∧ e2 < n))
      have HV1 : Hid (∀ W, Calls Try.prog 68 #[.int .i64 n, .int .i64 e1] W fun e w' => e = .returned (.bool b1) ∧ w' = W) := fun W => by rw [hb1]; exact isVertex_any n e1 W
      have HV2 : Hid (∀ W, Calls Try.prog 68 #[.int .i64 n, .int .i64 e2] W fun e w' => e = .returned (.bool b2) ∧ w' = W) := fun W => by rw [hb2]; exact isVertex_any n e2 W
      have HBB : Hid (b1 = decide (0 ≤ e1 ∧ e1 < n) ∧ b2 = decide (0 ≤ e2 ∧ e2 < n)) := ⟨hb1, hb2⟩
      have bx := HBX.out
      have bxr : (wr.alloc (.cells #[.int .i64 e1, .int .i64 e2] 56)).heap[w.heap.size]? = some (.cells #[.int .i64 0, .slice none 0 0] 26 (0, 0)) := by
        rw [Below.heap_alloc _ _ _ (by omega)]
        exact (hbr.block _ (by omega)).trans bx
      obtain ⟨x0, x1⟩ := two_cells bxr
      have xf := frozen_of_heap bxr
      have hbV : Below W0.heap.size W0 (wr.alloc (.cells #[.int .i64 e1, .int .i64 e2] 56)) := hbr.alloc hbr.size _
      clear hcs he1 he2 hb1 hb2 bx bxr
      have bad : b1 = false ∨ b2 = false → Hid (¬ AllIn n l) := fun h ha => by
        have hx := ha l[k] (List.getElem_mem _)
        obtain ⟨he1, he2⟩ := HES.out
        obtain ⟨hb1, hb2⟩ := HBB.out
        rw [← he1, ← he2] at hx
        rcases h with h | h
        · rw [h] at hb1
          have := of_decide_eq_false hb1.symm
          exact this hx.1
        · rw [h] at hb2
          have := of_decide_eq_false hb2.symm
          exact this hx.2
      cases b1 with
      | false =>
        have HBAD := bad (Or.inl rfl)
        clear bad
        go_wp2_with (go_at_call 68; refine (HV1.out _).mono ?_; rintro e w' ⟨rfl, rfl⟩)
        refine bodyPost_ret (v := .tuple #[.agg #[.int .i64 0, .slice none 0 0], .int .i64 4]) ?_ rfl ⟨4, [], none, 0, rfl, Or.inr (Or.inr (Or.inl ⟨⟨h1', h2'⟩, HBAD.out, rfl, rfl⟩)), sl_nil, eat_nil _ _, ?_⟩
        · rw [results_cell_tmp rfl]
          go_simp
        · exact (HB0.out.trans (hbV.mono (by omega))).trans (((Below.refl _ _).setCell (p := ⟨w.heap.size, 0, none⟩) (Nat.le_refl _) _).setCell (p := ⟨w.heap.size, 1, none⟩) (Nat.le_refl _) _)
      | true =>
        cases b2 with
        | false =>
          have HBAD := bad (Or.inr rfl)
          clear bad
          go_wp2_with fail
          refine (HV1.out _).mono ?_
          rintro e w' ⟨rfl, rfl⟩
          go_wp2_with fail
          refine (HV2.out _).mono ?_
          rintro e w' ⟨rfl, rfl⟩
          go_wp2
          refine bodyPost_ret (v := .tuple #[.agg #[.int .i64 0, .slice none 0 0], .int .i64 4]) ?_ rfl ⟨4, [], none, 0, rfl, Or.inr (Or.inr (Or.inl ⟨⟨h1', h2'⟩, HBAD.out, rfl, rfl⟩)), sl_nil, eat_nil _ _, ?_⟩
          · rw [results_cell_tmp rfl]
            go_simp
          · exact (HB0.out.trans (hbV.mono (by omega))).trans (((Below.refl _ _).setCell (p := ⟨w.heap.size, 0, none⟩) (Nat.le_refl _) _).setCell (p := ⟨w.heap.size, 1, none⟩) (Nat.le_refl _) _)
        | true =>
          clear bad
          have HIN : Hid (AllIn n (l.take (k + 1))) := allIn_take hkr hall.out (by
            obtain ⟨he1, he2⟩ := HES.out
            obtain ⟨hb1, hb2⟩ := HBB.out
            rw [← he1, ← he2]
            exact ⟨of_decide_eq_true hb1.symm, of_decide_eq_true hb2.symm⟩)
          have HPR : Hid (prs (l.take (k + 1)) = prs (l.take k) ++ prs [(e1, e2)]) := by
            show prs (l.take (k + 1)) = _
            rw [List.take_succ_eq_append_getElem hkr, prs_snoc, HES.out.1, HES.out.2]
          have hownV : (wr.alloc (.cells #[.int .i64 e1, .int .i64 e2] 56)).ownsRow W0.heap.size 56 2 u6 (prs (l.take k)).length (cellsE (prs (l.take k))) := hown.out.alloc _
          by_cases heq : e1 = e2
          · subst heq
            have HO : Hid ((wr.alloc (.cells #[.int .i64 e1, .int .i64 e1] 56)).ownsRow W0.heap.size 56 2 u6 (prs (l.take (k + 1))).length (cellsE (prs (l.take (k + 1))))) := by
              show World.ownsRow _ _ _ _ _ _ _
              rw [HPR.out, prs_same rfl, List.append_nil]
              exact hownV
            clear hownV
            go_wp2_with fail
            refine (HV1.out _).mono ?_
            rintro e w' ⟨rfl, rfl⟩
            go_wp2_with fail
            refine (HV2.out _).mono ?_
            rintro e w' ⟨rfl, rfl⟩
            go_wp2
            go_roundw
            case rel => exact ⟨k + 1, by omega, by go_num, HO, HIN, hbV⟩
            case measure => simp [RowKit.intOf]; omega
          · have hbq : (e1 == e2) = false := beq_eq_false_iff_ne.2 heq
            have hlen : (prs (l.take k)).length ≤ k := Nat.le_trans (prs_len _) (by rw [List.length_take]; omega)
            have HPR2 : Hid (prs (l.take (k + 1)) = prs (l.take k) ++ [(min e1 e2, max e1 e2)]) := by
              show prs (l.take (k + 1)) = _
              rw [HPR.out, prs_one heq]
            have HOV : Hid ((wr.alloc (.cells #[.int .i64 e1, .int .i64 e2] 56)).ownsRow W0.heap.size 56 2 u6 (prs (l.take k)).length (cellsE (prs (l.take k)))) := hownV
            clear hownV
            go_wp2_with fail
            refine (HV1.out _).mono ?_
            rintro e w' ⟨rfl, rfl⟩
            go_wp2_with fail
            refine (HV2.out _).mono ?_
            rintro e w' ⟨rfl, rfl⟩
            go_wp2_with fail
            refine (joining_any e1 e2 _).mono ?_
            rintro e w2 ⟨rfl, os, hw2⟩
            have hbg := grow_below (wr.alloc (.cells #[.int .i64 e1, .int .i64 e2] 56)) os
            rw [← hw2] at hbg
            have hown2 := own_below HOV.out hbg
            have hb2 : Below W0.heap.size W0 w2 := hbV.trans (hbg.mono hbV.size)
            have hs2 := hb2.size
            obtain ⟨lo, hlo⟩ := ex_eq (min e1 e2)
            obtain ⟨hi', hhi⟩ := ex_eq (max e1 e2)
            rw [← hlo, ← hhi]
            have HLH : Hid (lo = min e1 e2 ∧ hi' = max e1 e2) := ⟨hlo, hhi⟩
            obtain ⟨P, hP⟩ := ex_eq (prs (l.take k))
            rw [← hP] at hlen hown2
            have HP : Hid (P = prs (l.take k)) := hP
            clear hw2 hbg hlo hhi x0 x1 xf d0 d1 hP hown HOV HPR
            go_wp2_with (at_builtin; refine wpList_append_own _ rfl _ _ 22 rfl W0.heap.size 56 i0 _ 2 16 Try.underlying22 hi hz0 hz1 hz2 rfl (by decide) _ _ _ rfl (hown2.alloc _) _ 1 1 [.int .i64 lo, .int .i64 hi'] rfl rfl ?c1 ?c2 ?c3 ?c4 ?c5 ?_)
            case c1 => exact cells_two (heap_alloc_new _ _)
            case c2 =>
              intro u hu
              simp at hu
              rcases hu with rfl | rfl <;> rfl
            case c3 => unfold maxLen; omega
            case c4 => omega
            case c5 => simp; omega
            intro v' w4 hown4 hgrow _
            have hb4 : Below W0.heap.size W0 w4 := Below.grown (hb2.alloc hs2 _) hgrow (by simp; omega) (fun j hj => (hown2.lt j hj).1)
            have HO : Hid (w4.ownsRow W0.heap.size 56 2 v' (prs (l.take (k + 1))).length (cellsE (prs (l.take (k + 1))))) := by
              show w4.ownsRow W0.heap.size 56 2 v' (prs (l.take (k + 1))).length (cellsE (prs (l.take (k + 1))))
              rw [HPR2.out, ← HP.out, ← HLH.out.1, ← HLH.out.2, cellsE_append, List.length_append, hsz0]
              exact hown4
            clear hgrow hown2 hown4 hi hz0 hz1 hz2
            go_wp2
            go_roundw
            case rel => exact ⟨k + 1, by omega, by go_num, HO, HIN, hb4⟩
            case measure => simp [RowKit.intOf]; omega
    · obtain rfl : k = N := by omega
      have htk : l.take k = l := by rw [HN.out, List.take_length]
      rw [htk] at hown hall
      have hpl : (prs l).length ≤ 1000000 := Nat.le_trans (prs_len _) (by rw [← HN.out]; exact hN)
      have HEO : Hid (Calls Try.prog 123 #[u6] wr fun e w' => ∃ a cap es', e = .returned (.slice a es'.length cap) ∧ Sl a cap es'.length ∧ EAt w' a es' ∧ (0 < es'.length → ∃ g, a = some ⟨g, 0, none⟩ ∧ W0.heap.size ≤ g) ∧ Rises es' ∧ (∀ x, x ∈ es' ↔ x ∈ prs l) ∧ Below W0.heap.size wr w') := eachOnce_any u6 W0.heap.size (prs l) wr hown.out hbr.size hpl
      clear hown hi hz0 hz1 hz2 htk
      go_wp2_with fail
      refine HEO.out.mono ?_
      rintro e w2 ⟨a2, cap2, es, rfl, hcap, hE2, hge, hR2, hm2, hb2⟩
      have HGE : Hid (0 < es.length → ∃ g, a2 = some ⟨g, 0, none⟩ ∧ W0.heap.size ≤ g) := hge
      clear hge
      have HNM : Hid (IsNorm l es) := ⟨hR2, hm2⟩
      have HE2 : Hid (EAt w2 a2 es) := hE2
      have hbw : Below W0.heap.size W0 w2 := hbr.trans hb2
      have bx : w2.heap[w.heap.size]? = some (.cells #[.int .i64 0, .slice none 0 0] 26 (0, 0)) := (hbw.block _ (by omega)).trans HBX.out
      obtain ⟨x0, x1⟩ := two_cells bx
      have xf := frozen_of_heap bx
      have hs2 := hbw.size
      obtain ⟨M, hM⟩ := ex_eq es.length
      have HM : Hid (M = es.length) := hM
      have HSL : Hid (Sl a2 cap2 es.length) := hcap
      rw [← hM]
      clear hcap hE2 hR2 hm2 hb2 bx HEO hM
      by_cases h4 : 4000 < M
      · have h4' : (4000 : Int) < (M : Int) := by omega
        go_wp2
        refine bodyPost_ret (v := .tuple #[.agg #[.int .i64 0, .slice none 0 0], .int .i64 5]) ?_ rfl ⟨5, [], none, 0, rfl, Or.inr (Or.inr (Or.inr (Or.inl ⟨⟨h1', h2'⟩, hall.out, rfl, rfl, es, HNM.out, by rw [← HM.out]; exact h4⟩))), sl_nil, eat_nil _ _, ?_⟩
        · rw [results_cell_tmp rfl]
          go_simp
        · exact (HB0.out.trans (hbw.mono (by omega))).trans (((Below.refl _ _).setCell (p := ⟨w.heap.size, 0, none⟩) (Nat.le_refl _) _).setCell (p := ⟨w.heap.size, 1, none⟩) (Nat.le_refl _) _)
      · have h4' : ¬ (4000 : Int) < (M : Int) := by omega
        go_wp2
        refine bodyPost_ret (v := .tuple #[.agg #[.int .i64 n, .slice a2 M cap2], .int .i64 0]) ?_ rfl ⟨0, es, a2, cap2, by rw [← HM.out]; rfl, Or.inr (Or.inr (Or.inr (Or.inr ⟨⟨h1', h2'⟩, hall.out, rfl, HNM.out, by rw [← HM.out]; omega⟩))), HSL.out, ?_, ?_⟩
        · rw [results_cell_tmp rfl]
          go_simp
        · have hne : ∀ g off, 0 < es.length → a2 = some ⟨g, off, none⟩ → g ≠ w.heap.size := fun g off h0 ha => by
            obtain ⟨g', hg', hge⟩ := HGE.out h0
            rw [hg'] at ha
            simp only [Option.some.injEq, Addr.mk.injEq, and_true] at ha
            omega
          exact (HE2.out.set (p := ⟨w.heap.size, 0, none⟩) hne _).set (p := ⟨w.heap.size, 1, none⟩) hne _
        · exact (HB0.out.trans (hbw.mono (by omega))).trans (((Below.refl _ _).setCell (p := ⟨w.heap.size, 0, none⟩) (Nat.le_refl _) _).setCell (p := ⟨w.heap.size, 1, none⟩) (Nat.le_refl _) _)
end Go.Proofs.Ytlebimolgienkaa
