/-
  slices.Compact at edges, walked; graph.eachOnce.
-/
import Derived.Test.YtalhjankofdhgaaGComp
namespace Go.Proofs.Ytalhjankofdhgaa
open Go.RowKit Go.Lib Go.Sort

theorem below_setCells {base b : Nat} (hb : base ≤ b) : ∀ (vs : List Value) (o : Nat) (w : World), Below base w (w.setCells b o vs)
  | [], _, _ => Below.refl _ _
  | v :: vs, o, w => ((Below.refl base w).setCell (p := ⟨b, o, none⟩) hb v).trans (below_setCells hb vs (o + 1) _)

set_option maxHeartbeats 4000000 in
set_option maxRecDepth 1000000 in
theorem compact_any (g n cap base : Nat) (c : Nat → Int × Int) (w : World) (hb : base ≤ g) (h : Row2 w g n c) (hn : n ≤ 1000000) (hcap : n ≤ cap) (hs : ∀ i j, i < j → j < n → ltE (c j) (c i) = false) :
    Calls Try.prog 42 #[.slice (some ⟨g, 0, none⟩) n cap] w fun e w' => ∃ K c', e = .returned (.slice (some ⟨g, 0, none⟩) K cap) ∧ K ≤ n ∧ EAt w' (some ⟨g, 0, none⟩) (lst c' K) ∧ Rises (lst c' K) ∧ (∀ x, x ∈ lst c' K ↔ x ∈ lst c n) ∧ Below base w w' := by
  have HR : Hid (Row2 w g n c) := h
  have HS : Hid (∀ i j, i < j → j < n → ltE (c j) (c i) = false) := hs
  clear h hs
  by_cases h2 : n < 2
  · go_enter Try.func42, Try.ntmps42
    go_wp2
    go_ret
    exact ⟨n, c, rfl, Nat.le_refl _, HR.out.eat (Nat.le_refl _), rise_small c h2, fun _ => Iff.rfl, Below.refl _ _⟩
  go_enter Try.func42, Try.ntmps42
  go_wp2
  go_loopg [3] n (fun G v wr => ∃ m : Nat, m + 1 ≤ n ∧ n - (m + 1) ≤ G ∧ v = .int .i64 (m + 1) ∧ Hid (Row2 wr g n c) ∧ Below base w wr ∧ Hid (Rises (lst c (m + 1))))
  case atStart => exact ⟨0, by omega, by omega, by go_num, HR, Below.refl _ _, rise_small c (by omega)⟩
  case round =>
    obtain ⟨m, hm, hG, rfl, hrow, hbr, hri⟩ := hrel
    by_cases hlt : m + 1 < n
    · obtain ⟨⟨a0, _⟩, a1, _⟩ := hrow.out.2 (m + 1) hlt
      obtain ⟨⟨b0, _⟩, b1, _⟩ := hrow.out.2 m (by omega)
      have hso := same_or (c (m + 1)) (c m)
      obtain ⟨x1, hx1⟩ := ex_eq (c (m + 1)).1
      obtain ⟨x2, hx2⟩ := ex_eq (c (m + 1)).2
      obtain ⟨y1, hy1⟩ := ex_eq (c m).1
      obtain ⟨y2, hy2⟩ := ex_eq (c m).2
      rw [← hx1] at a0
      rw [← hx2] at a1
      rw [← hy1] at b0
      rw [← hy2] at b1
      rw [← hx1, ← hx2, ← hy1, ← hy2] at hso
      have HXY : Hid (x1 = (c (m + 1)).1 ∧ x2 = (c (m + 1)).2 ∧ y1 = (c m).1 ∧ y2 = (c m).2) := ⟨hx1, hx2, hy1, hy2⟩
      clear hx1 hx2 hy1 hy2
      have q0 : (m : Int) < (n : Int) := by omega
      rcases hso with ⟨e1, e2⟩ | hne
      · subst e1 e2
        have HM : Hid (Made c c (m + 1) (m + 1 + 1)) := made_start hri.out (by
          obtain ⟨h1, h2, h3, h4⟩ := HXY.out
          exact Prod.ext (h1.symm.trans h3) (h2.symm.trans h4))
        go_wp2
        go_quiet (fail)
        go_wp2
        clear a0 a1 b0 b1 HXY
        go_loopg [3, 5] n (fun G2 v3 v5 wr => ∃ (K k2 : Nat) (c' : Nat → Int × Int), v3 = .int .i64 K ∧ v5 = .int .i64 (k2 + 1) ∧ m + 1 + (k2 + 1) ≤ n ∧ n - (m + 1 + (k2 + 1)) ≤ G2 ∧ K ≤ m + 1 + k2 ∧ Hid (Row2 wr g n c') ∧ Below base w wr ∧ Hid (Made c c' K (m + 1 + k2 + 1)))
        case atStart => exact ⟨m + 1, 0, c, by go_num, by go_num, by omega, by omega, by omega, hrow.out.drewN _, below_drewN hbr _, HM⟩
        case round =>
          obtain ⟨K, k2, c', rfl, rfl, hT, hG2, hK, hrow2, hbr2, hmade⟩ := hrel
          by_cases hlt2 : m + 1 + (k2 + 1) < n
          · obtain ⟨⟨a0, _⟩, a1, _⟩ := hrow2.out.2 (m + 1 + (k2 + 1)) hlt2
            obtain ⟨⟨b0, _⟩, b1, _⟩ := hrow2.out.2 (m + 1 + k2) (by omega)
            obtain ⟨⟨k0, f0⟩, k1, f1⟩ := hrow2.out.2 K (by omega)
            rw [hmade.out.high _ (by omega)] at a0 a1 b0 b1
            have hso := same_or (c (m + 1 + (k2 + 1))) (c (m + 1 + k2))
            obtain ⟨x1, hx1⟩ := ex_eq (c (m + 1 + (k2 + 1))).1
            obtain ⟨x2, hx2⟩ := ex_eq (c (m + 1 + (k2 + 1))).2
            obtain ⟨y1, hy1⟩ := ex_eq (c (m + 1 + k2)).1
            obtain ⟨y2, hy2⟩ := ex_eq (c (m + 1 + k2)).2
            rw [← hx1] at a0
            rw [← hx2] at a1
            rw [← hy1] at b0
            rw [← hy2] at b1
            rw [← hx1, ← hx2, ← hy1, ← hy2] at hso
            have HXY : Hid (x1 = (c (m + 1 + (k2 + 1))).1 ∧ x2 = (c (m + 1 + (k2 + 1))).2 ∧ y1 = (c (m + 1 + k2)).1 ∧ y2 = (c (m + 1 + k2)).2) := ⟨hx1, hx2, hy1, hy2⟩
            rw [show (m + 1 + (k2 + 1)) * 2 = (m + 1) * 2 + (k2 + 1) * 2 by omega] at a0 a1
            rw [show (m + 1 + k2) * 2 = (m + 1) * 2 + k2 * 2 by omega] at b0 b1
            clear hx1 hx2 hy1 hy2
            have q1 : (k2 : Int) + 1 < ((n - (m + 1) : Nat) : Int) := by omega
            have q2 : (k2 : Int) < ((n - (m + 1) : Nat) : Int) := by omega
            have q3 : (K : Int) < (n : Int) := by omega
            obtain ⟨N2, hN2⟩ := ex_eq (n - (m + 1))
            rcases hso with ⟨e1, e2⟩ | ⟨e1, e2⟩ | e1
            · subst e1 e2
              have HM2 : Hid (Made c c' K (m + 1 + (k2 + 1) + 1)) := made_skip hmade.out (by
                obtain ⟨h1, h2, h3, h4⟩ := HXY.out
                exact Prod.ext (h1.symm.trans h3) (h2.symm.trans h4))
              go_wp2
              go_quiet (fail)
              go_wp2
              go_roundg (n - (m + 1 + (k2 + 1 + 1)))
              case measure => omega
              case rel => exact ⟨K, k2 + 1, c', rfl, by go_num, by omega, by omega, by omega, hrow2.out.drewN _, below_drewN hbr2 _, HM2⟩
            all_goals
              have HM2 : Hid (Made c (fun j => if j = K then c (m + 1 + (k2 + 1)) else c' j) (K + 1) (m + 1 + (k2 + 1) + 1)) := made_put hmade.out HS.out hlt2 (fun e => by
                obtain ⟨h1, h2, h3, h4⟩ := HXY.out
                have g1 : x1 = y1 := by rw [h1, h3]; exact congrArg Prod.fst e
                have g2 : x2 = y2 := by rw [h2, h4]; exact congrArg Prod.snd e
                first
                  | (rw [g2] at e2; simp at e2)
                  | (rw [g1] at e1; simp at e1))
              have HRP : Hid (∀ W, Row2 W g n c' → Row2 ((W.setCell ⟨g, K * 2, none⟩ (.int .i64 x1)).setCell ⟨g, K * 2 + 1, none⟩ (.int .i64 x2)) g n (fun j => if j = K then c (m + 1 + (k2 + 1)) else c' j)) := fun W hW => by
                have := hW.put (i := K) (by omega) (c (m + 1 + (k2 + 1)))
                obtain ⟨h1, h2, _⟩ := HXY.out
                rwa [← h1, ← h2] at this
              try subst e1
              go_wp2
              go_quiet (fail)
              go_wp2
              go_roundg (n - (m + 1 + (k2 + 1 + 1)))
              case measure => omega
              case rel => exact ⟨K + 1, k2 + 1, _, by go_num, by go_num, by omega, by omega, by omega, HRP.out _ (hrow2.out.drewN _), ((below_drewN hbr2 _).setCell (p := ⟨g, K * 2, none⟩) hb _).setCell (p := ⟨g, K * 2 + 1, none⟩) hb _, HM2⟩
          · have hend : n = m + 1 + k2 + 1 := by omega
            obtain ⟨vs, hvl, hcl⟩ := run_clear_edges wr g (K * 2) (n - K) (cap - K) (by omega) (fun j hj => by
              have := hrow2.out.2 (K + j / 2) (by omega)
              rcases Nat.mod_two_eq_zero_or_one j with h0 | h0
              · rw [show K * 2 + j = (K + j / 2) * 2 by omega, this.1.1]; rfl
              · rw [show K * 2 + j = (K + j / 2) * 2 + 1 by omega, this.2.1]; rfl) (fun j hj => by
              have := hrow2.out.2 (K + j / 2) (by omega)
              rcases Nat.mod_two_eq_zero_or_one j with h0 | h0
              · rw [show K * 2 + j = (K + j / 2) * 2 by omega]; exact this.1.2
              · rw [show K * 2 + j = (K + j / 2) * 2 + 1 by omega]; exact this.2.2)
            have HVL : Hid (vs.length = (n - K) * 2) := hvl
            have HEND : Hid (n = m + 1 + k2 + 1) := hend
            have hT' : n ≤ m + 1 + (k2 + 1) := by omega
            have q1 : ((n - (m + 1) : Nat) : Int) ≤ (k2 : Int) + 1 := by omega
            have q2 : K ≤ n := by omega
            clear hvl hend
            go_wp2
            go_ret
            refine ⟨K, c', rfl, by omega, ?_, hmade.out.rises, ?_, hbr2.trans (below_setCells hb _ _ _)⟩
            · have hE := hrow2.out.eat q2
              intro h0
              obtain ⟨g', off', e, hg', hc⟩ := hE h0
              simp only [Option.some.injEq, Addr.mk.injEq, and_true] at e
              obtain ⟨rfl, rfl⟩ := e
              refine ⟨g, 0, rfl, Nat.lt_of_lt_of_le hg' (below_setCells (Nat.le_refl g) _ _ _).size, fun k hk => ?_⟩
              have hk' : k < K := by rw [lst_len] at hk; exact hk
              rw [World.cell?_setCells_out _ _ _ _ _ (fun _ _ => Or.inl (by simp; omega)), World.cell?_setCells_out _ _ _ _ _ (fun _ _ => Or.inl (by simp; omega))]
              exact hc k hk
            · intro x
              rw [hmade.out.mem, ← HEND.out]
      · have HRN : Hid (Rises (lst c (m + 1 + 1))) := rise_next HS.out hlt (fun e => by
          obtain ⟨h1, h2, h3, h4⟩ := HXY.out
          have g1 : x1 = y1 := by rw [h1, h3]; exact congrArg Prod.fst e
          have g2 : x2 = y2 := by rw [h2, h4]; exact congrArg Prod.snd e
          rcases hne with ⟨_, e2⟩ | e1
          · rw [g2] at e2; simp at e2
          · rw [g1] at e1; simp at e1) hri.out
        rcases hne with ⟨e1, e2⟩ | e1
        all_goals
          try subst e1
          go_wp2
          go_quiet (fail)
          go_wp2
          go_roundg (n - (m + 1 + 1))
          case measure => omega
          case rel => exact ⟨m + 1, by omega, by omega, by go_num, hrow.out.drewN _, below_drewN hbr _, HRN⟩
    · obtain rfl : n = m + 1 := by omega
      go_wp2
      go_ret
      exact ⟨m + 1, c, by rfl, Nat.le_refl _, hrow.out.eat (Nat.le_refl _), hri.out, fun _ => Iff.rfl, hbr⟩

set_option maxHeartbeats 400000 in
theorem eachOnce_any (v : Value) (base : Nat) (es : List (Int × Int)) (w : World) (h : w.ownsRow base 39 2 v es.length (cellsE es)) (hbw : base ≤ w.heap.size) (hn : es.length ≤ 1000000) :
    Calls Try.prog 32 #[v] w fun e w' => ∃ a cap es', e = .returned (.slice a es'.length cap) ∧ Sl a cap es'.length ∧ EAt w' a es' ∧ (0 < es'.length → ∃ g, a = some ⟨g, 0, none⟩ ∧ base ≤ g) ∧ Rises es' ∧ (∀ x, x ∈ es' ↔ x ∈ es) ∧ Below base w w' := by
  by_cases h0 : 0 < es.length
  · obtain ⟨g, cap, rfl, hb, hcap, hrow⟩ := row2_own h h0
    have HM : Hid (∀ x, x ∈ lst (fun j => es[j]?.getD (0, 0)) es.length ↔ x ∈ es) := fun x => by rw [lst_list]
    obtain ⟨n, hne⟩ := ex_eq es.length
    rw [← hne] at hn hcap hrow ⊢
    rw [← hne] at HM
    obtain ⟨c, hc⟩ := ex_eq (fun j : Nat => es[j]?.getD ((0, 0) : Int × Int))
    rw [← hc] at hrow HM
    clear hc h h0
    have HS : Hid (∀ W, base ≤ W.heap.size → Row2 W g n c → Calls Try.prog 40 #[.slice (some ⟨g, 0, none⟩) n cap, .func (.func 41) #[] #[]] W fun e w' => e = .returned (.tuple #[]) ∧ ∃ c', Row2 w' g n c' ∧ (∀ i j, i < j → j < n → ltE (c' j) (c' i) = false) ∧ (∀ x, x ∈ lst c' n ↔ x ∈ lst c n) ∧ Below base W w') := fun W hW hr => sort_any g n cap base c W hb hW hr hn
    have HRW : Hid (Row2 w g n c) := hrow
    clear hrow hne
    go_enter Try.func32, Try.ntmps32
    go_wp2_with fail
    refine (HS.out _ hbw HRW.out).mono ?_
    rintro e w1 ⟨rfl, c', hr, hs, hm, hb1⟩
    have HC := compact_any g n cap base c' w1 hb hr hn hcap hs
    have HCH : Hid (Calls Try.prog 42 #[.slice (some ⟨g, 0, none⟩) n cap] w1 fun e w' => ∃ K c'', e = .returned (.slice (some ⟨g, 0, none⟩) K cap) ∧ K ≤ n ∧ EAt w' (some ⟨g, 0, none⟩) (lst c'' K) ∧ Rises (lst c'' K) ∧ (∀ x, x ∈ lst c'' K ↔ x ∈ lst c' n) ∧ Below base w1 w') := HC
    have HM2 : Hid (∀ x, x ∈ lst c' n ↔ x ∈ lst c n) := hm
    clear HC hr hs hm HS HRW
    go_wp2_with fail
    refine HCH.out.mono ?_
    rintro e w2 ⟨K, c'', rfl, hK, hE, hR, hm2, hb2⟩
    have HE : Hid (EAt w2 (some ⟨g, 0, none⟩) (lst c'' K)) := hE
    have HR : Hid (Rises (lst c'' K)) := hR
    have HM3 : Hid (∀ x, x ∈ lst c'' K ↔ x ∈ lst c' n) := hm2
    clear hE hR hm2 HCH
    go_wp2
    go_ret
    exact ⟨_, cap, lst c'' K, by rw [lst_len]; rfl, sl_some (by rw [lst_len]; omega), HE.out, fun _ => ⟨g, rfl, hb⟩, HR.out, fun x => ((HM3.out x).trans (HM2.out x)).trans (HM.out x), hb1.trans hb2⟩
  · have e0 : es = [] := List.eq_nil_of_length_eq_zero (by omega)
    subst e0
    obtain ⟨a, cap, rfl, hcap, _⟩ := eat_own h
    have hcon : Calls Try.prog 40 #[.slice a 0 cap, .func (.func 41) #[] #[]] w fun e w' => e = .returned (.tuple #[]) ∧ w' = w := AnyF.slices_SortFunc_none Try.sortE a cap _ w
    have hcomp : ∀ W, Calls Try.prog 42 #[.slice a 0 cap] W fun e w' => e = .returned (.slice a 0 cap) ∧ w' = W := fun W => by
      clear hcon h
      go_enter Try.func42, Try.ntmps42
      go_wp2
      go_ret
      exact ⟨rfl, rfl⟩
    have HC : Hid (∀ W, Calls Try.prog 42 #[.slice a 0 cap] W fun e w' => e = .returned (.slice a 0 cap) ∧ w' = W) := hcomp
    clear hcomp h
    go_enter Try.func32, Try.ntmps32
    go_wp2_with fail
    refine hcon.mono ?_
    rintro e w1 ⟨rfl, rfl⟩
    go_wp2_with fail
    refine (HC.out _).mono ?_
    rintro e w2 ⟨rfl, rfl⟩
    go_wp2
    go_ret
    exact ⟨a, cap, [], rfl, hcap, eat_nil _ _, fun h => absurd h (by simp), rises_nil, fun _ => Iff.rfl, Below.refl _ _⟩
end Go.Proofs.Ytalhjankofdhgaa
