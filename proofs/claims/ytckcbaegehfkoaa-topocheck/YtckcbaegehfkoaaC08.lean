/-
  The document's Normal.
  carcanetlaw03.GraphNormal answers true.
  The document's Any: a graph that is right, from anything.
-/
import Derived.Test.YtckcbaegehfkoaaC06
import Derived.Deep.LoopGhost
import Derived.Test.YtckcbaegehfkoaaC03
import Derived.Test.YtckcbaegehfkoaaC02
import Derived.Test.YtckcbaegehfkoaaC01
namespace Go.Proofs.Ytckcbaegehfkoaa
open Go.RowKit Go.Lib

theorem EAt.at' {w : World} {a : Option Addr} {l : List (Int × Int)} (h : EAt w a l) {k : Nat} (hk : k < l.length) : ∃ g off, a = some ⟨g, off, none⟩ ∧ w.cell? ⟨g, off + k * 2, none⟩ = some (.int .i64 l[k].1) ∧ w.cell? ⟨g, off + k * 2 + 1, none⟩ = some (.int .i64 l[k].2) := by
  obtain ⟨g, off, ha, _, hc⟩ := h (by omega)
  exact ⟨g, off, ha, (hc k hk).1, (hc k hk).2⟩
theorem range_or (e1 e2 m : Int) : (e1 < 0 ∨ (0 ≤ e1 ∧ e2 < 0) ∨ (0 ≤ e1 ∧ 0 ≤ e2 ∧ m ≤ e1) ∨ (0 ≤ e1 ∧ 0 ≤ e2 ∧ e1 < m ∧ m ≤ e2)) ∨ ((0 ≤ e1 ∧ e1 < m) ∧ (0 ≤ e2 ∧ e2 < m)) := by omega

set_option maxHeartbeats 4000000 in
set_option maxRecDepth 100000 in
theorem rnormal_any (n : Int) (a : Option Addr) (cap : Nat) (l : List (Int × Int)) (w : World) (hN : l.length ≤ 1000000) (hE : EAt w a l) :
    Calls Try.prog 27 #[.int .i64 n, .slice a l.length cap] w fun e w' => ∃ er es a' cap', e = .returned (.tuple #[.agg #[.int .i64 (nOf n er), .slice a' es.length cap'], .int .i64 er]) ∧ NormE n l er es ∧ Sl a' cap' es.length ∧ EAt w' a' es ∧ Below w.heap.size w w' := by
  obtain ⟨i0, hi, hz0, hz1, hz2⟩ := info_parts Try.info3
  obtain ⟨i1, hj, hy0, hy1, hy2⟩ := info_parts Try.info59
  obtain ⟨N, hNe⟩ : ∃ N, N = l.length := ⟨_, rfl⟩
  rw [← hNe] at hN ⊢
  have HN : Hid (N = l.length) := hNe
  have HE : Hid (EAt w a l) := hE
  clear hNe hE
  by_cases h1 : n < 0
  · go_enter Try.func27, Try.ntmps27
    go_wp2
    refine bodyPost_ret (v := .tuple #[.agg #[.int .i64 0, .slice none 0 0], .int .i64 1]) ?_ rfl ⟨1, [], none, 0, rfl, Or.inl ⟨h1, rfl, rfl⟩, sl_nil, eat_nil _ _, (Below.refl _ _).alloc (Nat.le_refl _) _⟩
    rw [results_cell_tmp rfl]
    go_simp
  by_cases h2 : 1000 < n
  · go_enter Try.func27, Try.ntmps27
    go_wp2
    refine bodyPost_ret (v := .tuple #[.agg #[.int .i64 0, .slice none 0 0], .int .i64 5]) ?_ rfl ⟨5, [], none, 0, rfl, Or.inr (Or.inl ⟨h2, rfl, rfl⟩), sl_nil, eat_nil _ _, (Below.refl _ _).alloc (Nat.le_refl _) _⟩
    rw [results_cell_tmp rfl]
    go_simp
  have h1' : 0 ≤ n := by omega
  have h2' : n ≤ 1000 := by omega
  obtain ⟨m, rfl⟩ : ∃ m : Nat, n = m := ⟨n.toNat, by omega⟩
  have hm : m ≤ 1000 := by omega
  clear h1 h2
  have hmk := fun W => run_make_row' (P := Try.prog) 26 25 (.slice none 0 0) 24 Try.underlying26 Try.info25 rfl .i64 .i64 m (by omega) (by omega) W
  obtain ⟨W1, hW1, hs1, o1, o2, hB1⟩ := new_two w (.cells #[.int .i64 0, .slice none 0 0] 30) (.cells (madeCells #[.slice none 0 0] m) 25)
  have hsA : (w.alloc (.cells #[.int .i64 0, .slice none 0 0] 30)).heap.size = w.heap.size + 1 := by simp
  have HUP : Hid (UpAt W1 (w.heap.size + 1) (w.heap.size + 1 + 1) m (fun _ => .slice none 0 0) (fun _ => [])) := by
    show UpAt W1 (w.heap.size + 1) (w.heap.size + 1 + 1) m (fun _ => .slice none 0 0) (fun _ => [])
    rw [hW1, ← hsA]; exact up_made _ m
  have HW1 : Hid (W1 = (w.alloc (.cells #[.int .i64 0, .slice none 0 0] 30)).alloc (.cells (madeCells #[.slice none 0 0] m) 25)) := hW1
  have HO1 : Hid (W1.heap[w.heap.size]? = some (.cells #[.int .i64 0, .slice none 0 0] 30)) := o1
  clear hW1 o1 o2 hsA
  go_enter Try.func27, Try.ntmps27
  go_wp2
  rw [← HW1.out]
  clear hmk HW1
  go_loopw [7] (fun i wr => ∃ k : Nat, k ≤ N ∧ i = .int .i64 k ∧ Hid (∃ u R, UpAt wr (w.heap.size + 1) (w.heap.size + 1 + 1) m u R ∧ RInv m (l.take k) R ∧ AllIn m (l.take k)) ∧ Below (w.heap.size + 1) W1 wr) (fun i _ => N - (RowKit.intOf i).toNat)
  case atStart => exact ⟨0, Nat.zero_le _, rfl, ⟨_, _, HUP.out, rinv_nil m, fun e he => absurd he (by simp)⟩, Below.refl _ _⟩
  case round =>
    obtain ⟨k, hk, rfl, hup, hbr⟩ := hrel
    have hszr := hbr.size
    rw [hs1] at hszr
    have hbw : Below w.heap.size w wr := hB1.trans (hbr.mono (by omega))
    have hb0 := (hbr.block w.heap.size (by omega)).trans HO1.out
    obtain ⟨u, R, HU, HR, HA⟩ := hup.out
    have HUr : Hid (UpAt wr (w.heap.size + 1) (w.heap.size + 1 + 1) m u R) := HU
    have HRr : Hid (RInv m (l.take k) R) := HR
    have HAr : Hid (AllIn m (l.take k)) := HA
    clear HU HR HA hup
    by_cases hlt : k < N
    · have hkr : k < l.length := by rw [← HN.out]; exact hlt
      obtain ⟨g, off, rfl, d0, d1⟩ := (HE.out.below hbw).at' hkr
      obtain ⟨e1, he1⟩ := ex_eq l[k].1
      obtain ⟨e2, he2⟩ := ex_eq l[k].2
      rw [← he1] at d0
      rw [← he2] at d1
      have HES : Hid (e1 = l[k].1 ∧ e2 = l[k].2) := ⟨he1, he2⟩
      have q1 : (k : Int) < (N : Int) := by omega
      clear he1 he2
      rcases range_or e1 e2 m with hbad | hin
      · have HBAD : Hid (¬ AllIn m l) := fun ha => by
          have hx := ha l[k] (List.getElem_mem _)
          rw [← HES.out.1, ← HES.out.2] at hx
          omega
        obtain ⟨x0, x1⟩ := two_cells hb0
        have xf := frozen_of_heap hb0
        have HBB : Hid (Below w.heap.size w ((wr.setCell ⟨w.heap.size, 0, none⟩ (.int .i64 0)).setCell ⟨w.heap.size, 1, none⟩ (.slice none 0 0))) := hbw.trans (((Below.refl _ _).setCell (p := ⟨w.heap.size, 0, none⟩) (Nat.le_refl _) _).setCell (p := ⟨w.heap.size, 1, none⟩) (Nat.le_refl _) _)
        clear hi hz0 hz1 hz2 hj hy0 hy1 hy2
        rcases hbad with hx | ⟨hx, hy⟩ | ⟨hx, hy, hz⟩ | ⟨hx, hy, hz, hu⟩
        all_goals
          go_wp2
          refine bodyPost_ret (v := .tuple #[.agg #[.int .i64 0, .slice none 0 0], .int .i64 4]) ?_ rfl ⟨4, [], none, 0, rfl, Or.inr (Or.inr (Or.inl ⟨⟨h1', h2'⟩, HBAD.out, rfl, rfl⟩)), sl_nil, eat_nil _ _, HBB.out⟩
          rw [results_cell_tmp rfl]
          go_simp
      · have HIN : Hid (AllIn m (l.take (k + 1))) := allIn_take hkr HAr.out (by rw [← HES.out.1, ← HES.out.2]; exact hin)
        have HTK : Hid (l.take (k + 1) = l.take k ++ [(e1, e2)]) := by
          show l.take (k + 1) = _
          rw [List.take_succ_eq_append_getElem hkr, HES.out.1, HES.out.2]
        obtain ⟨⟨z1, z2⟩, z3, z4⟩ := hin
        clear hb0
        by_cases heq : e1 = e2
        · subst heq
          have HNX : Hid (∃ u R, UpAt wr (w.heap.size + 1) (w.heap.size + 1 + 1) m u R ∧ RInv m (l.take (k + 1)) R ∧ AllIn m (l.take (k + 1))) := ⟨u, R, HUr.out, by rw [HTK.out]; exact rinv_skip HRr.out rfl, HIN.out⟩
          clear hi hz0 hz1 hz2 hj hy0 hy1 hy2
          go_wp2
          go_roundw
          case rel => exact ⟨k + 1, by omega, by go_num, HNX, hbr⟩
          case measure => simp [RowKit.intOf]; omega
        · have hbq : (e1 == e2) = false := beq_eq_false_iff_ne.2 heq
          obtain ⟨lo, hlo⟩ : ∃ lo : Nat, min e1 e2 = (lo : Int) := ⟨(min e1 e2).toNat, by omega⟩
          obtain ⟨hi', hhi⟩ := ex_eq (max e1 e2)
          have hmax := hhi.symm
          have hlom : lo < m := by omega
          have hlom' : (lo : Int) < (m : Int) := by omega
          have hlo0 : (0 : Int) ≤ (lo : Int) := by omega
          obtain ⟨ar, car, hul, hIA⟩ := HUr.out.iat hlom
          have cl := HUr.out.row.cell hlom
          rw [hul] at cl
          have HRL : Hid ((R lo).length ≤ k) := by
            have := (HRr.out lo hlom).2.1
            rw [List.length_take] at this
            show (R lo).length ≤ k
            omega
          obtain ⟨q, hq⟩ := ex_eq (decide (hi' ∈ R lo))
          obtain ⟨len, hlen⟩ := ex_eq (R lo).length
          have HIC : Hid (Calls Try.prog 61 #[.slice ar len car, .int .i64 hi'] wr fun e w' => e = .returned (.bool q) ∧ w' = wr) := by
            show Calls _ _ _ _ _
            rw [hq, hlen]
            exact in_any ar car (R lo) hi' wr (by have := HRL.out; omega) hIA
          rw [← hlen] at cl
          have HEQ : Hid (q = decide (hi' ∈ R lo) ∧ len = (R lo).length ∧ u lo = .slice ar len car ∧ (lo : Int) = min e1 e2 ∧ hi' = max e1 e2 ∧ e1 ≠ e2) := ⟨hq, hlen, by rw [hul, hlen], hlo.symm, hhi, heq⟩
          have hbq' : (e1 != e2) = true := by simp [bne, hbq]
          clear hq hlen hul hIA hhi
          cases q with
          | true =>
            have HNX : Hid (∃ u R, UpAt wr (w.heap.size + 1) (w.heap.size + 1 + 1) m u R ∧ RInv m (l.take (k + 1)) R ∧ AllIn m (l.take (k + 1))) := ⟨u, R, HUr.out, by
              rw [HTK.out]
              refine rinv_has (lo := lo) HRr.out HEQ.out.2.2.2.2.2 HEQ.out.2.2.2.1 hlom ?_
              show max e1 e2 ∈ R lo
              rw [← HEQ.out.2.2.2.2.1]
              exact of_decide_eq_true HEQ.out.1.symm, HIN.out⟩
            clear hi hz0 hz1 hz2 hj hy0 hy1 hy2
            go_wp2_with fail
            refine HIC.out.mono ?_
            rintro e w' ⟨rfl, rfl⟩
            go_wp2
            go_roundw
            case rel => exact ⟨k + 1, by omega, by go_num, HNX, hbr⟩
            case measure => simp [RowKit.intOf]; omega
          | false =>
            go_wp2_with fail
            refine HIC.out.mono ?_
            rintro e w' ⟨rfl, rfl⟩
            have hown := HUr.out.own lo hlom
            rw [HEQ.out.2.2.1, ← HEQ.out.2.1] at hown
            have hlk : len ≤ k := by rw [HEQ.out.2.1]; exact HRL.out
            have HOW : Hid (w'.ownsRow (w.heap.size + 1 + 1) 3 1 (.slice ar len car) len ((R lo).map (Value.int .i64))) := hown
            obtain ⟨L, hL⟩ := ex_eq ((R lo).map (Value.int .i64))
            rw [← hL] at hown
            have HL : Hid (L = (R lo).map (Value.int .i64)) := hL
            clear hL HOW cl d0 d1 HIC
            have cl : (w'.alloc (.cells #[.int .i64 hi'] 3)).cell? ⟨w.heap.size + 1, lo, none⟩ = some (.slice ar len car) := cell_alloc_old (by have := HUr.out.row.cell hlom; rwa [HEQ.out.2.2.1] at this) _
            have cl0 : w'.cell? ⟨w.heap.size + 1, lo, none⟩ = some (.slice ar len car) := by have := HUr.out.row.cell hlom; rwa [HEQ.out.2.2.1] at this
            clear cl
            go_wp2_with (at_builtin; refine wpList_append_lies _ rfl _ _ 25 rfl (w.heap.size + 1 + 1) 3 i0 _ 1 8 Try.underlying25 hi hz0 hz1 hz2 rfl (by decide) _ _ _ rfl (hown.alloc _) _ 1 1 [.int .i64 hi'] rfl rfl ?c1 ?c2 (by decide) ?c3 ?c4 ?c5 (w'.heap.size + 1) ?c6 ?_)
            case c1 => exact cells_one (heap_alloc_new _ _)
            case c2 => intro x hx; simp at hx; subst hx; rfl
            case c3 => unfold maxLen; omega
            case c4 => omega
            case c5 => simp; omega
            case c6 => simp
            intro g' cap' w4 hown4 hgrow hat hglt
            have hub : ∀ b, (Value.slice ar len car).ownBlock = some b → w.heap.size + 1 + 1 ≤ b := fun b hb => (hown.lt b hb).1
            have hne : some (w.heap.size + 1) ≠ (Value.slice ar len car).ownBlock := fun e => by have := hub _ e.symm; omega
            have c4 : w4.cell? ⟨w.heap.size + 1, lo, none⟩ = some (.slice ar len car) := (hgrow.cell_far ⟨w.heap.size + 1, lo, none⟩ (by simp; omega) hne).trans (cell_alloc_old cl0 _)
            have f4 : w4.frozen? ⟨w.heap.size + 1, lo, none⟩ = false := (hgrow.frozen_far ⟨w.heap.size + 1, lo, none⟩ (by simp; omega) hne).trans ((HUr.out.row.alloc _).frozen lo)
            have hb4 : Below (w.heap.size + 1) W1 w4 := Below.grown (hbr.alloc (by omega) _) hgrow (by simp; omega) (fun j hj => by have := hub j hj; omega)
            have HB5 : Hid (Below (w.heap.size + 1) W1 (w4.setCell ⟨w.heap.size + 1, lo, none⟩ (.slice (some ⟨g', 0, none⟩) (len + 1) cap'))) := hb4.setCell (p := ⟨w.heap.size + 1, lo, none⟩) (by simp) _
            have HNX : Hid (∃ u R, UpAt (w4.setCell ⟨w.heap.size + 1, lo, none⟩ (.slice (some ⟨g', 0, none⟩) (len + 1) cap')) (w.heap.size + 1) (w.heap.size + 1 + 1) m u R ∧ RInv m (l.take (k + 1)) R ∧ AllIn m (l.take (k + 1))) := by
              refine ⟨_, _, UpAt.put (x := hi') (g' := g') (cap' := cap') HUr.out hlom (by rw [← HEQ.out.2.1]) (by rw [← HEQ.out.2.1, ← HL.out]; exact hown4) (by rw [HEQ.out.2.2.1]; exact hgrow) (by rw [HEQ.out.2.2.1]; exact hat), ?_, HIN.out⟩
              rw [HTK.out, HEQ.out.2.2.2.2.1]
              refine rinv_put (lo := lo) HRr.out HEQ.out.2.2.2.2.2 HEQ.out.2.2.2.1 hlom ?_
              show max e1 e2 ∉ R lo
              rw [← HEQ.out.2.2.2.2.1]
              exact of_decide_eq_false HEQ.out.1.symm
            clear hi hz0 hz1 hz2 hj hy0 hy1 hy2 hown hown4 hgrow hat hub hne hb4 cl0
            go_wp2
            go_roundw
            case rel => exact ⟨k + 1, by omega, by go_num, HNX, HB5.out⟩
            case measure => simp [RowKit.intOf]; omega
    · obtain rfl : k = N := by omega
      have htk : l.take k = l := by rw [HN.out, List.take_length]
      rw [htk] at HRr HAr
      have HNM : Hid (IsNorm l (ES m R)) := es_norm HRr.out HAr.out
      have HEL : Hid ((ES m R).length ≤ k) := by rw [HN.out]; exact HNM.out.len
      clear htk
      have hkN : k = k := rfl
      obtain ⟨W2, hW2⟩ := ex_eq wr
      subst hW2
      obtain ⟨B, hB⟩ := ex_eq W2.heap.size
      obtain ⟨V, hV⟩ := ex_eq (W2.alloc (.cells #[.int .i64 m, .slice none 0 0] 30))
      have hbV : Below B W2 V := by rw [hV, hB]; exact (Below.refl _ _).alloc (Nat.le_refl _) _
      have HG0 : Hid (∃ sv, GAcc V B m sv (ES 0 R) none []) := ⟨.slice none 0 0, by rw [hV, hB]; exact heap_alloc_new _ _, World.ownsRow_nil _ _ _ _, iat_nil _ _, fun g off h0 => absurd h0 (by simp)⟩
      have HB : Hid (B = W2.heap.size) := hB
      have HV : Hid (V = W2.alloc (.cells #[.int .i64 m, .slice none 0 0] 30)) := hV
      have hB2 : w.heap.size + 1 + 1 ≤ B := by omega
      have HU2 : Hid (∀ X, Below B W2 X → UpAt X (w.heap.size + 1) (w.heap.size + 1 + 1) m u R) := fun X h => HUr.out.below (by rw [← hB]; exact h)
      have HS2 : Hid (∀ X, Below B W2 X → X.heap[w.heap.size]? = some (.cells #[.int .i64 0, .slice none 0 0] 30)) := fun X h => (h.block w.heap.size (by omega)).trans hb0
      have HRK : Hid (∀ c, c < m → (R c).length ≤ k) := fun c hc => by rw [HN.out]; exact (HRr.out c hc).2.1
      clear hkN hV HUr HRr hszr hbr hb0 HUP HO1 hs1 hB1 hi hz0 hz1 hz2 hlt hk
      go_wp2
      rw [← HV.out, ← HB.out]
      clear HV hB
      go_loopg [12] m (fun G i wz => ∃ c : Nat, c ≤ m ∧ m - c ≤ G ∧ i = .int .i64 c ∧ Hid (∃ sv, GAcc wz B m sv (ES c R) none []) ∧ Below B W2 wz)
      case atStart => exact ⟨0, Nat.zero_le _, by omega, rfl, HG0, hbV⟩
      case round =>
        obtain ⟨c, hcm, hG, rfl, hga, hb2⟩ := hrel
        by_cases hclt : c < m
        · obtain ⟨ar, car, huc, hIA⟩ := (HU2.out wr hb2).iat hclt
          have cl := (HU2.out wr hb2).row.cell hclt
          rw [huc] at cl
          obtain ⟨len, hlen⟩ := ex_eq (R c).length
          obtain ⟨S, hS⟩ := ex_eq (srt [] (R c))
          have hSC := sorted_any ar car (R c) wr (by have := HRK.out c hclt; omega) hIA
          rw [← hlen, ← hS] at hSC
          rw [← hlen] at cl
          have HSC : Hid (Calls Try.prog 29 #[.slice ar len car] wr fun e w' => ∃ v, e = .returned v ∧ w'.ownsRow wr.heap.size 3 1 v S.length (S.map (Value.int .i64)) ∧ Below wr.heap.size wr w') := hSC
          have HSE : Hid (S = srt [] (R c)) := hS
          have q2 : (c : Int) < (m : Int) := by omega
          have q3 : (0 : Int) ≤ (c : Int) := by omega
          clear hSC hS hlen huc hIA
          go_wp2_with fail
          refine HSC.out.mono ?_
          rintro e w5 ⟨v5, rfl, hown5, hb5⟩
          obtain ⟨a5, c5, rfl, hIA5⟩ := iat_own hown5
          obtain ⟨M, hM⟩ := ex_eq S.length
          rw [← hM]
          have HM : Hid (M = S.length) := hM
          have hb25 : Below B W2 w5 := hb2.trans (hb5.mono (by rw [HB.out]; exact (by rw [HB.out] at hb2; exact hb2.size)))
          have HG5 : Hid (∃ sv, GAcc w5 B m sv (ES c R ++ (ER c R).take 0) a5 S) := by
            obtain ⟨sv, h⟩ := hga.out
            exact ⟨sv, by rw [List.take_zero, List.append_nil]; exact h.below hb5 hIA5 (own_ge hown5)⟩
          have hML : (ES c R).length + M ≤ k := by
            have h1 := es_le R (show c + 1 ≤ m by omega)
            rw [es_succ, List.length_append, er_len, ← HSE.out, ← HM.out] at h1
            have := HEL.out
            omega
          clear hown5 hb5 hIA5 hga hM cl HSC hb2
          go_wp2
          go_loopg [14] M (fun G2 i wz => ∃ j : Nat, j ≤ M ∧ M - j ≤ G2 ∧ i = .int .i64 j ∧ Hid (∃ sv, GAcc wz B m sv (ES c R ++ (ER c R).take j) a5 S) ∧ Below B W2 wz)
          case atStart => exact ⟨0, Nat.zero_le _, by omega, rfl, HG5, hb25⟩
          case round =>
            obtain ⟨j, hjm, hG2, rfl, hga, hb2⟩ := hrel
            by_cases hjlt : j < M
            · obtain ⟨sv, hacc⟩ := hga.out
              have HAC : Hid (GAcc wr B m sv (ES c R ++ (ER c R).take j) a5 S) := hacc
              have hjS : j < S.length := by rw [← HM.out]; exact hjlt
              obtain ⟨g5, o5, rfl, _, hc5⟩ := hacc.row (by omega)
              have r0 := hc5 j hjS
              obtain ⟨x, hx⟩ := ex_eq S[j]
              rw [← hx] at r0
              have HNX2 : Hid (ES c R ++ (ER c R).take (j + 1) = (ES c R ++ (ER c R).take j) ++ [((c : Int), x)]) := by
                show ES c R ++ (ER c R).take (j + 1) = (ES c R ++ (ER c R).take j) ++ [((c : Int), x)]
                have hjs2 : j < (srt [] (R c)).length := by rw [← HSE.out]; exact hjS
                have hxx : x = (srt [] (R c))[j] := by rw [hx]; congr 1
                rw [er_take hjs2, ← List.append_assoc, ← hxx]
              have hKl : (ES c R ++ (ER c R).take j).length ≤ 1000000 := by
                rw [List.length_append, List.length_take, er_len, ← HSE.out, ← HM.out]; omega
              obtain ⟨P, hP⟩ := ex_eq (ES c R ++ (ER c R).take j)
              rw [← hP] at HAC HNX2 hKl hacc
              obtain ⟨aS, cs, hsv, hsl, _⟩ := eat_own hacc.own
              subst hsv
              have b1 : wr.cell? ⟨B, 1, none⟩ = some (.slice aS P.length cs) := cell_of_heap hacc.box 1
              obtain ⟨K, hK⟩ := ex_eq P.length
              have HK : Hid (K = P.length) := hK
              rw [← hK] at b1 HAC hKl
              have q4 : (j : Int) < (M : Int) := by omega
              have q5 : (0 : Int) ≤ (j : Int) := by omega
              have HOW : Hid ((wr.drew.alloc (.cells #[.int .i64 c, .int .i64 x] 59)).ownsRow (B + 1) 59 2 (.slice aS K cs) K (cellsE P)) := by
                have h := HAC.out.own
                rw [← hK] at h
                exact World.ownsRow.alloc (w := wr.drew) h _
              have HNW : Hid (∀ i v, [Value.int .i64 (c : Int), .int .i64 x][i]? = some v → (wr.drew.alloc (.cells #[.int .i64 c, .int .i64 x] 59)).cell? ((⟨wr.heap.size, 0, none⟩ : Addr).add i) = some v) := cells_two (heap_alloc_new wr.drew _)
              have HON : Hid (∀ v ∈ [Value.int .i64 (c : Int), .int .i64 x], v.oneCell' = true) := fun v hv => by simp at hv; rcases hv with rfl | rfl <;> rfl
              have H63 : Hid (K + 1 ≤ maxLen) := by show K + 1 ≤ maxLen; unfold maxLen; omega
              have HBY : Hid ((K + 1) * 16 ≤ 140737488355328) := by show (K + 1) * 16 ≤ 140737488355328; omega
              have hBw : B < wr.heap.size := (Array.getElem?_eq_some_iff.1 hacc.box).1
              have HBS : Hid (B + 1 ≤ (wr.drew.alloc (.cells #[.int .i64 c, .int .i64 x] 59)).heap.size) := by show B + 1 ≤ _; simp; omega
              have HSZ : Hid ((wr.drew.alloc (.cells #[.int .i64 c, .int .i64 x] 59)).heap.size = wr.heap.size + 1) := by show _ = _; simp
              have HKP : Hid (∀ w4, (wr.drew.alloc (.cells #[.int .i64 c, .int .i64 x] 59)).grownBy w4 (Value.slice aS K cs).ownBlock → w4.cell? ⟨B, 1, none⟩ = some (.slice aS K cs) ∧ w4.frozen? ⟨B, 1, none⟩ = false ∧ Below B W2 w4) := fun w4 hg => by
                have h := HAC.out.keep hg
                refine ⟨cell_of_heap h 1, frozen_of_heap h 1, ?_⟩
                refine Below.grown (hb2.drew.alloc (by show B ≤ wr.heap.size; omega) _) hg (by simp; omega) (fun b hb => ?_)
                have := (HAC.out.own.lt b hb).1
                omega
              clear hK hP hacc hc5 hx hsl hga
              go_wp2_with fail
              go_region_law (refine step_append_lies _ rfl (.tmp 104) (.tmp 111) 22 rfl (B + 1) 59 i1 _ 2 16 Try.underlying22 hj hy0 hy1 hy2 rfl (by decide) (.slice aS K cs) K (cellsE P) (by simp [Act.eval]) HOW.out ⟨wr.heap.size, 0, none⟩ 1 1 [.int .i64 c, .int .i64 x] (by simp [Act.eval]) rfl HNW.out HON.out (by decide) H63.out HBY.out HBS.out (wr.heap.size + 1) HSZ.out ?_; intro g' cap' w4 hown4 hgrow hat hglt; have b4 := (HKP.out _ hgrow).1; have f4 := (HKP.out _ hgrow).2.1)
              all_goals
                have HNXT : Hid (∃ sv, GAcc (w4.setCell ⟨B, 1, none⟩ (.slice (some ⟨g', 0, none⟩) (K + 1) cap')) B m sv (ES c R ++ (ER c R).take (j + 1)) (some ⟨g5, o5, none⟩) S) := ⟨.slice (some ⟨g', 0, none⟩) (K + 1) cap', by rw [HNX2.out]; exact GAcc.put (g' := g') (cap' := cap') HAC.out hgrow (by rw [← HK.out]) (by rw [← HK.out]; exact hown4) hat⟩
                have HB5 : Hid (Below B W2 (w4.setCell ⟨B, 1, none⟩ (.slice (some ⟨g', 0, none⟩) (K + 1) cap'))) := (HKP.out _ hgrow).2.2.setCell (p := ⟨B, 1, none⟩) (Nat.le_refl _) _
                clear hown4 hgrow hat hglt b4 f4 HKP HSZ HBS HBY H63 HON HNW HOW HAC hj hy0 hy1 hy2 b1 r0
                go_wp2
                go_roundg (M - (j + 1))
                case measure => omega
                case rel => exact ⟨j + 1, by omega, Nat.le_refl _, by go_num, HNXT, HB5.out⟩
            · obtain rfl : j = M := by omega
              have HGN : Hid (∃ sv, GAcc wr B m sv (ES (c + 1) R) none []) := by
                obtain ⟨sv, h⟩ := hga.out
                rw [show (ER c R).take j = ER c R from List.take_of_length_le (by rw [er_len, ← HSE.out, ← HM.out]; exact Nat.le_refl _), ← es_succ] at h
                exact ⟨sv, h.box, h.own, iat_nil _ _, fun g off h0 => absurd h0 (by simp)⟩
              clear hga hj hy0 hy1 hy2
              go_wp2
              go_roundg (m - (c + 1))
              case measure => omega
              case rel => exact ⟨c + 1, by omega, Nat.le_refl _, by go_num, HGN, hb2⟩
        · obtain rfl : c = m := by omega
          obtain ⟨sv, hacc⟩ := hga.out
          obtain ⟨aS, cs, hsv, hsl, hea⟩ := eat_own hacc.own
          subst hsv
          have hge := own_ge hacc.own
          have b0 := cell_of_heap hacc.box 0
          have b1 := cell_of_heap hacc.box 1
          have hb0 := HS2.out wr hb2
          obtain ⟨x0, x1⟩ := two_cells hb0
          have xf := frozen_of_heap hb0
          obtain ⟨K, hK⟩ := ex_eq (ES c R).length
          have HK : Hid (K = (ES c R).length) := hK
          have HSL : Hid (Sl aS cs (ES c R).length) := hsl
          have HEA : Hid (EAt wr aS (ES c R)) := hea
          have HGE : Hid (∀ g off, aS = some ⟨g, off, none⟩ → B + 1 ≤ g) := hge
          rw [← hK] at b1
          have hbwr : Below w.heap.size w wr := hbw.trans (hb2.mono (by omega))
          have hSs := hbwr.size
          clear hacc hsl hea hge hb0 hga hK hj hy0 hy1 hy2
          by_cases h4 : 4000 < K
          · have h4' : (4000 : Int) < (K : Int) := by omega
            go_wp2
            refine bodyPost_ret (v := .tuple #[.agg #[.int .i64 0, .slice none 0 0], .int .i64 5]) ?_ rfl ⟨5, [], none, 0, rfl, Or.inr (Or.inr (Or.inr (Or.inl ⟨⟨h1', h2'⟩, HAr.out, rfl, rfl, ES c R, HNM.out, by rw [← HK.out]; exact h4⟩))), sl_nil, eat_nil _ _, ?_⟩
            · rw [results_cell_tmp rfl]
              go_simp
            · exact hbwr.trans (((Below.refl _ _).setCell (p := ⟨w.heap.size, 0, none⟩) (Nat.le_refl _) _).setCell (p := ⟨w.heap.size, 1, none⟩) (Nat.le_refl _) _)
          · have h4' : ¬ (4000 : Int) < (K : Int) := by omega
            go_wp2
            refine bodyPost_ret (v := .tuple #[.agg #[.int .i64 c, .slice aS K cs], .int .i64 0]) ?_ rfl ⟨0, ES c R, aS, cs, by rw [← HK.out]; rfl, Or.inr (Or.inr (Or.inr (Or.inr ⟨⟨h1', h2'⟩, HAr.out, rfl, HNM.out, by rw [← HK.out]; omega⟩))), HSL.out, ?_, ?_⟩
            · rw [results_cell_tmp rfl]
              go_simp
            · have hne : ∀ g off, 0 < (ES c R).length → aS = some ⟨g, off, none⟩ → g ≠ w.heap.size := fun g off _ ha => by have := HGE.out g off ha; omega
              exact (HEA.out.set (p := ⟨w.heap.size, 0, none⟩) hne _).set (p := ⟨w.heap.size, 1, none⟩) hne _
            · exact hbwr.trans (((Below.refl _ _).setCell (p := ⟨w.heap.size, 0, none⟩) (Nat.le_refl _) _).setCell (p := ⟨w.heap.size, 1, none⟩) (Nat.le_refl _) _)
end Go.Proofs.Ytckcbaegehfkoaa
namespace Go.Proofs.Ytckcbaegehfkoaa
open Go.RowKit Go.Lib

/-- A graph is laid into a new variable. -/
theorem gc_new {w : World} {n : Int} {a : Option Addr} {k cap : Nat} {es : List (Int × Int)} (h : EAt w a es) : GC (w.alloc (.cells #[.int .i64 n, .slice a k cap] 30)) w.heap.size n a k cap es :=
  ⟨cell_of_heap (heap_alloc_new _ _) 0, cell_of_heap (heap_alloc_new _ _) 1, h.below ((Below.refl _ _).alloc (Nat.le_refl _) _)⟩
theorem below_new (w : World) (o : Obj) : Below w.heap.size w (w.alloc o) := (Below.refl _ _).alloc (Nat.le_refl _) _

end Go.Proofs.Ytckcbaegehfkoaa
namespace Go.Proofs.Ytckcbaegehfkoaa
open Go.RowKit Go.Lib

theorem and_low (n : Int) : bits .and .i64 n 65535 = n % 65536 := by
  have hm : (BitVec.ofInt 64 65535).toNat = 2 ^ 16 - 1 := by decide
  have e : (BitVec.ofInt 64 n &&& BitVec.ofInt 64 65535).toNat = (n % ((2 ^ 64 : Nat) : Int)).toNat % 2 ^ 16 := by
    rw [BitVec.toNat_and, BitVec.toNat_ofInt, hm, Nat.and_two_pow_sub_one_eq_mod]
  show IntKind.i64.wrap ((BitVec.ofInt 64 n &&& BitVec.ofInt 64 65535).toNat : Nat) = n % 65536
  rw [e, IntKind.wrap_i64]
  omega
theorem rnd_of (x : Int) {m : Nat} (hm : 0 < m) : ∃ p : Nat, (bits .and .i64 x 65535).tmod (m : Int) = (p : Int) ∧ p < m := by
  rw [and_low]
  have h0 : 0 ≤ x % 65536 := by omega
  obtain ⟨a, ha⟩ := Int.eq_ofNat_of_zero_le h0
  rw [ha]
  refine ⟨a % m, ?_, Nat.mod_lt _ hm⟩
  rw [Int.tmod_eq_emod_of_nonneg (by omega)]
  exact (Int.natCast_emod a m).symm
theorem allIn_put {n : Int} {l : List (Int × Int)} {p q : Int} (h : AllIn n l) (hp : 0 ≤ p ∧ p < n) (hq : 0 ≤ q ∧ q < n) : AllIn n (l ++ [(p, q)]) := fun e he => by
  rcases List.mem_append.1 he with h1 | h1
  · exact h e h1
  · simp at h1; subst h1; exact ⟨hp, hq⟩
/-- Told edges, each between two of m vertices, lie behind each other in a row of the call's own. -/
structure Told (w : World) (base m k : Nat) (v : Value) (P : List (Int × Int)) : Prop where
  own : w.ownsRow base 59 2 v P.length (cellsE P)
  all : AllIn m P
  len : P.length ≤ k
  pos : 0 < m ∨ P = []
theorem told_nil (w : World) (base m : Nat) : Told w base m 0 (.slice none 0 0) [] := ⟨World.ownsRow_nil _ _ _ _, fun e he => absurd he (by simp), Nat.le_refl _, Or.inr rfl⟩
theorem Told.put {w w4 : World} {base m k p q : Nat} {v v4 : Value} {P : List (Int × Int)} (h : Told w base m k v P) (hp : p < m) (hq : q < m) (ho : w4.ownsRow base 59 2 v4 (P.length + 1) (cellsE P ++ [.int .i64 p, .int .i64 q])) : Told w4 base m (k + 1) v4 (P ++ [((p : Int), (q : Int))]) :=
  ⟨by rw [cellsE_append, List.length_append]; exact ho, allIn_put h.all ⟨by omega, by omega⟩ ⟨by omega, by omega⟩, by have := h.len; simp; omega, Or.inl (by omega)⟩
theorem normE_told {m : Nat} {P ys : List (Int × Int)} {er : Int} (h : NormE m P er ys) (hm : m ≤ 1000) (ha : AllIn m P) (hl : P.length ≤ 4000) : er = 0 ∧ IsNorm P ys ∧ ys.length ≤ P.length ∧ RightG m ys := by
  rcases h with ⟨h, _⟩ | ⟨h, _⟩ | ⟨_, h, _⟩ | ⟨_, _, _, _, zs, hz, hzl⟩ | ⟨h1, h2, h3, hz, hzl⟩
  · omega
  · omega
  · exact absurd ha h
  · have := hz.len; omega
  · exact ⟨h3, hz, hz.len, hz.right h2 h1.1 h1.2 hzl⟩

set_option maxHeartbeats 4000000 in
set_option maxRecDepth 100000 in
theorem any_any (n0 : Int) (a : Option Addr) (N cap : Nat) (l : List (Int × Int)) (most : Nat) (w : World) (hmost : most ≤ 1000) (hl : N = l.length) (hE : EAt w a l) :
    Calls Try.prog 32 #[.int .i64 n0, .slice a N cap, .int .i64 most] w fun e w' => ∃ (m : Nat) (ys : List (Int × Int)) (a' : Option Addr) (cap' : Nat), e = .returned (.agg #[.int .i64 m, .slice a' ys.length cap']) ∧ m ≤ most ∧ RightG m ys ∧ ys.length ≤ 300 ∧ Sl a' cap' ys.length ∧ EAt w' a' ys ∧ Below w.heap.size w w' := by
  obtain ⟨i1, hj, hy0, hy1, hy2⟩ := info_parts Try.info59
  obtain ⟨m, hm0, hm1⟩ := rnd_of n0 (m := most + 1) (by omega)
  have HM : Hid ((bits .and .i64 n0 65535).tmod ((most : Int) + 1) = (m : Int)) := by
    show _ = _
    rw [← hm0]; rfl
  have HE : Hid (EAt w a l) := hE
  have HN : Hid (N = l.length) := hl
  have hmost0 : (0 : Int) ≤ (most : Int) := by omega
  have hmost1 : (most : Int) ≤ 1000 := by omega
  have hmost2 : ¬ (most : Int) + 1 = 0 := by omega
  obtain ⟨W1, hW1⟩ := ex_eq (w.alloc (.cells #[.int .i64 0, .slice none 0 0] 30))
  have HW1 := hid hW1
  have hB1 : Below w.heap.size w W1 := by rw [hW1]; exact below_new _ _
  have hs1 : W1.heap.size = w.heap.size + 1 := by rw [hW1]; simp
  have HO1 : Hid (W1.heap[w.heap.size]? = some (.cells #[.int .i64 0, .slice none 0 0] 30)) := by
    show _ = _
    rw [hW1]; exact heap_alloc_new _ _
  clear hE hl hm0 hW1
  go_enter Try.func32, Try.ntmps32
  go_wp2
  rw [HM.out, ← HW1.out]
  clear HM HW1 hmost0 hmost1 hmost2
  go_loopg [7, 8] 300 (fun G v i wz => ∃ k : Nat, k ≤ 300 ∧ 300 - k ≤ G ∧ i = .int .i64 k ∧ Hid (∃ P, Told wz (w.heap.size + 1) m k v P) ∧ Below (w.heap.size + 1) W1 wz)
  case atStart => exact ⟨0, Nat.zero_le _, by omega, rfl, ⟨_, told_nil _ _ _⟩, Below.refl _ _⟩
  case round =>
    obtain ⟨k, hk, hG, rfl, hto, hb2⟩ := hrel
    have hszr := hb2.size
    rw [hs1] at hszr
    have hbw : Below w.heap.size w wr := hB1.trans (hb2.mono (by omega))
    by_cases hgo : k < N ∧ k < 300 ∧ 0 < m
    · obtain ⟨hlt, hk3, hmp⟩ := hgo
      have hkr : k < l.length := by rw [← HN.out]; exact hlt
      obtain ⟨g, off, rfl, d0, d1⟩ := (HE.out.below hbw).at' hkr
      obtain ⟨e1, he1⟩ := ex_eq l[k].1
      obtain ⟨e2, he2⟩ := ex_eq l[k].2
      rw [← he1] at d0
      rw [← he2] at d1
      have HC : Hid (∀ X, Below w.heap.size w X → X.cell? ⟨g, off + k * 2, none⟩ = some (.int .i64 e1) ∧ X.cell? ⟨g, off + k * 2 + 1, none⟩ = some (.int .i64 e2)) := fun X hX => by
        obtain ⟨g', off', ha', z0, z1⟩ := (HE.out.below hX).at' hkr
        cases ha'
        rw [he1, he2]; exact ⟨z0, z1⟩
      clear he1 he2
      obtain ⟨p, hp, hpm⟩ := rnd_of e1 hmp
      obtain ⟨q, hq, hqm⟩ := rnd_of e2 hmp
      obtain ⟨P, hP⟩ := hto.out
      obtain ⟨aS, cs, hsv, hsl, _⟩ := eat_own hP.own
      subst hsv
      have HTO := hid hP
      have HSL : Hid (aS = none → P.length = 0 ∧ cs = 0) := fun ha => by have h1 := hsl.2.1 ha; have h2 := hsl.1; exact ⟨by omega, h1⟩
      have hPl := hP.len
      obtain ⟨K, hK⟩ := ex_eq P.length
      have HK := hid hK
      have q1 : (k : Int) < (N : Int) := by omega
      have q2 : (k : Int) < 300 := by omega
      have q3 : (0 : Int) < (m : Int) := by omega
      have q4 : ¬ (m : Int) = 0 := by omega
      have q5 : (0 : Int) ≤ (k : Int) := by omega
      have q6 : ¬ m = 0 := by omega
      rw [← hK] at hPl
      have HOW : Hid ((wr.drew.alloc (.cells #[.int .i64 p, .int .i64 q] 59)).ownsRow (w.heap.size + 1) 59 2 (.slice aS K cs) K (cellsE P)) := by
        have h := HTO.out.own
        rw [← hK] at h
        exact World.ownsRow.alloc (w := wr.drew) h _
      have HNW : Hid (∀ i v, [Value.int .i64 (p : Int), .int .i64 (q : Int)][i]? = some v → (wr.drew.alloc (.cells #[.int .i64 p, .int .i64 q] 59)).cell? ((⟨wr.heap.size, 0, none⟩ : Addr).add i) = some v) := cells_two (heap_alloc_new wr.drew _)
      have HON : Hid (∀ v ∈ [Value.int .i64 (p : Int), .int .i64 (q : Int)], v.oneCell' = true) := fun v hv => by simp at hv; rcases hv with rfl | rfl <;> rfl
      have H63 : Hid (K + 1 ≤ maxLen) := by show K + 1 ≤ maxLen; unfold maxLen; omega
      have HBY : Hid ((K + 1) * 16 ≤ 140737488355328) := by show (K + 1) * 16 ≤ 140737488355328; omega
      have HBS : Hid (w.heap.size + 1 ≤ (wr.drew.alloc (.cells #[.int .i64 p, .int .i64 q] 59)).heap.size) := by show w.heap.size + 1 ≤ _; simp; omega
      have HKP : Hid (∀ w4, (wr.drew.alloc (.cells #[.int .i64 p, .int .i64 q] 59)).grownBy w4 (Value.slice aS K cs).ownBlock → Below (w.heap.size + 1) W1 w4) := fun w4 hg => by
        refine Below.grown (hb2.drew.alloc (by show w.heap.size + 1 ≤ wr.heap.size; omega) _) hg (by simp; omega) (fun b hb => ?_)
        rw [hK] at hb
        exact (HTO.out.own.lt b hb).1
      have hS := hid2 (show wr.drew.cell? ⟨g, off + k * 2, none⟩ = some (.int .i64 e1) from d0) (show wr.drew.cell? ⟨g, off + k * 2 + 1, none⟩ = some (.int .i64 e2) from d1)
      have hSA := hid2 (cell_alloc_old hS.1 (Obj.cells #[.int .i64 p, .int .i64 q] 59 (0, 0))) (cell_alloc_old hS.2 (Obj.cells #[.int .i64 p, .int .i64 q] 59 (0, 0)))
      clear hK hP hsl hto
      rw [← HK.out]
      go_wp2_with fail
      go_region_held3 (fun X => X.cell? ⟨g, off + k * 2, none⟩ = some (.int .i64 e1) ∧ X.cell? ⟨g, off + k * 2 + 1, none⟩ = some (.int .i64 e2)) (first | exact hS | exact hSA | trivial)
        (first | (refine step_append_any _ rfl (.tmp 30) (.tmp 48) 22 rfl (w.heap.size + 1) 59 i1 _ 2 16 Try.underlying22 hj hy0 hy1 hy2 rfl (by decide) (.slice aS K cs) K (cellsE P) (by simp [Act.eval]) HOW.out (some ⟨wr.heap.size, 0, none⟩) 1 1 [.int .i64 p, .int .i64 q] (by simp [Act.eval]) (fun h => by cases h) rfl (fun p hp => by cases hp; exact HNW.out) HON.out H63.out HBY.out HBS.out ?_; intro v4 w4 hown4 hgrow _; have hb4 := HKP.out _ hgrow; have hS := HC.out _ (hB1.trans (hb4.mono (Nat.le_succ _)))))
      all_goals
        have HNX : Hid (∃ P, Told w4 (w.heap.size + 1) m (k + 1) v4 P) := ⟨_, HTO.out.put hpm hqm (by rw [← HK.out]; exact hown4)⟩
        clear hown4 hgrow hS hSA HOW HNW HON H63 HBY HBS HKP HC hj hy0 hy1 hy2 d0 d1
        go_wp2
        go_roundg (300 - (k + 1))
        case measure => omega
        case rel => exact ⟨k + 1, by omega, Nat.le_refl _, by go_num, HNX, hb4⟩
    · obtain ⟨P, hP⟩ := hto.out
      obtain ⟨aS, cs, hsv, hsl, hea⟩ := eat_own hP.own
      subst hsv
      have HTO := hid hP
      obtain ⟨K, hK⟩ := ex_eq P.length
      have HK := hid hK
      have HRN : Hid (Calls Try.prog 27 #[.int .i64 m, .slice aS K cs] wr fun e w' => ∃ ys a' cap', e = .returned (.tuple #[.agg #[.int .i64 m, .slice a' ys.length cap'], .int .i64 0]) ∧ RightG m ys ∧ ys.length ≤ 300 ∧ Sl a' cap' ys.length ∧ EAt w' a' ys ∧ Below wr.heap.size wr w') := by
        show Calls _ _ _ _ _
        have h3 := hP.len
        rw [hK]
        exact (rnormal_any m aS cs P wr (by omega) hea).mono fun _ _ ⟨er, ys, a', cap', h1, h2, h3, h4, h5⟩ => by
          obtain ⟨rfl, g1, g2, g3⟩ := normE_told h2 (by omega) hP.all (by omega)
          exact ⟨ys, a', cap', h1, g3, by omega, h3, h4, h5⟩
      rw [← hK]
      clear hK hP hsl hea hto hj hy0 hy1 hy2
      have hway : ¬ (k : Int) < (N : Int) ∨ ((k : Int) < (N : Int) ∧ ¬ (k : Int) < 300) ∨ ((k : Int) < (N : Int) ∧ (k : Int) < 300 ∧ ¬ 0 < (m : Int)) := by omega
      clear hgo
      rcases hway with v1 | ⟨v1, v2⟩ | ⟨v1, v2, v3⟩
      all_goals
        go_wp2_with fail
        refine HRN.out.mono ?_
        rintro e w5 ⟨ys, a5, c5, rfl, hR5, hl5, hs5, hE5, hb5⟩
        obtain ⟨M, hM⟩ := ex_eq ys.length
        rw [← hM]
        have HM := hid hM
        obtain ⟨V5, hV5⟩ := ex_eq (w5.alloc (.cells #[.int .i64 m, .slice a5 M c5] 30))
        have hbV5 : Below w5.heap.size w5 V5 := by rw [hV5]; exact below_new _ _
        have HG5 : Hid (GC V5 w5.heap.size m a5 M c5 ys) := by
          show GC V5 _ _ _ _ _ _
          rw [hV5]; exact gc_new hE5
        have hBX5 : Below wr.heap.size wr V5 := hb5.trans (hbV5.mono hb5.size)
        have HB5 : Hid (Below w.heap.size w V5) := hbw.trans (hBX5.mono hbw.size)
        have HR5 := hid hR5
        have HL5 := hid hl5
        have HS5 := hid hs5
        have hO5 : V5.heap[w.heap.size]? = some (.cells #[.int .i64 0, .slice none 0 0] 30) := (hBX5.block _ (by omega)).trans ((hb2.block _ (by omega)).trans HO1.out)
        have HNE := hid (eat_off_box hO5 HG5.out.at_)
        obtain ⟨x0, x1⟩ := two_cells hO5
        have xf := frozen_of_heap hO5
        obtain ⟨g0, g1⟩ := HG5.out.cells
        rw [hV5] at g0 g1 x0 x1 xf
        have HV5 := hid hV5
        clear hM hE5 hb5 hbV5 hBX5 hR5 hl5 hs5 hO5 hV5 hb2 hbw
        go_wp2
        rw [← HV5.out]
        rw [← HV5.out] at x0 x1
        refine bodyPost_ret (v := .agg #[.int .i64 m, .slice a5 M c5]) ?_ rfl ⟨m, ys, a5, c5, by rw [← HM.out], by omega, HR5.out, HL5.out, HS5.out, (HG5.out.at_.set (p := ⟨w.heap.size, 0, none⟩) HNE.out _).set (p := ⟨w.heap.size, 1, none⟩) HNE.out _, (HB5.out.setCell (p := ⟨w.heap.size, 0, none⟩) (by simp) _).setCell (p := ⟨w.heap.size, 1, none⟩) (by simp) _⟩
        rw [results_cell1 rfl]
        go_simp
end Go.Proofs.Ytckcbaegehfkoaa
