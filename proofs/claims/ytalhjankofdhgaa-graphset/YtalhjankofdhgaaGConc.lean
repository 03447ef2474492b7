/-
  slices.Clone, slices.Grow at nil, slices.Concat, at edges: walked.
-/
import Derived.Test.YtalhjankofdhgaaGRight
import Derived.Lib.AppendZeros
import Derived.Lib.SliceRun
import Derived.Laws.AppendOwnNone
namespace Go.Proofs.Ytalhjankofdhgaa
open Go.RowKit Go.Lib

theorem EAt.news {w : World} {ad : Addr} {es : List (Int × Int)} (h : EAt w (some ad) es) : ∀ j u, (cellsE es)[j]? = some u → w.cell? (ad.add j) = some u := by
  intro j u hu
  have hj : j < es.length * 2 := by rw [← cellsE_len]; exact (List.getElem?_eq_some_iff.1 hu).1
  obtain ⟨g, off, e, _, _⟩ := h (by omega)
  obtain rfl := Option.some.inj e
  rw [add_at]
  exact h.cells j u hu
theorem eat_none {w : World} {es : List (Int × Int)} (h : EAt w none es) : es = [] := by
  by_cases h0 : 0 < es.length
  · obtain ⟨_, _, e, _⟩ := h h0
    cases e
  · exact List.eq_nil_of_length_eq_zero (by omega)
theorem own_empty {w : World} (o : Obj) (ho : o = .cells #[] 39 (0, 0)) : (w.alloc o).ownsRow w.heap.size 39 2 (.slice (some ⟨w.heap.size, 0, none⟩) 0 0) 0 [] := by
  subst ho
  exact ⟨rfl, Or.inr ⟨w.heap.size, 0, #[], rfl, Nat.le_refl _, heap_alloc_new _ _, Nat.le_refl _, Nat.zero_le _, rfl, rfl⟩⟩

theorem own_ge {w : World} {base : Nat} {e : TypeId} {size n cap : Nat} {a : Option Addr} {xs : List Value} (h : w.ownsRow base e size (.slice a n cap) n xs) : ∀ g off, a = some ⟨g, off, none⟩ → base ≤ g := fun g off ha => by
  rcases h.2 with ⟨hv, _⟩ | ⟨g', cap', cur, hv, hb, _⟩
  · simp only [Value.slice.injEq] at hv
    rw [hv.1] at ha
    cases ha
  · simp only [Value.slice.injEq] at hv
    rw [hv.1] at ha
    simp only [Option.some.injEq, Addr.mk.injEq, and_true] at ha
    omega

set_option maxHeartbeats 1000000 in
theorem clone_any (a : Option Addr) (cap : Nat) (es : List (Int × Int)) (w : World) (hN : es.length ≤ 1000000) (hE : EAt w a es) (hS : Sl a cap es.length) :
    Calls Try.prog 38 #[.slice a es.length cap] w fun e w' => ∃ a' cap', e = .returned (.slice a' es.length cap') ∧ Sl a' cap' es.length ∧ EAt w' a' es ∧ (∀ g off, a' = some ⟨g, off, none⟩ → w.heap.size ≤ g) ∧ Below w.heap.size w w' := by
  obtain ⟨i0, hi, hz0, hz1, hz2⟩ := info_parts Try.info39
  have q22 : ∀ (w : World) (a : Option Addr) (n c n' c' : Nat), (binOp .eql 22 (.slice a n c) (.slice none n' c')).run Try.prog w = .ok (.bool a.isNone) w := fun w a n c n' c' => Lib.run_eql_slice_nil w _ _ a n c n' c' Try.underlying22
  cases a with
  | none =>
    have he := eat_none hE
    subst he
    obtain ⟨_, h0, _⟩ := hS
    obtain rfl := h0 rfl
    clear hi hz0 hz1 hz2 hE
    go_enter Try.func38, Try.ntmps38
    go_wp2
    go_ret
    exact ⟨none, 0, rfl, sl_nil, eat_nil _ _, (fun _ _ h => by cases h), Below.refl _ _⟩
  | some ad =>
    have HE : Hid (EAt w (some ad) es) := hE
    obtain ⟨N, hNe⟩ := ex_eq es.length
    have HN : Hid (N = es.length) := hNe
    rw [← hNe] at hN ⊢
    clear hE hS hNe
    go_enter Try.func38, Try.ntmps38
    have HOE := own_empty (w := w) (.cells #[] 39) rfl
    have HEA : Hid (EAt (w.alloc (.cells #[] 39)) (some ad) es) := HE.out.below ((Below.refl _ _).alloc (Nat.le_refl _) _)
    have hlen : (cellsE es).length = N * 2 := by rw [cellsE_len, ← HN.out]
    obtain ⟨cs, hcs⟩ := ex_eq (cellsE es)
    have HCS : Hid (cs = cellsE es) := hcs
    rw [← hcs] at hlen
    clear hcs
    go_wp2_with (at_builtin; refine wpList_append_own _ rfl _ _ 22 rfl w.heap.size 39 i0 _ 2 16 Try.underlying22 hi hz0 hz1 hz2 rfl (by decide) _ _ _ rfl HOE ad N cap cs rfl hlen ?c1 ?c2 ?c3 ?c4 ?c5 ?_)
    case c1 => rw [HCS.out]; exact HEA.out.news
    case c2 => rw [HCS.out]; exact cellsE_one es
    case c3 => unfold maxLen; omega
    case c4 => omega
    case c5 => simp
    intro v' w4 hown4 hgrow _
    have hb4 : Below w.heap.size w w4 := Below.grown ((Below.refl _ _).alloc (Nat.le_refl _) _) hgrow (by simp) (fun j hj => by simp only [Value.ownBlock, Option.some.injEq] at hj; omega)
    have HO : Hid (w4.ownsRow w.heap.size 39 2 v' es.length (cellsE es)) := by
      show w4.ownsRow w.heap.size 39 2 v' es.length (cellsE es)
      rw [← HCS.out, ← HN.out]
      simpa using hown4
    clear hgrow hown4 hi hz0 hz1 hz2 HOE
    go_wp2
    go_ret
    obtain ⟨a', cap', rfl, hsl, hea⟩ := eat_own HO.out
    exact ⟨a', cap', by rw [HN.out]; rfl, by rw [HN.out]; exact hsl, hea, own_ge HO.out, hb4⟩

set_option maxHeartbeats 1000000 in
theorem growN_any (n : Nat) (w : World) (hn : n ≤ 1000000) :
    Calls Try.prog 47 #[.slice none 0 0, .int .i64 n] w fun e w' => ∃ v, e = .returned v ∧ w'.ownsRow w.heap.size 39 2 v 0 [] ∧ Below w.heap.size w w' := by
  by_cases h0 : n = 0
  · subst h0
    go_enter Try.func47, Try.ntmps47
    go_wp2
    go_ret
    exact ⟨_, rfl, World.ownsRow_nil _ _ _ _, Below.refl _ _⟩
  · obtain ⟨i0, hi, hz0, hz1, hz2⟩ := info_parts Try.info39
    have hpos : 0 < n := by omega
    have hr : ∀ W ty, (Builtin.append_ #[22, 3] ty #[.slice none 0 0, .int .i64 n]).run Try.prog W = .ok (.slice (some ⟨W.heap.size, 0, none⟩) n (grownCap W n 0 39)) (W.drew.alloc (.cells (Builtin.zeroCells (Value.agg #[.int .i64 0, .int .i64 0]).cells n ++ Builtin.zeroCells (Value.agg #[.int .i64 0, .int .i64 0]).cells (grownCap W n 0 39 - n)) 39)) := fun W ty =>
      run_append_nil_zeros W _ _ ty _ i0 _ .i64 .i64 Try.underlying22 Try.underlying3 hi hz0 n hpos (by rw [hz1]; decide) (by omega) (by rw [hz2]; omega)
    have hc1 := grownCap_ge w n 0 39
    have hc2 := grownCap_le_maxLen w n 0 39 (by unfold maxLen; omega)
    obtain ⟨C, hC⟩ := ex_eq (grownCap w n 0 39)
    obtain ⟨cur, hcur⟩ := ex_eq (Builtin.zeroCells (Value.agg #[.int .i64 0, .int .i64 0]).cells n ++ Builtin.zeroCells (Value.agg #[.int .i64 0, .int .i64 0]).cells (C - n))
    have hr' : ∀ ty, (Builtin.append_ #[22, 3] ty #[.slice none 0 0, .int .i64 n]).run Try.prog w = .ok (.slice (some ⟨w.heap.size, 0, none⟩) n C) (w.drew.alloc (.cells cur 39)) := fun ty => by rw [hr w ty, hcur, hC]
    rw [← hC] at hc1 hc2
    have hsz : cur.size = C * 2 := by
      rw [hcur]
      simp [Builtin.zeroCells, Value.cells]
      omega
    have HO : Hid ((w.drew.alloc (.cells cur 39)).ownsRow w.heap.size 39 2 (.slice (some ⟨w.heap.size, 0, none⟩) 0 C) 0 []) := ⟨rfl, Or.inr ⟨w.heap.size, C, cur, rfl, Nat.le_refl _, heap_alloc_new _ _, Nat.zero_le _, hc2, hsz, rfl⟩⟩
    have hb : Below w.heap.size w (w.drew.alloc (.cells cur 39)) := ((Below.refl _ w).drew).alloc (Nat.le_refl _) _
    clear hr hcur hC hi hz0 hz1 hz2 hsz
    go_enter Try.func47, Try.ntmps47
    go_wp2_with (at_builtin; refine wpList_append_run _ rfl _ _ 22 3 rfl _ _ rfl rfl _ _ (hr' _) ?_)
    go_ret
    exact ⟨_, rfl, HO.out, hb⟩

/-- The parts' edges, one part behind the other. -/
def cat : List (Option Addr × Nat × List (Int × Int)) → List (Int × Int)
  | [] => []
  | p :: ps => p.2.2 ++ cat ps
theorem cat_append (a b : List (Option Addr × Nat × List (Int × Int))) : cat (a ++ b) = cat a ++ cat b := by
  induction a with
  | nil => rfl
  | cons p a ih => rw [List.cons_append, cat, cat, ih, List.append_assoc]
theorem cat_take {ps : List (Option Addr × Nat × List (Int × Int))} {k : Nat} (h : k < ps.length) : cat (ps.take (k + 1)) = cat (ps.take k) ++ ps[k].2.2 := by
  rw [List.take_succ_eq_append_getElem h, cat_append, cat, cat, List.append_nil]
theorem cat_le (ps : List (Option Addr × Nat × List (Int × Int))) (k : Nat) : (cat (ps.take k)).length ≤ (cat ps).length := by
  have h : cat ps = cat (ps.take k) ++ cat (ps.drop k) := by rw [← cat_append, List.take_append_drop]
  rw [h, List.length_append]
  omega

set_option maxHeartbeats 2000000 in
set_option maxRecDepth 100000 in
theorem concat_any (gs capS : Nat) (ps : List (Option Addr × Nat × List (Int × Int))) (w : World) (hg : gs < w.heap.size) (hm : ps.length ≤ 10) (hc : ∀ j (h : j < ps.length), w.cell? ⟨gs, j, none⟩ = some (.slice ps[j].1 ps[j].2.2.length ps[j].2.1)) (hE : ∀ p ∈ ps, EAt w p.1 p.2.2 ∧ (p.1 = none → p.2.1 = 0)) (hN : (cat ps).length ≤ 1000000) :
    Calls Try.prog 39 #[.slice (some ⟨gs, 0, none⟩) ps.length capS] w fun e w' => ∃ a cap, e = .returned (.slice a (cat ps).length cap) ∧ Sl a cap (cat ps).length ∧ EAt w' a (cat ps) ∧ (∀ g off, a = some ⟨g, off, none⟩ → w.heap.size ≤ g) ∧ Below w.heap.size w w' := by
  obtain ⟨i0, hi, hz0, hz1, hz2⟩ := info_parts Try.info39
  obtain ⟨M, hMe⟩ := ex_eq ps.length
  have HM : Hid (M = ps.length) := hMe
  have HC : Hid (∀ j (h : j < ps.length), w.cell? ⟨gs, j, none⟩ = some (.slice ps[j].1 ps[j].2.2.length ps[j].2.1)) := hc
  have HE : Hid (∀ p ∈ ps, EAt w p.1 p.2.2 ∧ (p.1 = none → p.2.1 = 0)) := hE
  rw [← hMe] at hm ⊢
  obtain ⟨T, hT⟩ := ex_eq (cat ps).length
  have HT : Hid (T = (cat ps).length) := hT
  rw [← hT] at hN ⊢
  clear hMe hc hE hT
  go_enter Try.func39, Try.ntmps39
  go_wp2
  go_loopw [3, 11] (fun s i wr => ∃ k : Nat, k ≤ M ∧ i = .int .i64 k ∧ s = .int .i64 (cat (ps.take k)).length ∧ Hid (wr = w)) (fun _ i _ => M - (RowKit.intOf i).toNat)
  case atStart => exact ⟨0, Nat.zero_le _, rfl, rfl, (rfl : _ = _)⟩
  case round =>
    obtain ⟨k, hk, rfl, rfl, hw⟩ := hrel
    have hw2 := hw.out.symm
    clear hw
    subst hw2
    by_cases hlt : k < M
    · have hkr : k < ps.length := by rw [← HM.out]; exact hlt
      have c0 := HC.out k hkr
      have h1 := cat_le ps (k + 1)
      rw [← HT.out] at h1
      have h2 : (cat (ps.take (k + 1))).length = (cat (ps.take k)).length + ps[k].2.2.length := by rw [cat_take hkr, List.length_append]
      obtain ⟨x, hx⟩ := ex_eq (cat (ps.take k)).length
      obtain ⟨y, hy⟩ := ex_eq ps[k].2.2.length
      obtain ⟨ak, hak⟩ := ex_eq ps[k].1
      obtain ⟨ck, hck⟩ := ex_eq ps[k].2.1
      rw [← hx, ← hy] at h2
      rw [← hy, ← hak, ← hck] at c0
      rw [← hx]
      have HH : Hid ((cat (ps.take (k + 1))).length = x + y) := h2
      have hxy : x + y ≤ 1000000 := by omega
      clear hx hy hak hck h1 h2
      go_wp2
      go_roundw
      case rel => exact ⟨k + 1, by omega, by go_num, by rw [HH.out]; go_num, trivial⟩
      case measure => simp [RowKit.intOf]; omega
    · obtain rfl : k = M := by omega
      have hT2 : (cat (ps.take k)).length = T := by rw [HT.out, HM.out, List.take_length]
      rw [hT2]
      go_wp2_with fail
      refine (growN_any T _ hN).mono ?_
      rintro e w1 ⟨v, rfl, hown, hb1⟩
      have HO : Hid (w1.ownsRow w.heap.size 39 2 v 0 []) := hown
      clear hown
      go_wp2
      go_loopw [6, 27] (fun v i wz => ∃ k2 : Nat, k2 ≤ k ∧ i = .int .i64 k2 ∧ Hid (wz.ownsRow w.heap.size 39 2 v (cat (ps.take k2)).length (cellsE (cat (ps.take k2)))) ∧ Below w.heap.size w wz) (fun _ i _ => k - (RowKit.intOf i).toNat)
      case atStart => exact ⟨0, Nat.zero_le _, rfl, HO, hb1⟩
      case round =>
        obtain ⟨k2, hk2, rfl, hown, hbr⟩ := hrel
        have hsr := hbr.size
        by_cases hlt2 : k2 < k
        · have hkr : k2 < ps.length := by rw [← HM.out]; exact hlt2
          have c0 := (hbr.cell (p := ⟨gs, k2, none⟩) hg).trans (HC.out k2 hkr)
          obtain ⟨hEk, hSk⟩ := HE.out ps[k2] (List.getElem_mem _)
          have h1 := cat_le ps (k2 + 1)
          rw [← HT.out] at h1
          have h3 := cat_take hkr
          have h2 : (cat (ps.take (k2 + 1))).length = (cat (ps.take k2)).length + ps[k2].2.2.length := by rw [h3, List.length_append]
          obtain ⟨P, hP⟩ := ex_eq (cat (ps.take k2))
          obtain ⟨E, hE2⟩ := ex_eq ps[k2].2.2
          obtain ⟨ak, hak⟩ := ex_eq ps[k2].1
          obtain ⟨ck, hck⟩ := ex_eq ps[k2].2.1
          rw [← hP] at h2 h3 hown
          rw [← hE2, ← hak] at hEk
          rw [← hak, ← hck] at hSk
          rw [← hE2, ← hak, ← hck] at c0
          rw [← hE2] at h2 h3
          have HH : Hid (cat (ps.take (k2 + 1)) = P ++ E) := h3
          have hxy : P.length + E.length ≤ 1000000 := by omega
          have hEr : EAt wr ak E := hEk.below hbr
          clear hP hE2 hak hck h1 h2 h3 hEk
          cases ak with
          | none =>
            have he := eat_none hEr
            subst he
            obtain rfl := hSk rfl
            have HO2 : Hid (wr.ownsRow w.heap.size 39 2 u6 (cat (ps.take (k2 + 1))).length (cellsE (cat (ps.take (k2 + 1))))) := by
              show wr.ownsRow w.heap.size 39 2 u6 (cat (ps.take (k2 + 1))).length (cellsE (cat (ps.take (k2 + 1))))
              rw [HH.out, List.append_nil]; exact hown.out
            go_wp2_with (at_builtin; refine wpList_append_own_none rfl _ _ 22 rfl w.heap.size 39 i0 2 Try.underlying22 hi _ _ _ rfl hown.out rfl ?_)
            go_roundw
            case rel => exact ⟨k2 + 1, by omega, by go_num, HO2, hbr⟩
            case measure => simp [RowKit.intOf]; omega
          | some ad =>
            have HEr : Hid (EAt wr (some ad) E) := hEr
            obtain ⟨n, hn⟩ := ex_eq E.length
            have HNE : Hid (n = E.length) := hn
            rw [← hn] at hxy c0
            obtain ⟨cs, hcs⟩ := ex_eq (cellsE E)
            have HCS : Hid (cs = cellsE E) := hcs
            have hlen : cs.length = n * 2 := by rw [hcs, cellsE_len, ← hn]
            clear hEr hn hcs hSk
            go_wp2_with (at_builtin; refine wpList_append_own _ rfl _ _ 22 rfl w.heap.size 39 i0 _ 2 16 Try.underlying22 hi hz0 hz1 hz2 rfl (by decide) _ _ _ rfl hown.out ad n ck cs rfl hlen ?c1 ?c2 ?c3 ?c4 ?c5 ?_)
            case c1 => rw [HCS.out]; exact HEr.out.news
            case c2 => rw [HCS.out]; exact cellsE_one E
            case c3 => unfold maxLen; omega
            case c4 => omega
            case c5 => exact hsr
            intro v' w4 hown4 hgrow _
            have hb4 : Below w.heap.size w w4 := Below.grown hbr hgrow hsr (fun j hj => (hown.out.lt j hj).1)
            have HO2 : Hid (w4.ownsRow w.heap.size 39 2 v' (cat (ps.take (k2 + 1))).length (cellsE (cat (ps.take (k2 + 1))))) := by
              show w4.ownsRow w.heap.size 39 2 v' (cat (ps.take (k2 + 1))).length (cellsE (cat (ps.take (k2 + 1))))
              rw [HH.out, cellsE_append, List.length_append, ← HCS.out, ← HNE.out]
              exact hown4
            clear hgrow hown4 hown
            go_wp2
            go_roundw
            case rel => exact ⟨k2 + 1, by omega, by go_num, HO2, hb4⟩
            case measure => simp [RowKit.intOf]; omega
        · obtain rfl : k2 = k := by omega
          have htk : ps.take k2 = ps := by rw [HM.out, List.take_length]
          rw [htk] at hown
          clear hi hz0 hz1 hz2
          go_wp2
          go_ret
          obtain ⟨a, cap, rfl, hsl, hea⟩ := eat_own hown.out
          exact ⟨a, cap, by rw [HT.out]; rfl, by rw [HT.out]; exact hsl, hea, own_ge hown.out, hbr⟩
end Go.Proofs.Ytalhjankofdhgaa
