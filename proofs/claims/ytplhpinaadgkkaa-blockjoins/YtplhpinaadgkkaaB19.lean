/-
  Rows in order: slices.Compare walked, slices.SortFunc by its contract (layer 7).
  Which vertices are in several blocks: the program's inSeveral (layer 7).
  The document's Unlike and Less: does no number stand twice; which row stands ahead?
  A step through a region that draws its order, its guards decided ahead.
-/
import Derived.Test.YtplhpinaadgkkaaB17
import Derived.Test.YtplhpinaadgkkaaB06
import Derived.Test.YtplhpinaadgkkaaB08
import Derived.Test.YtplhpinaadgkkaaB10
import Derived.Test.YtplhpinaadgkkaaB05
import Derived.Test.YtplhpinaadgkkaaB14
import Derived.Deep.LoopGhost
import Derived.Deep.RegionHeld3
namespace Go.Proofs.Ytplhpinaadgkkaa
open Go.RowKit Go.Lib Go.Shelf Go.Sort

/-- Rows held against each other, number by number. -/
def cmpL : List Int → List Int → Int
  | [], [] => 0
  | [], _ :: _ => -1
  | _ :: _, [] => 1
  | x :: a, y :: b => if x < y then -1 else if y < x then 1 else cmpL a b
theorem cmpL_lt : ∀ (a b : List Int), cmpL a b < 0 ↔ lexL a b = true
  | [], [] => by simp [cmpL, lexL]
  | [], _ :: _ => by simp [cmpL, lexL]
  | _ :: _, [] => by simp [cmpL, lexL]
  | x :: a, y :: b => by
    unfold cmpL
    simp only [lexL, Bool.or_eq_true, decide_eq_true_eq, Bool.and_eq_true, beq_iff_eq]
    by_cases h : x < y
    · rw [if_pos h]; simp [h]
    · rw [if_neg h]
      by_cases h2 : y < x
      · rw [if_pos h2]
        constructor
        · intro h3; omega
        · rintro (h3 | ⟨h3, _⟩) <;> omega
      · rw [if_neg h2, cmpL_lt a b]
        have e : x = y := by omega
        simp [e]
set_option maxHeartbeats 1000000 in
set_option maxRecDepth 100000 in
theorem cmpRow_any (a1 a2 : Option Addr) (c1 c2 : Nat) (xs ys : List Int) (w : World) (h1 : IAt w a1 xs) (h2 : IAt w a2 ys) (l1 : xs.length ≤ 1000000) :
    Calls Try.prog 29 #[.slice a1 xs.length c1, .slice a2 ys.length c2] w fun e w' => e = .returned (.int .i64 (cmpL xs ys)) ∧ w' = w := by
  obtain ⟨N, hN⟩ := ex_eq xs.length
  obtain ⟨M, hM⟩ := ex_eq ys.length
  obtain ⟨R, hR⟩ := ex_eq (cmpL xs ys)
  have HC : Hid (∀ (x y : Int) W, Calls Try.prog 59 #[.int .i64 x, .int .i64 y] W fun e w' => e = .returned (.int .i64 (cmpI x y)) ∧ w' = W) := fun x y W => compare_any x y W
  rw [← hN] at l1
  rw [← hN, ← hM, ← hR]
  have HN := hid hN
  have HM := hid hM
  have HR := hid hR
  have H1 := hid h1
  have H2 := hid h2
  clear hN hM hR h1 h2
  go_enter Try.func29, Try.ntmps29
  go_wp2
  go_loopw [11] (fun i wz => ∃ k : Nat, k ≤ N ∧ k ≤ M ∧ i = .int .i64 k ∧ Hid (R = cmpL (xs.drop k) (ys.drop k)) ∧ wz = w) (fun i _ => N - (RowKit.intOf i).toNat)
  case atStart => exact ⟨0, Nat.zero_le _, Nat.zero_le _, rfl, (by show _ = _; rw [HR.out]; simp), rfl⟩
  case round =>
    obtain ⟨k, hk, hk2, rfl, heq, rfl⟩ := hrel
    by_cases hlt : k < N
    · have k1 : k < xs.length := by rw [← HN.out]; exact hlt
      obtain ⟨g1, o1, rfl, _, hc1⟩ := H1.out (by omega)
      have d1 := hc1 k k1
      obtain ⟨x, hx⟩ := ex_eq xs[k]
      rw [← hx] at d1
      have q1 : (k : Int) < (N : Int) := by omega
      by_cases hlt2 : k < M
      · have k2 : k < ys.length := by rw [← HM.out]; exact hlt2
        obtain ⟨g2, o2, rfl, _, hc2⟩ := H2.out (by omega)
        have d2 := hc2 k k2
        obtain ⟨y, hy⟩ := ex_eq ys[k]
        rw [← hy] at d2
        have q2 : (k : Int) < (M : Int) := by omega
        have q3 : decide ((k : Int) ≥ (M : Int)) = false := decide_eq_false (by omega)
        have q4 : ¬ (M : Int) ≤ (k : Int) := by omega
        have HE : Hid (R = if x < y then -1 else if y < x then 1 else cmpL (xs.drop (k + 1)) (ys.drop (k + 1))) := by
          show _ = _
          rw [heq.out, List.drop_eq_getElem_cons k1, List.drop_eq_getElem_cons k2, ← hx, ← hy]
          rfl
        have C := hid (HC.out x y wr)
        obtain ⟨z, hz⟩ := ex_eq (cmpI x y)
        rw [← hz] at C
        have HZ := hid hz
        clear hc1 hc2 hx hy heq hz k1 k2
        by_cases hxy : x < y
        · have e1 : z = -1 := by rw [HZ.out]; unfold cmpI; rw [if_pos hxy]
          subst e1
          have HRR : Hid (R = -1) := by show _ = _; rw [HE.out, if_pos hxy]
          clear HE HZ hxy
          go_wp2_with fail
          refine C.out.mono ?_
          rintro e w2 ⟨rfl, rfl⟩
          go_wp2
          go_ret
          rw [HRR.out]
          exact ⟨rfl, rfl⟩
        · by_cases hyx : y < x
          · have e1 : z = 1 := by rw [HZ.out]; unfold cmpI; rw [if_neg hxy, if_pos hyx]
            subst e1
            have HRR : Hid (R = 1) := by show _ = _; rw [HE.out, if_neg hxy, if_pos hyx]
            clear HE HZ hxy hyx
            go_wp2_with fail
            refine C.out.mono ?_
            rintro e w2 ⟨rfl, rfl⟩
            go_wp2
            go_ret
            rw [HRR.out]
            exact ⟨rfl, rfl⟩
          · have e1 : z = 0 := by rw [HZ.out]; unfold cmpI; rw [if_neg hxy, if_neg hyx]
            subst e1
            have HRR : Hid (R = cmpL (xs.drop (k + 1)) (ys.drop (k + 1))) := by show _ = _; rw [HE.out, if_neg hxy, if_neg hyx]
            clear HE HZ hxy hyx
            go_wp2_with fail
            refine C.out.mono ?_
            rintro e w2 ⟨rfl, rfl⟩
            go_wp2
            go_roundw
            case rel => exact ⟨k + 1, by omega, by omega, by go_num, HRR, trivial⟩
            case measure => simp [RowKit.intOf]; omega
      · have ekM : k = M := by omega
        have HRR : Hid (R = 1) := by
          show _ = _
          have hd : ys.drop k = [] := List.drop_eq_nil_of_le (by have := HM.out; omega)
          rw [heq.out, List.drop_eq_getElem_cons k1, hd]
          rfl
        clear HM
        subst ekM
        have q3 : decide ((k : Int) ≥ (k : Int)) = true := by simp
        clear hc1 hx heq k1
        go_wp2
        go_ret
        rw [HRR.out]
        exact ⟨rfl, rfl⟩
    · have ekN : k = N := by omega
      have hdx : xs.drop k = [] := List.drop_eq_nil_of_le (by have := HN.out; omega)
      clear HN
      subst ekN
      by_cases hlt2 : k < M
      · have k2 : k < ys.length := by rw [← HM.out]; exact hlt2
        have HRR : Hid (R = -1) := by
          show _ = _
          rw [heq.out, hdx, List.drop_eq_getElem_cons k2]
          rfl
        have q2 : (k : Int) < (M : Int) := by omega
        clear heq hdx k2
        go_wp2
        go_ret
        rw [HRR.out]
        exact ⟨rfl, rfl⟩
      · have ekM : k = M := by omega
        have HRR : Hid (R = 0) := by
          show _ = _
          have hd : ys.drop k = [] := List.drop_eq_nil_of_le (by have := HM.out; omega)
          rw [heq.out, hdx, hd]
          rfl
        clear HM
        subst ekM
        clear heq hdx
        go_wp2
        go_ret
        rw [HRR.out]
        exact ⟨rfl, rfl⟩
theorem swoL (rows : Nat → List Int) : SWO (ltOf (fun x y => cmpL (rows x) (rows y))) := by
  have e : ∀ x y, ltOf (fun x y => cmpL (rows x) (rows y)) x y = lexL (rows x) (rows y) := fun x y => by
    have h := cmpL_lt (rows x) (rows y)
    unfold ltOf
    cases h2 : lexL (rows x) (rows y) with
    | true => exact decide_eq_true (h.2 h2)
    | false => exact decide_eq_false (fun k => by rw [h.1 k] at h2; cases h2)
  refine ⟨fun x => by rw [e]; exact lexL_irrefl _, fun x y z h h' => ?_, fun x y z h h' => ?_⟩
  · rw [e] at *; exact lexL_trans h h'
  · rw [e] at *
    cases h3 : lexL (rows x) (rows z) with
    | false => rfl
    | true =>
      -- neither x < y nor y < z, yet x < z
      cases h4 : lexL (rows y) (rows x) with
      | true => rw [lexL_trans h4 h3] at h'; cases h'
      | false =>
        have := lexL_tri h h4
        rw [this] at h3
        rw [h3] at h'; cases h'
/-- Rows of the call's own, sorted. -/
theorem sortL_any {w : World} {base : Nat} {A : Nat → Prop} {v : Value} {us : List Value} {LL : List (List Int)} (h : LLOwn w base A v us LL) (hnd : LL.Nodup) (hN : LL.length ≤ 1000) (hL : ∀ L ∈ LL, L.length ≤ 1000000) :
    ∃ a cap, v = .slice a LL.length cap ∧ Calls Try.prog 28 #[.slice a LL.length cap, .func (.func 29) #[] #[]] w fun e w' => e = .returned (.tuple #[]) ∧ ∃ LL', LL'.Perm LL ∧ LL'.Pairwise (fun A B => lexL A B = true) ∧ LLAt w' a LL' ∧ ∀ b0 w0, Below b0 w0 w → b0 ≤ base → b0 ≤ w.heap.size → Below b0 w0 w' := by
  obtain ⟨a, cap, hv, hsl⟩ := sl_own h.1
  refine ⟨a, cap, hv, ?_⟩
  by_cases h0 : LL.length = 0
  · have hnil : LL = [] := List.length_eq_zero_iff.1 h0
    subst hnil
    have := AnyF.slices_SortFunc_none (P := Try.prog) { Try.sortR with } a cap (.func (.func 29) #[] #[]) w
    refine Calls.mono this ?_
    rintro e w' ⟨rfl, rfl⟩
    exact ⟨rfl, [], List.Perm.refl _, List.Pairwise.nil, llat_nil _ _, fun _ _ hb _ _ => hb⟩
  obtain ⟨blk, cap', hv', hbase, hlt, hcap, hcs⟩ := own_row h.1 (by omega)
  rw [hv] at hv'
  simp only [Value.slice.injEq, true_and] at hv'
  obtain ⟨rfl, rfl⟩ := hv'
  obtain ⟨N, hNe⟩ := ex_eq LL.length
  rw [← hNe] at hN hcap ⊢
  -- the rows and their headers
  obtain ⟨rows, hrows⟩ := ex_eq (fun k : Nat => LL[k]?.getD [])
  obtain ⟨V, hV⟩ := ex_eq (fun k : Nat => (us[k]?).getD (.slice none 0 0))
  have hul := h.2.1
  have hcell : ∀ j, j < N → w.cell? ⟨blk, j, none⟩ = some (V j) ∧ w.frozen? ⟨blk, j, none⟩ = false := fun j hj => by
    have hj' : j < us.length := by omega
    have e : us[j]? = some (V j) := by rw [hV]; simp [hj']
    refine ⟨hcs j _ e, ?_⟩
    rcases h.1.2 with ⟨hv2, _⟩ | ⟨g, cp, cur, hv2, _, hgb, _⟩
    · rw [hv] at hv2; simp at hv2
    · rw [hv] at hv2
      simp only [Value.slice.injEq, Option.some.injEq, Addr.mk.injEq, and_true] at hv2
      obtain ⟨rfl, _⟩ := hv2
      exact frozen_of_heap hgb _
  have hrow : ∀ k, ∃ ak ck, V k = .slice ak (rows k).length ck ∧ IAt w ak (rows k) ∧ (∀ g off, ak = some ⟨g, off, none⟩ → 0 < (rows k).length → g ≠ blk) ∧ (rows k).length ≤ 1000000 := fun k => by
    by_cases hk : k < LL.length
    · obtain ⟨ak, ck, e1, e2, e3⟩ := h.2.2.2 k hk
      have er : rows k = LL[k] := by rw [hrows]; simp [hk]
      have ev : V k = .slice ak LL[k].length ck := by rw [hV]; simp only; rw [e1]; rfl
      rw [er]
      refine ⟨ak, ck, ev, e2, fun g off e h0 => ?_, hL _ (List.getElem_mem hk)⟩
      have := (e3 g off e h0).2
      rw [hv] at this
      exact fun e => this (by rw [e]; rfl)
    · have er : rows k = [] := by rw [hrows]; simp [hk]
      have ev : V k = .slice none 0 0 := by
        rw [hV]
        simp only
        rw [List.getElem?_eq_none (by omega)]
        rfl
      rw [er]
      exact ⟨none, 0, ev, iat_nil _ _, (fun _ _ e => by cases e), by simp⟩
  have hsz : (Array.range N).size = N := by simp
  have eg : ∀ args w, (callFunc 29 args).run Try.prog w = .ok (.enter 29 args) w := enters_of Try.func29 (by kernel_rfl) rfl
  have hone : OneCell V := fun x => by obtain ⟨ak, ck, e, _⟩ := hrow x; rw [e]; rfl
  have hH : Holds V w blk 0 (Array.range N) := fun j hj => by
    have hj' : j < N := by simpa using hj
    have e : (Array.range N)[j]! = j := by rw [getElem!_pos (Array.range N) j hj]; simp
    rw [Nat.zero_add, e]
    exact hcell j hj'
  have hcmp : CmpReads Try.prog 29 #[] V (fun x y => cmpL (rows x) (rows y)) blk 0 (Array.range N).size w := fun m os dk _ x y => by
    obtain ⟨ax, cx, ex, ix, nx, lx⟩ := hrow x
    obtain ⟨ay, cy, ey, iy, ny, _⟩ := hrow y
    rw [ex, ey]
    have hk := KeptBut.of_grown (grown_sortW (w := w) (enc := V) (g := blk) (n := m) (os := os) dk)
    have := cmpRow_any ax ay cx cy (rows x) (rows y) _ (ix.kept hk (fun g off e h0 e2 => nx g off e h0 (Option.some.inj e2))) (iy.kept hk (fun g off e h0 e2 => ny g off e h0 (Option.some.inj e2))) lx
    refine this.mono ?_
    rintro e w' ⟨rfl, rfl⟩
    exact ⟨rfl, 0, rfl⟩
  have hcon := Any.slices_SortFunc Try.sortR V hone (fun x y => cmpL (rows x) (rows y)) (swoL rows) 29 #[] blk 0 cap (Array.range N) w eg hcmp.lays hH hlt (by rw [hsz]; omega)
  change Calls Try.prog 28 _ _ _ at hcon
  rw [hsz] at hcon
  refine hcon.mono ?_
  rintro e w' ⟨rfl, d', q, os, hp, hs, rfl⟩
  have hd' : d'.size = N := by rw [hp.1, hsz]
  have hperm : d'.toList.Perm (List.range N) := by
    have hperm := hp.2.2
    have e1 : (d'.extract 0 N).toList = d'.toList := by rw [show N = d'.size from hd'.symm]; simp
    have e2 : ((Array.range N).extract 0 N).toList = List.range N := by
      rw [Array.toList_extract]
      simp [List.take_of_length_le]
    rw [e1, e2] at hperm
    exact hperm
  have hmap : (List.range N).map rows = LL := by
    apply List.ext_getElem
    · simp [hNe]
    · intro i h1 h2
      simp [hrows]
      rw [List.getElem?_eq_getElem h2]; rfl
  have hpl : (d'.toList.map rows).Perm LL := by rw [← hmap]; exact hperm.map rows
  refine ⟨rfl, d'.toList.map rows, hpl, ?_, ?_, fun b0 w0 hb h1 h2 => Below.grown hb (grown_sortW d') h2 (fun k hk => by cases hk; omega)⟩
  · have hnd2 : (d'.toList.map rows).Nodup := hpl.nodup_iff.2 hnd
    rw [List.pairwise_iff_getElem]
    intro i j hi hj hij
    have hi' : i < d'.size := by simpa using hi
    have hj' : j < d'.size := by simpa using hj
    have hh := hs i j (Nat.zero_le _) hij (by omega)
    rw [getElem!_pos d' i hi', getElem!_pos d' j hj'] at hh
    simp only [List.getElem_map, Array.getElem_toList]
    cases h3 : lexL (rows d'[i]) (rows d'[j]) with
    | true => rfl
    | false =>
      have h4 : lexL (rows d'[j]) (rows d'[i]) = false := by
        cases h5 : lexL (rows d'[j]) (rows d'[i]) with
        | false => rfl
        | true =>
          have h6 : ltOf (fun x y => cmpL (rows x) (rows y)) d'[j] d'[i] = true := by
            unfold ltOf
            exact decide_eq_true ((cmpL_lt _ _).2 h5)
          rw [h6] at hh; cases hh
      have h7 := lexL_tri h3 h4
      rw [List.nodup_iff_pairwise_ne, List.pairwise_iff_getElem] at hnd2
      have := hnd2 i j hi hj hij
      simp only [List.getElem_map, Array.getElem_toList] at this
      exact absurd h7 this
  · intro h00
    have hk := KeptBut.of_grown (grown_sortW (w := w) (enc := V) (g := blk) (n := q) (os := os) d')
    refine ⟨blk, 0, rfl, Nat.lt_of_lt_of_le hlt hk.size, fun k hk2 => ?_⟩
    have hk' : k < d'.size := by simpa using hk2
    have hw : Holds V (sortWorld V w blk 0 q d' os) blk 0 d' := SW.holds (⟨q, os, rfl⟩ : SW V w blk 0 d' (sortWorld V w blk 0 q d' os)) hlt hH (by rw [hd', hsz])
    have hc := (hw k hk').1
    rw [getElem!_pos d' k hk'] at hc
    obtain ⟨ak, ck, e1, e2, e3, _⟩ := hrow d'[k]
    have er : (d'.toList.map rows)[k] = rows d'[k] := by simp
    rw [er]
    exact ⟨ak, ck, by rw [hc, e1], e2.kept hk (fun g off e h0 e4 => e3 g off e h0 (Option.some.inj e4))⟩
end Go.Proofs.Ytplhpinaadgkkaa
namespace Go.Proofs.Ytplhpinaadgkkaa
open Go.RowKit Go.Lib

/-- Numbers below m that stand in the rows more than once. -/
def sevL (m : Nat) (LL : List (List Int)) : List Int := ((List.range m).filter (fun v : Nat => decide (1 < LL.flatten.count (v : Int)))).map (fun v : Nat => (v : Int))
theorem count_le_len (v : Int) (l : List Int) : l.count v ≤ l.length := List.count_le_length
theorem flat_len {LL : List (List Int)} {K : Nat} (h : ∀ L ∈ LL, L.length ≤ K) : LL.flatten.length ≤ LL.length * K := by
  induction LL with
  | nil => simp
  | cons L LL ih =>
    have h1 := h L (by simp)
    have h2 := ih (fun M hM => h M (List.mem_cons_of_mem _ hM))
    rw [List.flatten_cons, List.length_append, List.length_cons, Nat.succ_mul]
    omega
theorem count_snoc (A : List Int) (x v : Int) : (A ++ [x]).count v = A.count v + (if v = x then 1 else 0) := by
  rw [List.count_append]
  congr 1
  by_cases e : v = x
  · rw [if_pos e, e]; simp
  · rw [if_neg e]; exact List.count_eq_zero.2 (by simpa using e)
theorem sev_next (m k : Nat) (hk : k < m) (p : Nat → Bool) : ((List.range m).take (k + 1)).filter p = (((List.range m).take k).filter p ++ if p k then [k] else []) := by
  rw [← List.take_append_getElem (by simpa using hk), List.filter_append]
  congr 1
  simp only [List.getElem_range]
  cases h : p k <;> simp [h]

set_option maxHeartbeats 4000000 in
set_option maxRecDepth 100000 in
theorem sev_any (m : Nat) (a : Option Addr) (cap : Nat) (LL : List (List Int)) (w : World) (hm : m ≤ 1000) (hK : LL.length ≤ 1000) (hR : ∀ L ∈ LL, L.length ≤ 1000) (hin : ∀ L ∈ LL, ∀ x ∈ L, 0 ≤ x ∧ x < m) (hA : LLAt w a LL) :
    Calls Try.prog 30 #[.int .i64 m, .slice a LL.length cap] w fun e w' => ∃ a' cap', e = .returned (.slice a' (sevL m LL).length cap') ∧ IAt w' a' (sevL m LL) ∧ Below w.heap.size w w' := by
  obtain ⟨K, hKe⟩ := ex_eq LL.length
  obtain ⟨i0, hi, hz0, hz1, hz2⟩ := info_parts Try.info3
  obtain ⟨w2, hrun, hown, hgrow⟩ := run_make_full (P := Try.prog) w w.heap.size 28 3 i0 (.int .i64 0) 1 Try.underlying28 hi hz0 hz1 .i64 .i64 m (by rw [hz2]; omega) (by unfold maxLen; omega) (Nat.le_refl _)
  have hlt2 : w.heap.size < w2.heap.size := (hown.lt _ rfl).2
  have hb2 : Below w.heap.size w w2 := Below.grown (Below.refl _ _) hgrow (Nat.le_refl _) (fun k hk => by cases hk)
  have HRW : Hid (Row1 w2 w.heap.size m (fun v => ((LL.take 0).flatten.count (v : Int) : Nat))) := (row1_made hown hlt2).congr (fun j _ => by simp)
  have hfl : LL.flatten.length ≤ 1000000 := by
    have := flat_len hR
    have : LL.length * 1000 ≤ 1000 * 1000 := Nat.mul_le_mul_right _ hK
    omega
  have HA := hid hA
  have HK := hid hKe
  have HIN := hid hin
  have HRL := hid hR
  have HFL := hid hfl
  rw [← hKe] at hK ⊢
  clear hA hKe hin hR hown hgrow hfl
  go_enter Try.func30, Try.ntmps30
  go_wp2
  clear hrun
  obtain ⟨b0, hb0⟩ := ex_eq w.heap.size
  have HB0 := hid hb0
  rw [← hb0] at HRW hb2 hlt2 ⊢
  clear hb0
  go_loopw [17] (fun i wr => ∃ k : Nat, k ≤ K ∧ i = .int .i64 k ∧ Hid (Row1 wr b0 m (fun v => ((LL.take k).flatten.count (v : Int) : Nat))) ∧ Below b0 w wr) (fun i _ => K - (RowKit.intOf i).toNat)
  case atStart => exact ⟨0, Nat.zero_le _, rfl, HRW, hb2⟩
  case round =>
    obtain ⟨k, hk, rfl, hrow, hbr⟩ := hrel
    by_cases hlt : k < K
    · have hkr : k < LL.length := by rw [← HK.out]; exact hlt
      obtain ⟨g, off, ak, ck, rfl, e1, hI⟩ := (HA.out.below (by rw [← HB0.out]; exact hbr)).at hkr
      obtain ⟨L, hL⟩ := ex_eq LL[k]
      rw [← hL] at e1 hI
      obtain ⟨n, hn⟩ := ex_eq L.length
      rw [← hn] at e1
      have hmem : L ∈ LL := by rw [hL]; exact List.getElem_mem _
      have hn1 : n ≤ 1000 := by rw [hn]; exact HRL.out L hmem
      have HX : Hid (∀ x ∈ L, 0 ≤ x ∧ x < m) := HIN.out L hmem
      have HNX : Hid ((LL.take (k + 1)).flatten = (LL.take k).flatten ++ L) := by
        show _ = _
        rw [← List.take_append_getElem hkr, List.flatten_append, hL]
        simp
      have HCL : Hid (∀ (j v : Nat), ((LL.take k).flatten ++ L.take j).count (v : Int) ≤ 1000000) := fun j v => by
        refine Nat.le_trans (count_le_len _ _) (Nat.le_trans ?_ HFL.out)
        have h1 : ((LL.take k).flatten ++ L.take j).length ≤ (LL.take (k + 1)).flatten.length := by
          rw [HNX.out, List.length_append, List.length_append, List.length_take]; omega
        have h2 : (LL.take (k + 1)).flatten.length ≤ LL.flatten.length := by
          have h3 : LL.flatten = (LL.take (k + 1)).flatten ++ (LL.drop (k + 1)).flatten := by rw [← List.flatten_append, List.take_append_drop]
          rw [h3, List.length_append]; omega
        omega
      have HN := hid hn
      have q1 : (k : Int) < (K : Int) := by omega
      have HROW : Hid (Row1 wr b0 m (fun v => (((LL.take k).flatten ++ L.take 0).count (v : Int) : Nat))) := by
        show Row1 _ _ _ _
        have := hrow.out
        simpa using this
      have HI : Hid (∀ X, Below b0 w X → ∀ j (h : j < L.length), ∃ gg oo, ak = some ⟨gg, oo, none⟩ ∧ X.cell? ⟨gg, oo + j, none⟩ = some (.int .i64 L[j])) := fun X hX j hj => by
        obtain ⟨g', off', ak', ck', e2, e3, hI'⟩ := (HA.out.below (by rw [← HB0.out]; exact hX)).at hkr
        cases e2
        obtain ⟨g4, o4, ak4, ck4, e5, e6, hI4⟩ := (HA.out.below (Below.refl _ _)).at hkr
        cases e5
        have hgw := block_lt_of_cell e6
        have u1 := (hbr.cell (p := ⟨g, off + k, none⟩) (by rw [HB0.out]; exact hgw)).trans e6
        have u2 := (hX.cell (p := ⟨g, off + k, none⟩) (by rw [HB0.out]; exact hgw)).trans e6
        rw [e1] at u1
        rw [e3] at u2
        simp only [Option.some.injEq, Value.slice.injEq] at u1 u2
        obtain ⟨rfl, _, _⟩ := u1
        obtain ⟨rfl, _, _⟩ := u2
        rw [← hL] at hI'
        obtain ⟨gg, oo, e7, _, hc⟩ := hI' (by omega)
        exact ⟨gg, oo, e7, hc j hj⟩
      clear hrow hL hn hkr hI
      go_wp2
      clear e1
      go_loopw [23] (fun i wz => ∃ j : Nat, j ≤ n ∧ i = .int .i64 j ∧ Hid (Row1 wz b0 m (fun v => (((LL.take k).flatten ++ L.take j).count (v : Int) : Nat))) ∧ Below b0 w wz) (fun i _ => n - (RowKit.intOf i).toNat)
      case atStart => exact ⟨0, Nat.zero_le _, rfl, HROW, hbr⟩
      case round =>
        obtain ⟨j, hj, rfl, hrow, hbz⟩ := hrel
        by_cases hltj : j < n
        · have hjr : j < L.length := by rw [← HN.out]; exact hltj
          obtain ⟨gg, oo, rfl, d0⟩ := HI.out wr hbz j hjr
          have hx := HX.out _ (List.getElem_mem hjr)
          obtain ⟨p, hp⟩ : ∃ p : Nat, L[j] = (p : Int) := ⟨(L[j]).toNat, by omega⟩
          rw [hp] at d0 hx
          have hpm : p < m := by omega
          obtain ⟨r1, r1f⟩ := hrow.out.2 p hpm
          have hcl := HCL.out j p
          obtain ⟨c, hc⟩ := ex_eq (((LL.take k).flatten ++ L.take j).count (p : Int))
          simp only at r1
          rw [← hc] at r1 hcl
          have q2 : (p : Int) < (m : Int) := by omega
          have q3 : (j : Int) < (n : Int) := by omega
          have q4 : IntKind.i64.wrap ((c : Int) + 1) = (c : Int) + 1 := by simp [IntKind.wrap, IntKind.bits, IntKind.signed]; omega
          have HRX : Hid (Row1 (wr.setCell ⟨b0, p, none⟩ (.int .i64 ((c : Int) + 1))) b0 m (fun v => (((LL.take k).flatten ++ L.take (j + 1)).count (v : Int) : Nat))) := (hrow.out.put hpm ((c : Int) + 1)).congr (fun v _ => by
            rw [← List.take_append_getElem hjr, ← List.append_assoc, hp, count_snoc]
            by_cases e : v = p
            · subst e
              rw [if_pos rfl, if_pos rfl, ← hc]
              omega
            · rw [if_neg e, if_neg (by omega)]
              rfl)
          have hbX : Below b0 w (wr.setCell ⟨b0, p, none⟩ (.int .i64 ((c : Int) + 1))) := hbz.setCell (p := ⟨b0, p, none⟩) (Nat.le_refl _) _
          clear hp hrow hx hc hjr
          go_wp2
          go_roundw
          case rel => exact ⟨j + 1, by omega, by go_num, HRX, hbX⟩
          case measure => simp [RowKit.intOf]; omega
        · obtain rfl : j = n := by omega
          have HRX : Hid (Row1 wr b0 m (fun v => ((LL.take (k + 1)).flatten.count (v : Int) : Nat))) := hrow.out.congr (fun v _ => by rw [HNX.out, HN.out, List.take_length])
          clear hrow
          go_wp2
          go_roundw
          case rel => exact ⟨k + 1, by omega, by go_num, HRX, hbz⟩
          case measure => simp [RowKit.intOf]; omega
    · obtain rfl : k = K := by omega
      have htk : LL.take k = LL := by rw [HK.out, List.take_length]
      rw [htk] at hrow
      obtain ⟨ct, hct⟩ := ex_eq (fun v : Nat => LL.flatten.count (v : Int))
      have HROW : Hid (Row1 wr b0 m (fun v => (ct v : Int))) := by
        show Row1 _ _ _ _
        rw [hct]; exact hrow.out
      have HCT := hid hct
      have hsr : b0 < wr.heap.size := hrow.out.1
      have HBR := hid hbr
      clear hrow htk hct hbr HIN HRL
      go_wp2
      obtain ⟨w3, hw3⟩ : ∃ x, x = wr := ⟨_, rfl⟩
      subst hw3
      go_loopw [10, 37] (fun v i wz => ∃ t : Nat, t ≤ m ∧ i = .int .i64 t ∧ Hid (wz.ownsRow w3.heap.size 3 1 v ((((List.range m).take t).filter (fun v => decide (1 < ct v))).map (fun v : Nat => (v : Int))).length (((((List.range m).take t).filter (fun v => decide (1 < ct v))).map (fun v : Nat => (v : Int))).map (Value.int .i64))) ∧ Below w3.heap.size w3 wz) (fun _ i _ => m - (RowKit.intOf i).toNat)
      case atStart => exact ⟨0, Nat.zero_le _, rfl, World.ownsRow_nil _ _ _ _, Below.refl _ _⟩
      case round =>
        obtain ⟨t, ht, rfl, hown, hbz⟩ := hrel
        obtain ⟨P, hP⟩ := ex_eq ((((List.range m).take t).filter (fun v => decide (1 < ct v))).map (fun v : Nat => (v : Int)))
        rw [← hP] at hown
        have hPl : P.length ≤ t := by
          rw [hP, List.length_map]
          refine Nat.le_trans (List.length_filter_le _ _) ?_
          rw [List.length_take]; omega
        by_cases hlt : t < m
        · have r1 := ((HROW.out.kept (KeptBut.of_whole (fun _ => False) hbz) (fun e => e)).2 t hlt).1
          obtain ⟨c, hc⟩ := ex_eq (ct t)
          simp only at r1
          rw [← hc] at r1
          have hnx : (((List.range m).take (t + 1)).filter (fun v => decide (1 < ct v))).map (fun v : Nat => (v : Int)) = P ++ (if 1 < c then [(t : Int)] else []) := by
            rw [sev_next m t hlt, List.map_append, ← hP, ← hc]
            congr 1
            by_cases h : 1 < c
            · rw [if_pos h, if_pos (decide_eq_true h)]; rfl
            · rw [if_neg h, if_neg (by simpa using h)]; rfl
          have HNX := hid hnx
          have q1 : (t : Int) < (m : Int) := by omega
          clear hP hnx hc
          by_cases h1 : 1 < c
          · have b1 : decide ((c : Int) > 1) = true := decide_eq_true (by omega)
            have b2 : (1 : Int) < (c : Int) := by omega
            have hown2 := hown.out
            clear hown
            go_wp2_with (at_builtin; refine wpList_append_any _ rfl _ _ 28 rfl w3.heap.size 3 i0 _ 1 8 Try.underlying28 hi hz0 hz1 hz2 rfl (by decide) _ _ _ rfl (hown2.alloc _) (some ⟨wr.heap.size, 0, none⟩) 1 1 [.int .i64 t] rfl (fun h => by cases h) rfl (fun pp hpp => by cases hpp; exact cells_one (heap_alloc_new _ _)) (fun u hu => by simp at hu; rw [hu]; rfl) (by unfold maxLen; omega) (by omega) (by have := hbz.size; simp; omega) ?_)
            intro v' w4 hown4 hgrow _
            have hb4 : Below w3.heap.size w3 w4 := Below.grown (hbz.alloc hbz.size _) hgrow (by have := hbz.size; simp; omega) (fun j hj => (hown2.lt j hj).1)
            have HO : Hid (w4.ownsRow w3.heap.size 3 1 v' ((((List.range m).take (t + 1)).filter (fun v => decide (1 < ct v))).map (fun v : Nat => (v : Int))).length (((((List.range m).take (t + 1)).filter (fun v => decide (1 < ct v))).map (fun v : Nat => (v : Int))).map (Value.int .i64))) := by
              show w4.ownsRow w3.heap.size 3 1 v' ((((List.range m).take (t + 1)).filter (fun v => decide (1 < ct v))).map (fun v : Nat => (v : Int))).length (((((List.range m).take (t + 1)).filter (fun v => decide (1 < ct v))).map (fun v : Nat => (v : Int))).map (Value.int .i64))
              rw [HNX.out, if_pos h1, List.length_append, List.map_append]
              exact hown4
            clear hgrow hown2 hown4 r1
            go_wp2
            go_roundw
            case rel => exact ⟨t + 1, by omega, by go_num, HO, hb4⟩
            case measure => simp [RowKit.intOf]; omega
          · have b1 : decide ((c : Int) > 1) = false := decide_eq_false (by omega)
            have b2 : ¬ (1 : Int) < (c : Int) := by omega
            have HO : Hid (wr.ownsRow w3.heap.size 3 1 u10 ((((List.range m).take (t + 1)).filter (fun v => decide (1 < ct v))).map (fun v : Nat => (v : Int))).length (((((List.range m).take (t + 1)).filter (fun v => decide (1 < ct v))).map (fun v : Nat => (v : Int))).map (Value.int .i64))) := by
              show World.ownsRow _ _ _ _ _ _ _
              rw [HNX.out, if_neg h1, List.append_nil]
              exact hown.out
            clear hown
            go_wp2
            go_roundw
            case rel => exact ⟨t + 1, by omega, by go_num, HO, hbz⟩
            case measure => simp [RowKit.intOf]; omega
        · obtain rfl : t = m := by omega
          have hPe : P = sevL t LL := by
            rw [hP, List.take_of_length_le (by simp), HCT.out]; rfl
          rw [hPe] at hown
          obtain ⟨a1, cap1, rfl, hea⟩ := own_form hown.out
          have HEA := hid hea
          have HBB : Hid (Below w.heap.size w wr) := by
            show Below _ _ _
            rw [← HB0.out]; exact HBR.out.trans (hbz.mono (by omega))
          clear hown hea hP hPe hPl
          go_wp2
          go_ret
          exact ⟨a1, cap1, rfl, HEA.out, HBB.out⟩
end Go.Proofs.Ytplhpinaadgkkaa
namespace Go.Proofs.Ytplhpinaadgkkaa
open Go.RowKit Go.Lib

theorem nodup_no {xs : List Int} {i k : Nat} (hi : i < xs.length) (hk : k < i) (h : xs[i] = xs[k]'(by omega)) : ¬ xs.Nodup := fun hn => (List.pairwise_iff_getElem.1 hn k i (by omega) hi hk) h.symm
theorem nodup_next {xs : List Int} {i : Nat} (hi : i < xs.length) (h : (xs.take i).Nodup) (hn : ∀ j (hj : j < xs.length), j < i → xs[j] ≠ xs[i]) : (xs.take (i + 1)).Nodup := by
  rw [List.take_succ_eq_append_getElem hi]
  refine List.nodup_append.2 ⟨h, by simp, fun a ha b hb => ?_⟩
  simp at hb
  subst hb
  obtain ⟨j, hj, rfl⟩ := List.getElem_of_mem ha
  rw [List.length_take] at hj
  rw [List.getElem_take]
  exact hn j (by omega) (by omega)

set_option maxHeartbeats 1000000 in
set_option maxRecDepth 100000 in
theorem unlike_any (a : Option Addr) (cap : Nat) (xs : List Int) (r : Bool) (w : World) (hN : xs.length ≤ 1000000) (h : IAt w a xs) (hr : r = true ↔ xs.Nodup) :
    Calls Try.prog 64 #[.slice a xs.length cap] w fun e w' => e = .returned (.bool r) ∧ Below w.heap.size w w' := by
  have H1 := hid h
  have HR := hid hr
  obtain ⟨N, hNe⟩ := ex_eq xs.length
  have HN := hid hNe
  obtain ⟨b0, hb0⟩ := ex_eq w.heap.size
  rw [← hNe] at hN ⊢
  have H1B : Hid (∀ W, Below b0 w W → IAt W a xs) := fun W hW => h.below (by rw [← hb0]; exact hW)
  rw [← hb0]
  clear h hr hNe hb0
  go_enter Try.func64, Try.ntmps64
  go_wp2
  go_loopg [3] N (fun G i wz => ∃ k : Nat, k ≤ N ∧ N - k ≤ G ∧ i = .int .i64 k ∧ Hid ((xs.take k).Nodup) ∧ Hid (Below b0 w wz))
  case atStart => exact ⟨0, Nat.zero_le _, by omega, rfl, (by simp : (xs.take 0).Nodup), Below.refl _ _⟩
  case round =>
    obtain ⟨i, hi, hG, rfl, hnd, hb⟩ := hrel
    by_cases hlt : i < N
    · have hir : i < xs.length := by rw [← HN.out]; exact hlt
      have q1 : (i : Int) < (N : Int) := by omega
      go_wp2
      go_loopg [4] i (fun G j wz => ∃ k : Nat, k ≤ i ∧ i - k ≤ G ∧ j = .int .i64 k ∧ Hid (∀ j (hj : j < xs.length), j < k → xs[j] ≠ xs[i]) ∧ Hid (Below b0 w wz))
      case atStart => exact ⟨0, Nat.zero_le _, by omega, rfl, (fun j _ h => absurd h (by omega)), hb⟩
      case round =>
        obtain ⟨k, hk, hGk, rfl, hno, hb2⟩ := hrel
        by_cases hkl : k < i
        · have hkr : k < xs.length := by omega
          obtain ⟨g, off, rfl, hg, hc⟩ := H1B.out wr hb2.out (by omega)
          have d1 := hc i hir
          have d2 := hc k hkr
          obtain ⟨x, hx⟩ := ex_eq xs[i]
          obtain ⟨y, hy⟩ := ex_eq xs[k]
          rw [← hx] at d1
          rw [← hy] at d2
          have q2 : (k : Int) < (N : Int) := by omega
          have q3 : (k : Int) < (i : Int) := by omega
          by_cases hxy : x = y
          · obtain rfl : r = false := b_false HR.out (nodup_no hir hkl (by rw [← hx, ← hy]; exact hxy))
            subst hxy
            clear HR hc hx hy hno
            go_wp2
            go_quiet (fail)
            go_wp2
            go_ret
            exact ⟨rfl, below_drewN hb2.out _⟩
          · have HNX : Hid (∀ j (hj : j < xs.length), j < k + 1 → xs[j] ≠ xs[i]) := fun j hj hjk => by
              by_cases e : j < k
              · exact hno.out j hj e
              · obtain rfl : j = k := by omega
                rw [← hx, ← hy]; exact fun e => hxy e.symm
            have hq : (x == y) = false := beq_eq_false_iff_ne.2 hxy
            clear hc hx hy hno hxy
            go_wp2
            go_quiet (fail)
            go_wp2
            go_roundg (i - (k + 1))
            case measure => omega
            case rel => exact ⟨k + 1, by omega, Nat.le_refl _, by go_num, HNX, below_drewN hb2.out _⟩
        · obtain rfl : k = i := by omega
          have HND : Hid ((xs.take (k + 1)).Nodup) := nodup_next hir hnd.out hno.out
          clear hno hnd
          go_wp2
          go_roundg (N - (k + 1))
          case measure => omega
          case rel => exact ⟨k + 1, by omega, Nat.le_refl _, by go_num, HND, hb2⟩
    · obtain rfl : i = N := by omega
      obtain rfl : r = true := HR.out.2 (by have := hnd.out; rw [HN.out, List.take_length] at this; exact this)
      clear HR hnd
      go_wp2
      go_ret
      exact ⟨rfl, hb.out⟩

/-- Where the first k numbers are the same. -/
def lexTo (xs ys : List Int) (k : Nat) : Bool := lexL (xs.drop k) (ys.drop k)
theorem lexTo_same {xs ys : List Int} {k : Nat} (h1 : k < xs.length) (h2 : k < ys.length) (h : xs[k] = ys[k]) : lexTo xs ys k = lexTo xs ys (k + 1) := by
  unfold lexTo
  rw [List.drop_eq_getElem_cons h1, List.drop_eq_getElem_cons h2]
  simp [lexL, h]
theorem lexTo_not {xs ys : List Int} {k : Nat} (h1 : k < xs.length) (h2 : k < ys.length) (h : xs[k] ≠ ys[k]) : lexTo xs ys k = decide (xs[k] < ys[k]) := by
  unfold lexTo
  rw [List.drop_eq_getElem_cons h1, List.drop_eq_getElem_cons h2]
  simp [lexL, h]
theorem lexTo_end {xs ys : List Int} {k : Nat} (hk : k ≤ xs.length) (hk2 : k ≤ ys.length) (h : ¬ (k < xs.length ∧ k < ys.length)) : lexTo xs ys k = decide (xs.length < ys.length) := by
  unfold lexTo
  by_cases h1 : k < xs.length
  · have h2 : k = ys.length := by omega
    subst h2
    rw [List.drop_eq_getElem_cons h1, List.drop_length]
    simp only [lexL]
    exact (decide_eq_false (by omega)).symm
  · have h2 : k = xs.length := by omega
    subst h2
    rw [List.drop_length]
    by_cases h3 : xs.length < ys.length
    · rw [List.drop_eq_getElem_cons h3, decide_eq_true h3]; rfl
    · rw [decide_eq_false h3, List.drop_eq_nil_of_le (by omega)]; rfl

set_option maxHeartbeats 1000000 in
set_option maxRecDepth 100000 in
theorem less_any (a1 a2 : Option Addr) (c1 c2 : Nat) (xs ys : List Int) (w : World) (hN : xs.length ≤ 1000000) (h1 : IAt w a1 xs) (h2 : IAt w a2 ys) :
    Calls Try.prog 19 #[.slice a1 xs.length c1, .slice a2 ys.length c2] w fun e w' => e = .returned (.bool (lexL xs ys)) ∧ Below w.heap.size w w' := by
  obtain ⟨r, hr⟩ := ex_eq (lexL xs ys)
  have HR : Hid (r = lexTo xs ys 0) := hr
  rw [← hr]
  obtain ⟨N, hNe⟩ := ex_eq xs.length
  obtain ⟨M, hMe⟩ := ex_eq ys.length
  have HN := hid hNe
  have HM := hid hMe
  obtain ⟨b0, hb0⟩ := ex_eq w.heap.size
  rw [← hNe] at hN ⊢
  rw [← hMe]
  have H1B : Hid (∀ W, Below b0 w W → IAt W a1 xs) := fun W hW => h1.below (by rw [← hb0]; exact hW)
  have H2B : Hid (∀ W, Below b0 w W → IAt W a2 ys) := fun W hW => h2.below (by rw [← hb0]; exact hW)
  rw [← hb0]
  clear h1 h2 hr hNe hMe hb0
  go_enter Try.func19, Try.ntmps19
  go_wp2
  go_loopg [5] N (fun G i wz => ∃ k : Nat, k ≤ N ∧ k ≤ M ∧ N - k ≤ G ∧ i = .int .i64 k ∧ Hid (r = lexTo xs ys k) ∧ Hid (Below b0 w wz))
  case atStart => exact ⟨0, Nat.zero_le _, Nat.zero_le _, by omega, rfl, HR, Below.refl _ _⟩
  case round =>
    obtain ⟨k, hk, hkM, hG, rfl, hrk, hb⟩ := hrel
    by_cases hgo : k < N ∧ k < M
    · obtain ⟨hlt, hltM⟩ := hgo
      have k1 : k < xs.length := by rw [← HN.out]; exact hlt
      have k2 : k < ys.length := by rw [← HM.out]; exact hltM
      obtain ⟨g1, o1, rfl, hg1, hc1⟩ := H1B.out wr hb.out (by omega)
      obtain ⟨g2, o2, rfl, hg2, hc2⟩ := H2B.out wr hb.out (by omega)
      have d1 := hc1 k k1
      have d2 := hc2 k k2
      obtain ⟨x, hx⟩ := ex_eq xs[k]
      obtain ⟨y, hy⟩ := ex_eq ys[k]
      rw [← hx] at d1
      rw [← hy] at d2
      have q1 : (k : Int) < (N : Int) := by omega
      have q2 : (k : Int) < (M : Int) := by omega
      by_cases hxy : x = y
      · have HNX : Hid (r = lexTo xs ys (k + 1)) := by
          show r = _
          rw [hrk.out, lexTo_same k1 k2 (by rw [← hx, ← hy]; exact hxy)]
        subst hxy
        clear hc1 hc2 hx hy hrk
        go_wp2
        go_quiet (fail)
        go_wp2
        go_roundg (N - (k + 1))
        case measure => omega
        case rel => exact ⟨k + 1, by omega, by omega, Nat.le_refl _, by go_num, HNX, below_drewN hb.out _⟩
      · have hq : (x == y) = false := beq_eq_false_iff_ne.2 hxy
        have hrr : r = decide (x < y) := by
          rw [hrk.out, lexTo_not k1 k2 (by rw [← hx, ← hy]; exact hxy), ← hx, ← hy]
        have HB := hid hb.out
        clear hc1 hc2 hx hy hrk hxy HR
        subst hrr
        go_wp2
        go_quiet (fail)
        go_wp2
        go_quiet (fail)
        go_wp2
        go_ret
        exact ⟨rfl, below_drewN (below_drewN HB.out _) _⟩
    · have hrr : r = decide (N < M) := by
        rw [hrk.out, lexTo_end (by rw [← HN.out]; exact hk) (by rw [← HM.out]; exact hkM) (by rw [← HN.out, ← HM.out]; exact hgo), HN.out, HM.out]
      have hway : (¬ (k : Int) < (N : Int)) ∨ ((k : Int) < (N : Int) ∧ ¬ (k : Int) < (M : Int)) := by omega
      clear hrk HR
      by_cases hl : N < M
      · rw [decide_eq_true hl] at hrr
        subst hrr
        have hl2 : (N : Int) < (M : Int) := by omega
        rcases hway with v1 | ⟨v1, v2⟩
        all_goals
          go_wp2
          go_ret
          exact ⟨rfl, hb.out⟩
      · rw [decide_eq_false hl] at hrr
        subst hrr
        have hl2 : ¬ (N : Int) < (M : Int) := by omega
        rcases hway with v1 | ⟨v1, v2⟩
        all_goals
          go_wp2
          go_ret
          exact ⟨rfl, hb.out⟩
end Go.Proofs.Ytplhpinaadgkkaa
namespace Go.Proofs.Ytplhpinaadgkkaa
open Go.RowKit Go.Lib

theorem takeW {P : Program} {ops : Array Oper} {Q : Exit → Act → World → Prop} {md : Region.Mode} {S : World → Prop} {i : Nat} {oi : Oper} {dst : Option Tmp} {v : Value} {fuel : Nat} {listed : Array Bool} {a : Act} {w : World} (hi : ops[i]? = some oi) (hd : oi.dst = dst)
    (hs : Region.noSelect ops = true) (hf : Region.free md ops listed i = true) (hr : (Region.ready md ops listed).contains i = true)
    (hQ : ∀ c a w, Q (.panic c) (a.put dst v) w → Q (.panic c) a w) (hy : YieldsIf P ops S oi v a) (hS : S w)
    (h : wpAnyH P md ops Q S fuel (listed.setIfInBounds i true) (a.put dst v) w) : wpAnyH P md ops Q S (fuel + 1) listed a w := by
  subst hd
  exact wpAnyH_take hi hs hf hr hQ hy hS h
end Go.Proofs.Ytplhpinaadgkkaa
