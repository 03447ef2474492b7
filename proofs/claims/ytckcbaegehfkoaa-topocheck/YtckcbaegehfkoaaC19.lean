/-
  The program's Edges keeps its contract (I3).
  The program's forks: the vertices with three neighbours (layer 9).
-/
import Derived.Test.YtckcbaegehfkoaaC13
import Derived.Test.YtckcbaegehfkoaaC18
import Derived.Test.YtckcbaegehfkoaaC03
import Derived.Test.YtckcbaegehfkoaaC08
import Derived.Test.YtckcbaegehfkoaaC15
namespace Go.Proofs.Ytckcbaegehfkoaa
open Go.RowKit Go.Lib Go.Sort

/-- What follows each other in a row, up to its k-th place; in all of it. -/
def peTo (p : List Int) (k : Nat) : List (Int × Int) := (List.range k).map (fun i => (min (p.getD i 0) (p.getD (i + 1) 0), max (p.getD i 0) (p.getD (i + 1) 0)))
def peL (p : List Int) : List (Int × Int) := peTo p (p.length - 1)
theorem peTo_zero (p : List Int) : peTo p 0 = [] := rfl
theorem peTo_succ (p : List Int) (k : Nat) : peTo p (k + 1) = peTo p k ++ [(min (p.getD k 0) (p.getD (k + 1) 0), max (p.getD k 0) (p.getD (k + 1) 0))] := by simp [peTo, List.range_succ]
theorem peTo_len (p : List Int) (k : Nat) : (peTo p k).length = k := by simp [peTo]
theorem pe_len : ∀ (LL : List (List Int)), (LL.flatMap peL).length ≤ LL.flatten.length
  | [] => by simp
  | L :: LL => by
    have := pe_len LL
    rw [List.flatMap_cons, List.flatten_cons, List.length_append, List.length_append, peL, peTo_len]
    omega

theorem flat_mem_len {LL : List (List Int)} {L : List Int} (h : L ∈ LL) : L.length ≤ LL.flatten.length := by
  induction LL with
  | nil => simp at h
  | cons M LL ih =>
    rw [List.flatten_cons, List.length_append]
    rcases List.mem_cons.1 h with rfl | h
    · omega
    · have := ih h; omega
/-- Sorted, and each kept once. -/
theorem once_any (v : Value) (base : Nat) (es : List (Int × Int)) (w : World) (h : w.ownsRow base 59 2 v es.length (cellsE es)) (hbw : base ≤ w.heap.size) (hn : es.length ≤ 1000000) :
    ∃ Q : World → Prop, Calls Try.prog 50 #[v, .func (.func 51) #[] #[]] w (fun e w1 => e = .returned (.tuple #[]) ∧ Q w1) ∧
      ∀ w1, Q w1 → Calls Try.prog 54 #[v] w1 (fun e w2 => ∃ a cap es', e = .returned (.slice a es'.length cap) ∧ Sl a cap es'.length ∧ EAt w2 a es' ∧ (0 < es'.length → ∃ g, a = some ⟨g, 0, none⟩ ∧ base ≤ g) ∧ Rises es' ∧ (∀ x, x ∈ es' ↔ x ∈ es) ∧ Below base w w2) := by
  by_cases h0 : 0 < es.length
  · obtain ⟨g, cap, rfl, hb, hcap, hrow⟩ := row2_own h h0
    have HM : ∀ x, x ∈ lst (fun j => es[j]?.getD (0, 0)) es.length ↔ x ∈ es := fun x => by rw [lst_list]
    refine ⟨fun w1 => ∃ c', Row2 w1 g es.length c' ∧ (∀ i j, i < j → j < es.length → ltE (c' j) (c' i) = false) ∧ (∀ x, x ∈ lst c' es.length ↔ x ∈ es) ∧ Below base w w1, ?_, ?_⟩
    · refine (sortE_any g es.length cap base _ w hb hbw hrow hn).mono ?_
      rintro e w1 ⟨rfl, c', hr, hs, hm, hb1⟩
      exact ⟨rfl, c', hr, hs, fun x => (hm x).trans (HM x), hb1⟩
    · rintro w1 ⟨c', hr, hs, hm, hb1⟩
      refine (compact_any g es.length cap base c' w1 hb hr hn hcap hs).mono ?_
      rintro e w2 ⟨K, c'', rfl, hK, hE, hR, hm2, hb2⟩
      exact ⟨_, cap, lst c'' K, by rw [lst_len], sl_some (by rw [lst_len]; omega), hE, fun _ => ⟨g, rfl, hb⟩, hR, fun x => (hm2 x).trans (hm x), hb1.trans hb2⟩
  · have e0 : es = [] := List.eq_nil_of_length_eq_zero (by omega)
    subst e0
    obtain ⟨a, cap, rfl, hcap, _⟩ := eat_own h
    refine ⟨fun w1 => w1 = w, AnyF.slices_SortFunc_none Try.sortE a cap _ w, ?_⟩
    rintro w1 rfl
    clear h
    go_enter Try.func54, Try.ntmps54
    go_wp2
    go_ret
    exact ⟨a, cap, [], rfl, hcap, eat_nil _ _, fun h => absurd h (by simp), rises_nil, fun _ => Iff.rfl, Below.refl _ _⟩

set_option maxHeartbeats 8000000 in
set_option maxRecDepth 100000 in
theorem tedges_any (kd : Int) (ta : Option Addr) (nt tc : Nat) (pa : Option Addr) (pc : Nat) (paths : List (List Int)) (w : World) (hF : paths.flatten.length ≤ 1000000) (hP : paths.length ≤ 1000000) (hL : LLAt w pa paths) :
    Calls Try.prog 22 #[.agg #[.int .i64 kd, .slice ta nt tc, .slice pa paths.length pc]] w fun e w' => ∃ a c es', e = .returned (.slice a es'.length c) ∧ Sl a c es'.length ∧ EAt w' a es' ∧ Rises es' ∧ (∀ x, x ∈ es' ↔ x ∈ paths.flatMap peL) ∧ Below w.heap.size w w' := by
  obtain ⟨M, hM⟩ := ex_eq paths.length
  obtain ⟨V, hV⟩ := ex_eq (w.alloc (.cells #[.int .i64 kd, .slice ta nt tc, .slice pa M pc] 32))
  have hbV : Below w.heap.size w V := by rw [hV]; exact below_one _ _
  obtain ⟨b0, hb0⟩ := ex_eq w.heap.size
  obtain ⟨B, hB⟩ := ex_eq V.heap.size
  have HSC : Hid (∀ X, Below B V X → (X.cell? ⟨b0, 0, none⟩ = some (.int .i64 kd) ∧ X.cell? ⟨b0, 1, none⟩ = some (.slice ta nt tc) ∧ X.cell? ⟨b0, 2, none⟩ = some (.slice pa M pc)) ∧ LLAt X pa paths ∧ Below b0 w X) := fun X hX => by
    rw [hB] at hX
    have h1 : SC V w.heap.size kd ta nt tc [] pa M pc paths := by rw [hV]; exact sc_new (iat_nil _ _) hL
    have h2 := h1.on hX
    rw [hb0]
    exact ⟨⟨h2.c0, h2.c1, h2.c2⟩, h2.at_, hbV.trans (hX.mono hbV.size)⟩
  have HO0 : Hid (V.ownsRow B 59 2 (.slice none 0 0) 0 (cellsE ((paths.take 0).flatMap peL))) := ⟨rfl, Or.inl ⟨rfl, rfl⟩⟩
  have HV := hid hV
  have HM := hid hM
  have HF := hid hF
  have HBB := hid hB
  have HB0 := hid hb0
  obtain ⟨i1, hj, hy0, hy1, hy2⟩ := info_parts Try.info59
  have HJ := hid hj
  have HY0 := hid hy0
  have HY1 := hid hy1
  have HY2 := hid hy2
  obtain ⟨⟨x0, x1, x2⟩, _, _⟩ := HSC.out V (by rw [hB]; exact Below.refl _ _)
  have hbV0 : Below B V V := by rw [hB]; exact Below.refl _ _
  have hVB : B ≤ V.heap.size := by omega
  rw [← hM]
  clear hF hL hM hV hbV hb0 hB hj hy0 hy1 hy2
  go_enter Try.func22, Try.ntmps22
  go_upto_region 1 with fail
  rw [← HV.out, ← HB0.out]
  clear HV
  go_wp2
  clear x0 x1 x2
  go_loopw [10, 3] (fun i v wz => ∃ t : Nat, t ≤ M ∧ i = .int .i64 t ∧ (∃ Q, Hid (wz.ownsRow B 59 2 v Q (cellsE ((paths.take t).flatMap peL)) ∧ Q = ((paths.take t).flatMap peL).length)) ∧ Below B V wz ∧ B ≤ wz.heap.size) (fun i _ _ => M - (RowKit.intOf i).toNat)
  case atStart => exact ⟨0, Nat.zero_le _, rfl, ⟨0, HO0.out, rfl⟩, hbV0, hVB⟩
  case round =>
    obtain ⟨t, ht, rfl, ⟨Q, hown⟩, hbz, hsz⟩ := hrel
    by_cases hlt : t < M
    · have htr : t < paths.length := by rw [← HM.out]; exact hlt
      obtain ⟨_, hLz, _⟩ := HSC.out wr hbz
      obtain ⟨gp, op, ak, ck, rfl, cR, hIx⟩ := hLz.at htr
      obtain ⟨L, hLe⟩ := ex_eq paths[t]
      rw [← hLe] at cR
      obtain ⟨J, hJ⟩ := ex_eq L.length
      rw [← hJ] at cR
      have HNX : Hid ((paths.take (t + 1)).flatMap peL = (paths.take t).flatMap peL ++ peL L) := by
        show _ = _
        rw [← List.take_append_getElem htr, List.flatMap_append, hLe]
        simp
      have HCL : Hid (∀ j, j + 1 ≤ J → ((paths.take t).flatMap peL ++ peTo L j).length ≤ 1000000) := fun j hj => by
        have h1 := pe_len paths
        have h2 : paths.flatMap peL = (paths.take t).flatMap peL ++ (peL L ++ (paths.drop (t + 1)).flatMap peL) := by
          rw [← List.append_assoc, ← HNX.out, ← List.flatMap_append, List.take_append_drop]
        rw [h2, List.length_append, List.length_append] at h1
        have h3 := HF.out
        rw [List.length_append, peTo_len]
        rw [peL, peTo_len] at h1
        omega
      have HI : Hid (∀ X, Below B V X → ∀ j (h : j < L.length), ∃ gg oo, ak = some ⟨gg, oo, none⟩ ∧ X.cell? ⟨gg, oo + j, none⟩ = some (.int .i64 L[j])) := fun X hX j hj => by
        obtain ⟨_, hLx, _⟩ := HSC.out X hX
        obtain ⟨_, hL0, _⟩ := HSC.out V (by rw [HBB.out]; exact Below.refl _ _)
        obtain ⟨g', off', ak', ck', e2, e3, hI'⟩ := hLx.at htr
        cases e2
        obtain ⟨g4, o4, ak4, ck4, e5, e6, hI4⟩ := hL0.at htr
        cases e5
        have hgw := block_lt_of_cell e6
        have u1 := (hbz.cell (p := ⟨gp, op + t, none⟩) (by rw [HBB.out]; exact hgw)).trans e6
        have u2 := (hX.cell (p := ⟨gp, op + t, none⟩) (by rw [HBB.out]; exact hgw)).trans e6
        rw [cR] at u1
        rw [e3] at u2
        simp only [Option.some.injEq, Value.slice.injEq] at u1 u2
        obtain ⟨rfl, _, _⟩ := u1
        obtain ⟨rfl, _, _⟩ := u2
        rw [← hLe] at hI'
        obtain ⟨gg, oo, e7, _, hc⟩ := hI' (by omega)
        exact ⟨gg, oo, e7, hc j hj⟩
      have HOWN : Hid (wr.ownsRow B 59 2 u3 Q (cellsE ((paths.take t).flatMap peL ++ peTo L 0)) ∧ Q = ((paths.take t).flatMap peL ++ peTo L 0).length) := by
        have h := hown.out
        rw [peTo_zero, List.append_nil]
        exact h
      have hJ6 : J ≤ 1000000 := by rw [hJ, hLe]; exact Nat.le_trans (flat_mem_len (List.getElem_mem htr)) HF.out
      have HJN := hid hJ
      have q1 : (t : Int) < (M : Int) := by omega
      clear hown hLe hJ hLz hIx
      go_wp2
      clear cR
      go_loopw [6, 3] (fun i v wz => ∃ j k : Nat, i = .int .i64 k ∧ Hid (k = j + 1 ∧ (j = 0 ∨ k ≤ J)) ∧ k ≤ J + 1 ∧ (∃ Q, Hid (wz.ownsRow B 59 2 v Q (cellsE ((paths.take t).flatMap peL ++ peTo L j)) ∧ Q = ((paths.take t).flatMap peL ++ peTo L j).length)) ∧ Below B V wz ∧ B ≤ wz.heap.size) (fun i _ _ => J + 1 - (RowKit.intOf i).toNat)
      case atStart => exact ⟨0, 1, rfl, ⟨rfl, Or.inl rfl⟩, by omega, ⟨Q, HOWN.out⟩, hbz, hsz⟩
      case round =>
        clear HOWN
        obtain ⟨j, k, rfl, hjk, hkJ, ⟨Q1, hown⟩, hbz, hsz⟩ := hrel
        by_cases hltk : k < J
        · have hk1 := hjk.out.1
          have hjr : j < L.length := by rw [← HJN.out]; omega
          have hkr : k < L.length := by rw [← HJN.out]; exact hltk
          obtain ⟨gg, oo, rfl, d0⟩ := HI.out wr hbz j hjr
          obtain ⟨gg', oo', e8, d1⟩ := HI.out wr hbz k hkr
          cases e8
          obtain ⟨x, hx⟩ := ex_eq L[j]
          obtain ⟨y, hy⟩ := ex_eq L[k]
          rw [← hx] at d0
          rw [← hy] at d1
          have HPX : Hid ((paths.take t).flatMap peL ++ peTo L k = ((paths.take t).flatMap peL ++ peTo L j) ++ [(min x y, max x y)]) := by
            show _ = _
            subst hk1
            rw [peTo_succ, List.append_assoc, hx, hy]
            simp [hjr, hkr]
          have hQ1 := hown.out.2
          have hQb : Q1 ≤ 1000000 := by rw [hQ1]; exact HCL.out j (by omega)
          obtain ⟨P, hP'⟩ := ex_eq ((paths.take t).flatMap peL ++ peTo L j)
          rw [← hP'] at hown HPX
          have HPN := hid hP'
          rw [← hP'] at hQ1
          have HQ1N := hid hQ1
          have HOW : Hid ((wr.drew.alloc (.cells #[.int .i64 (min x y), .int .i64 (max x y)] 59)).ownsRow B 59 2 u3 Q1 (cellsE P)) := World.ownsRow.alloc (w := wr.drew) hown.out.1 _
          have HNW : Hid (∀ i v, [Value.int .i64 (min x y), .int .i64 (max x y)][i]? = some v → (wr.drew.alloc (.cells #[.int .i64 (min x y), .int .i64 (max x y)] 59)).cell? ((⟨wr.heap.size, 0, none⟩ : Addr).add i) = some v) := cells_two (heap_alloc_new wr.drew _)
          have HON : Hid (∀ v ∈ [Value.int .i64 (min x y), .int .i64 (max x y)], v.oneCell' = true) := fun v hv => by simp at hv; rcases hv with rfl | rfl <;> rfl
          have H63 : Hid (Q1 + 1 ≤ maxLen) := by show Q1 + 1 ≤ maxLen; unfold maxLen; omega
          have HBY : Hid ((Q1 + 1) * 16 ≤ 140737488355328) := by show (Q1 + 1) * 16 ≤ 140737488355328; omega
          have HBS : Hid (B ≤ (wr.drew.alloc (.cells #[.int .i64 (min x y), .int .i64 (max x y)] 59)).heap.size) := by show B ≤ _; simp; omega
          have HKP : Hid (∀ w4, (wr.drew.alloc (.cells #[.int .i64 (min x y), .int .i64 (max x y)] 59)).grownBy w4 u3.ownBlock → Below B V w4 ∧ B ≤ w4.heap.size) := fun w4 hg => by
            have h1 : Below B V w4 := Below.grown (hbz.drew.alloc (by show B ≤ wr.heap.size; omega) _) hg (by simp; omega) (fun b hb => (hown.out.1.lt b hb).1)
            exact ⟨h1, Nat.le_trans hVB h1.size⟩
          have HSX : Hid (∀ w4, Below B V w4 → (fun X : World => X.cell? ⟨gg, oo + j, none⟩ = some (.int .i64 x) ∧ X.cell? ⟨gg, oo + k, none⟩ = some (.int .i64 y)) w4) := fun w4 h4 => by
            obtain ⟨g1, o1, e1, f1⟩ := HI.out w4 h4 j hjr
            obtain ⟨g2, o2, e2, f2⟩ := HI.out w4 h4 k hkr
            cases e1
            cases e2
            rw [hx, hy]
            exact ⟨f1, f2⟩
          have hS := HSX.out wr.drew hbz.drew
          have hSA := HSX.out (wr.drew.alloc (.cells #[.int .i64 (min x y), .int .i64 (max x y)] 59)) (hbz.drew.alloc hsz _)
          have q2 : (k : Int) - 1 = (j : Int) := by omega
          have q3 : IntKind.i64.wrap (j : Int) = (j : Int) := by rw [IntKind.wrap_i64]; omega
          have q4 : (k : Int) < (J : Int) := by omega
          have q5 : (j : Int) < (J : Int) := by omega
          have q6 : (0 : Int) ≤ (j : Int) := by omega
          have q7 : (0 : Int) ≤ (k : Int) := by omega
          have q8 : j < J := by omega
          clear hown hk1 hjr hkr hx hy hQ1 hP' HCL hjk
          go_upto_region 8 with fail
          refine wp_region_held_drew (S := (fun X : World => X.cell? ⟨gg, oo + j, none⟩ = some (.int .i64 x) ∧ X.cell? ⟨gg, oo + k, none⟩ = some (.int .i64 y))) (by kernel_rfl) hS (fun hHeld => ?_)
          (refine takeW (i := 0) (dst := some 20) (v := ?_) rfl rfl (by kernel_rfl) (by kernel_rfl) (by kernel_rfl) (fun _ _ _ h => h) (Or.inl ⟨by rfl, ?_⟩) hHeld ?_; rotate_left; focus (intro w hSw; (try dsimp only at hSw); go_simp; (try with_reducible rfl); done))
          try simp only [Act.put, List.setIfInBounds_toArray, List.set_cons_zero, List.set_cons_succ]
          (refine takeW (i := 1) (dst := some 21) (v := ?_) rfl rfl (by kernel_rfl) (by kernel_rfl) (by kernel_rfl) (fun _ _ _ h => h) (Or.inl ⟨by rfl, ?_⟩) hHeld ?_; rotate_left; focus (intro w hSw; (try dsimp only at hSw); go_simp; (try with_reducible rfl); done))
          try simp only [Act.put, List.setIfInBounds_toArray, List.set_cons_zero, List.set_cons_succ]
          (refine takeW (i := 2) (dst := some 22) (v := ?_) rfl rfl (by kernel_rfl) (by kernel_rfl) (by kernel_rfl) (fun _ _ _ h => h) (Or.inl ⟨by rfl, ?_⟩) hHeld ?_; rotate_left; focus (intro w hSw; (try dsimp only at hSw); go_simp; (try with_reducible rfl); done))
          try simp only [Act.put, List.setIfInBounds_toArray, List.set_cons_zero, List.set_cons_succ]
          (refine takeW (i := 3) (dst := some 23) (v := ?_) rfl rfl (by kernel_rfl) (by kernel_rfl) (by kernel_rfl) (fun _ _ _ h => h) (Or.inl ⟨by rfl, ?_⟩) hHeld ?_; rotate_left; focus (intro w hSw; (try dsimp only at hSw); go_simp; (try with_reducible rfl); done))
          try simp only [Act.put, List.setIfInBounds_toArray, List.set_cons_zero, List.set_cons_succ]
          (refine takeW (i := 4) (dst := some 24) (v := ?_) rfl rfl (by kernel_rfl) (by kernel_rfl) (by kernel_rfl) (fun _ _ _ h => h) (Or.inl ⟨by rfl, ?_⟩) hHeld ?_; rotate_left; focus (intro w hSw; (try dsimp only at hSw); go_simp; (try with_reducible rfl); done))
          try simp only [Act.put, List.setIfInBounds_toArray, List.set_cons_zero, List.set_cons_succ]
          (refine takeW (i := 5) (dst := some 25) (v := ?_) rfl rfl (by kernel_rfl) (by kernel_rfl) (by kernel_rfl) (fun _ _ _ h => h) (Or.inl ⟨by rfl, ?_⟩) hHeld ?_; rotate_left; focus (intro w hSw; (try dsimp only at hSw); go_simp; (try with_reducible rfl); done))
          try simp only [Act.put, List.setIfInBounds_toArray, List.set_cons_zero, List.set_cons_succ]
          (refine takeW (i := 6) (dst := some 26) (v := ?_) rfl rfl (by kernel_rfl) (by kernel_rfl) (by kernel_rfl) (fun _ _ _ h => h) (Or.inl ⟨by rfl, ?_⟩) hHeld ?_; rotate_left; focus (intro w hSw; (try dsimp only at hSw); go_simp; (try with_reducible rfl); done))
          try simp only [Act.put, List.setIfInBounds_toArray, List.set_cons_zero, List.set_cons_succ]
          (refine takeW (i := 7) (dst := some 27) (v := ?_) rfl rfl (by kernel_rfl) (by kernel_rfl) (by kernel_rfl) (fun _ _ _ h => h) (Or.inl ⟨by rfl, ?_⟩) hHeld ?_; rotate_left; focus (intro w hSw; (try dsimp only at hSw); go_simp; (try with_reducible rfl); done))
          try simp only [Act.put, List.setIfInBounds_toArray, List.set_cons_zero, List.set_cons_succ]
          (refine takeW (i := 8) (dst := some 28) (v := ?_) rfl rfl (by kernel_rfl) (by kernel_rfl) (by kernel_rfl) (fun _ _ _ h => h) (Or.inl ⟨by rfl, ?_⟩) hHeld ?_; rotate_left; focus (intro w hSw; (try dsimp only at hSw); go_simp; (try with_reducible rfl); done))
          try simp only [Act.put, List.setIfInBounds_toArray, List.set_cons_zero, List.set_cons_succ]
          (refine takeW (i := 9) (dst := some 29) (v := ?_) rfl rfl (by kernel_rfl) (by kernel_rfl) (by kernel_rfl) (fun _ _ _ h => h) (Or.inl ⟨by rfl, ?_⟩) hHeld ?_; rotate_left; focus (intro w hSw; (try dsimp only at hSw); go_simp; (try with_reducible rfl); done))
          try simp only [Act.put, List.setIfInBounds_toArray, List.set_cons_zero, List.set_cons_succ]
          (refine takeW (i := 10) (dst := some 30) (v := ?_) rfl rfl (by kernel_rfl) (by kernel_rfl) (by kernel_rfl) (fun _ _ _ h => h) (Or.inl ⟨by rfl, ?_⟩) hHeld ?_; rotate_left; focus (intro w hSw; (try dsimp only at hSw); go_simp; (try with_reducible rfl); done))
          try simp only [Act.put, List.setIfInBounds_toArray, List.set_cons_zero, List.set_cons_succ]
          (refine takeW (i := 11) (dst := some 31) (v := ?_) rfl rfl (by kernel_rfl) (by kernel_rfl) (by kernel_rfl) (fun _ _ _ h => h) (Or.inl ⟨by rfl, ?_⟩) hHeld ?_; rotate_left; focus (intro w hSw; (try dsimp only at hSw); go_simp; (try with_reducible rfl); done))
          try simp only [Act.put, List.setIfInBounds_toArray, List.set_cons_zero, List.set_cons_succ]
          (refine takeW (i := 12) (dst := some 32) (v := ?_) rfl rfl (by kernel_rfl) (by kernel_rfl) (by kernel_rfl) (fun _ _ _ h => h) (Or.inl ⟨by rfl, ?_⟩) hHeld ?_; rotate_left; focus (intro w hSw; (try dsimp only at hSw); go_simp; (try with_reducible rfl); done))
          try simp only [Act.put, List.setIfInBounds_toArray, List.set_cons_zero, List.set_cons_succ]
          (refine takeW (i := 13) (dst := some 33) (v := ?_) rfl rfl (by kernel_rfl) (by kernel_rfl) (by kernel_rfl) (fun _ _ _ h => h) (Or.inl ⟨by rfl, ?_⟩) hHeld ?_; rotate_left; focus (intro w hSw; (try dsimp only at hSw); go_simp; (try with_reducible rfl); done))
          try simp only [Act.put, List.setIfInBounds_toArray, List.set_cons_zero, List.set_cons_succ]
          (refine takeW (i := 14) (dst := some 34) (v := ?_) rfl rfl (by kernel_rfl) (by kernel_rfl) (by kernel_rfl) (fun _ _ _ h => h) (Or.inl ⟨by rfl, ?_⟩) hHeld ?_; rotate_left; focus (intro w hSw; (try dsimp only at hSw); go_simp; (try with_reducible rfl); done))
          try simp only [Act.put, List.setIfInBounds_toArray, List.set_cons_zero, List.set_cons_succ]
          (refine takeW (i := 15) (dst := some 35) (v := ?_) rfl rfl (by kernel_rfl) (by kernel_rfl) (by kernel_rfl) (fun _ _ _ h => h) (Or.inl ⟨by rfl, ?_⟩) hHeld ?_; rotate_left; focus (intro w hSw; (try dsimp only at hSw); go_simp; (try with_reducible rfl); done))
          try simp only [Act.put, List.setIfInBounds_toArray, List.set_cons_zero, List.set_cons_succ]
          (refine takeW (i := 16) (dst := some 36) (v := ?_) rfl rfl (by kernel_rfl) (by kernel_rfl) (by kernel_rfl) (fun _ _ _ h => h) (Or.inl ⟨by rfl, ?_⟩) hHeld ?_; rotate_left; focus (intro w hSw; (try dsimp only at hSw); go_simp; (try with_reducible rfl); done))
          try simp only [Act.put, List.setIfInBounds_toArray, List.set_cons_zero, List.set_cons_succ]
          (refine takeW (i := 17) (dst := some 37) (v := ?_) rfl rfl (by kernel_rfl) (by kernel_rfl) (by kernel_rfl) (fun _ _ _ h => h) (Or.inl ⟨by rfl, ?_⟩) hHeld ?_; rotate_left; focus (intro w hSw; (try dsimp only at hSw); go_simp; (try with_reducible rfl); done))
          try simp only [Act.put, List.setIfInBounds_toArray, List.set_cons_zero, List.set_cons_succ]
          (refine takeW (i := 18) (dst := some 38) (v := ?_) rfl rfl (by kernel_rfl) (by kernel_rfl) (by kernel_rfl) (fun _ _ _ h => h) (Or.inl ⟨by rfl, ?_⟩) hHeld ?_; rotate_left; focus (intro w hSw; (try dsimp only at hSw); go_simp; (try with_reducible rfl); done))
          try simp only [Act.put, List.setIfInBounds_toArray, List.set_cons_zero, List.set_cons_succ]
          (refine takeW (i := 19) (dst := some 39) (v := ?_) rfl rfl (by kernel_rfl) (by kernel_rfl) (by kernel_rfl) (fun _ _ _ h => h) (Or.inl ⟨by rfl, ?_⟩) hHeld ?_; rotate_left; focus (intro w hSw; (try dsimp only at hSw); go_simp; (try with_reducible rfl); done))
          try simp only [Act.put, List.setIfInBounds_toArray, List.set_cons_zero, List.set_cons_succ]
          (refine takeW (i := 20) (dst := some 40) (v := ?_) rfl rfl (by kernel_rfl) (by kernel_rfl) (by kernel_rfl) (fun _ _ _ h => h) (Or.inl ⟨by rfl, ?_⟩) hHeld ?_; rotate_left; focus (intro w hSw; (try dsimp only at hSw); go_simp; (try with_reducible rfl); done))
          try simp only [Act.put, List.setIfInBounds_toArray, List.set_cons_zero, List.set_cons_succ]
          (refine takeW (i := 21) (dst := some 41) (v := ?_) rfl rfl (by kernel_rfl) (by kernel_rfl) (by kernel_rfl) (fun _ _ _ h => h) (Or.inl ⟨by rfl, ?_⟩) hHeld ?_; rotate_left; focus (intro w hSw; (try dsimp only at hSw); go_simp; (try with_reducible rfl); done))
          try simp only [Act.put, List.setIfInBounds_toArray, List.set_cons_zero, List.set_cons_succ]
          refine wpAnyH_ready (rs := [22]) (by kernel_rfl) (by simp) ?_
          refine AllReadyH.cons (o := _) rfl (fun KK hK => ?_) AllReadyH.nil
          go_simp
          refine hK.out _ _ hSA (fun hHeld => ?_)
          clear hK KK
          try simp only [Act.put]
          try simp only [List.setIfInBounds_toArray]
          try simp only [List.set_cons_succ]
          try simp only [List.set_cons_zero]
          refine wpAnyH_ready (rs := [23]) (by kernel_rfl) (by simp) ?_
          refine AllReadyH.cons (o := _) rfl (fun KK hK => ?_) AllReadyH.nil
          rw [if_pos (by rfl)]
          refine wp_append_any _ (.tmp 20) (.tmp 42) 22 rfl B 59 i1 _ 2 16 Try.underlying22 HJ.out HY0.out HY1.out HY2.out rfl (by decide) u3 Q1 (cellsE P) (by simp [Act.eval]) HOW.out (some ⟨wr.heap.size, 0, none⟩) 1 1 [.int .i64 (min x y), .int .i64 (max x y)] (by simp [Act.eval]) (fun h => by cases h) rfl (fun p hp => by cases hp; exact HNW.out) HON.out H63.out HBY.out HBS.out ?_
          intro v4 w4 hown4 hgrow4 _
          have HBW4 := hid (HKP.out w4 hgrow4)
          have HOZ0 : Hid (w4.ownsRow B 59 2 v4 (Q1 + 1) (cellsE ((paths.take t).flatMap peL ++ peTo L k)) ∧ Q1 + 1 = ((paths.take t).flatMap peL ++ peTo L k).length) := by
            rw [HPX.out, cellsE_append]
            exact ⟨hown4, by rw [List.length_append, ← HQ1N.out]; rfl⟩
          have hS4 := HSX.out w4 HBW4.out.1
          clear hown4 hgrow4
          refine hK.out _ _ hS4 (fun hHeld => ?_)
          clear hK KK
          try simp only [Act.put]
          try simp only [List.setIfInBounds_toArray]
          try simp only [List.set_cons_succ]
          try simp only [List.set_cons_zero]
          (refine takeW (i := 24) (dst := some 3) (v := ?_) rfl rfl (by kernel_rfl) (by kernel_rfl) (by kernel_rfl) (fun _ _ _ h => h) (Or.inl ⟨by rfl, ?_⟩) hHeld ?_; rotate_left; focus (intro w hSw; (try dsimp only at hSw); go_simp; (try with_reducible rfl); done))
          try simp only [Act.put]
          try simp only [List.setIfInBounds_toArray]
          try simp only [List.set_cons_succ]
          try simp only [List.set_cons_zero]
          refine wpAnyH_done (by kernel_rfl) ?_ _
          have HOZ : Hid (w4.ownsRow B 59 2 v4 (Q1 + 1) (cellsE ((paths.take t).flatMap peL ++ peTo L k)) ∧ Q1 + 1 = ((paths.take t).flatMap peL ++ peTo L k).length) := HOZ0.out
          obtain ⟨hbw4, hsw4⟩ := HBW4.out
          clear hHeld hS hSA HOW HNW HON H63 HBY HBS HKP HSX HOZ0 HBW4 hS4 d0 d1 hbz hsz
          go_wp2
          go_roundw
          case rel => exact ⟨k, k + 1, by go_num, ⟨rfl, Or.inr (by omega)⟩, by omega, ⟨Q1 + 1, HOZ⟩, hbw4, hsw4⟩
          case measure => simp [RowKit.intOf]; omega
        · have hjk1 := hjk.out
          have HOZ : Hid (wr.ownsRow B 59 2 u3 Q1 (cellsE ((paths.take (t + 1)).flatMap peL)) ∧ Q1 = ((paths.take (t + 1)).flatMap peL).length) := by
            have e : J - 1 = j := by omega
            rw [HNX.out, peL, ← HJN.out, e]
            exact hown.out
          have q4 : ¬ (k : Int) < (J : Int) := by omega
          clear hown hjk hjk1 HCL
          go_wp2
          go_roundw
          case rel => exact ⟨t + 1, by omega, by go_num, ⟨Q1, HOZ⟩, hbz, hsz⟩
          case measure => simp [RowKit.intOf]; omega
    · obtain rfl : t = M := by omega
      have htk : paths.take t = paths := by rw [HM.out, List.take_length]
      rw [htk] at hown
      obtain ⟨hown, hQ⟩ := hown.out
      subst hQ
      have hpl : (paths.flatMap peL).length ≤ 1000000 := Nat.le_trans (pe_len _) HF.out
      obtain ⟨Q2, HS, HC⟩ := once_any u3 B (paths.flatMap peL) wr hown hsz hpl
      have HS := hid HS
      have HC := hid HC
      have HBZ := hid hbz
      have HFI : Hid (∀ X, Below B V X → Below b0 w X) := fun X hX => (HSC.out X hX).2.2
      clear hown hpl htk hbz
      go_wp2_with fail
      refine HS.out.mono ?_
      rintro e w1 ⟨rfl, hq⟩
      have HQ := hid hq
      clear hq HS
      go_wp2_with fail
      refine (HC.out _ HQ.out).mono ?_
      rintro e w2 ⟨a2, c2, es', rfl, hsl, hE, _, hR, hm, hb⟩
      have HFIN : Hid (Sl a2 c2 es'.length ∧ EAt w2 a2 es' ∧ Rises es' ∧ (∀ x, x ∈ es' ↔ x ∈ paths.flatMap peL) ∧ Below b0 w w2) := ⟨hsl, hE, hR, hm, HFI.out w2 (HBZ.out.trans hb)⟩
      clear hsl hE hR hm hb HC
      go_wp2
      go_ret
      obtain ⟨f1, f2, f3, f4, f5⟩ := HFIN.out
      exact ⟨a2, c2, es', rfl, f1, f2, f3, f4, by rw [← HB0.out]; exact f5⟩
end Go.Proofs.Ytckcbaegehfkoaa
namespace Go.Proofs.Ytckcbaegehfkoaa
open Go.RowKit Go.Lib

/-- The places of D at which 3 stands. -/
def fkL (D : List Int) : List Int := ((List.range D.length).filter (fun v : Nat => decide (D.getD v 0 = 3))).map (fun v : Nat => (v : Int))
/-- The vertices with three neighbours. -/
def forkL (m : Nat) (es : List (Int × Int)) : List Int := ((List.range m).filter (fun v : Nat => decide ((nbL v es).length = 3))).map (fun v : Nat => (v : Int))
theorem fk_fork (m : Nat) (es : List (Int × Int)) : fkL ((List.range m).map (fun v : Nat => ((nbL v es).length : Int))) = forkL m es := by
  unfold fkL forkL
  rw [List.length_map, List.length_range]
  congr 1
  refine List.filter_congr (fun v hv => ?_)
  have hv : v < m := by simpa using hv
  apply decide_eq_decide.2
  simp [hv]
  omega

set_option maxHeartbeats 4000000 in
set_option maxRecDepth 100000 in
theorem forks_any (n : Int) (a : Option Addr) (cap : Nat) (es : List (Int × Int)) (b : Bool) (w : World) (hN : es.length ≤ 1000000) (hE : EAt w a es) (hb : b = true ↔ RightG n es) :
    Calls Try.prog 43 #[.agg #[.int .i64 n, .slice a es.length cap]] w fun e w' => ∃ a' c' T, e = .returned (.slice a' T.length c') ∧ T = (if b = true then forkL n.toNat es else []) ∧ IAt w' a' T ∧ (∀ g off, a' = some ⟨g, off, none⟩ → w.heap.size ≤ g) ∧ Below w.heap.size w w' := by
  obtain ⟨N, hNe⟩ := ex_eq es.length
  obtain ⟨V, hV⟩ := ex_eq (w.alloc (.cells #[.int .i64 n, .slice a N cap] 30))
  have hbV : Below w.heap.size w V := by rw [hV]; exact below_one _ _
  obtain ⟨b0, hb0⟩ := ex_eq w.heap.size
  have o := heap_alloc_new w (.cells #[.int .i64 n, .slice a N cap] 30)
  rw [← hV, ← hb0] at o
  have x0 := cell_of_heap o 0
  have x1 := cell_of_heap o 1
  have CD := hid (degrees_any n a cap es b V hN (hE.below hbV) hb)
  rw [← hNe] at CD ⊢
  have HD : Hid ((if b = true then fkL ((List.range n.toNat).map (fun v : Nat => ((nbL v es).length : Int))) else []) = (if b = true then forkL n.toNat es else [])) := by show _ = _; rw [fk_fork]
  have HM : Hid (b = true → n.toNat ≤ 1000) := fun e => by have := (hb.1 e).2.1; omega
  obtain ⟨R, hR⟩ := ex_eq (if b = true then forkL n.toNat es else [])
  rw [← hR] at HD ⊢
  have HV := hid hV
  have HB0 := hid hb0
  have HBV := hid hbV
  obtain ⟨i0, hi, hz0, hz1, hz2⟩ := info_parts Try.info3
  clear hN hE hb hNe hV hbV o hb0 hR
  go_enter Try.func43, Try.ntmps43
  go_upto_region 1 with fail
  rw [← HV.out, ← HB0.out]
  clear HV
  go_wp2_with fail
  refine CD.out.mono ?_
  rintro e w1 ⟨a1, c1, D, rfl, hD, hI, hb1⟩
  have HDE : Hid (fkL D = R) := by
    show _ = _
    rw [← HD.out, hD]
    split
    · rfl
    · rfl
  have hDl : D.length ≤ 1000 := by
    rw [hD]
    split
    · next h => rw [List.length_map, List.length_range]; exact HM.out h
    · simp
  obtain ⟨M, hM⟩ := ex_eq D.length
  rw [← hM] at hDl ⊢
  have HMM := hid hM
  have HI := hid hI
  have HB1 := hid hb1
  have HFI : Hid (∀ X, Below w1.heap.size w1 X → Below w.heap.size w X) := fun X hX => HBV.out.trans ((hb1.mono HBV.out.size).trans (hX.mono (Nat.le_trans HBV.out.size hb1.size)))
  clear x0 x1 hM hI hb1 hD CD HD HM
  go_wp2
  go_loopw [9, 3] (fun i v wz => ∃ t : Nat, t ≤ M ∧ i = .int .i64 t ∧ Hid (wz.ownsRow w1.heap.size 3 1 v ((((List.range M).take t).filter (fun v => decide (D.getD v 0 = 3))).map (fun v : Nat => (v : Int))).length (((((List.range M).take t).filter (fun v => decide (D.getD v 0 = 3))).map (fun v : Nat => (v : Int))).map (Value.int .i64))) ∧ Below w1.heap.size w1 wz) (fun i _ _ => M - (RowKit.intOf i).toNat)
  case atStart => exact ⟨0, Nat.zero_le _, rfl, World.ownsRow_nil _ _ _ _, Below.refl _ _⟩
  case round =>
    obtain ⟨t, ht, rfl, hown, hbz⟩ := hrel
    obtain ⟨P, hP⟩ := ex_eq ((((List.range M).take t).filter (fun v => decide (D.getD v 0 = 3))).map (fun v : Nat => (v : Int)))
    rw [← hP] at hown
    have hPl : P.length ≤ t := by
      rw [hP, List.length_map]
      refine Nat.le_trans (List.length_filter_le _ _) ?_
      rw [List.length_take]; omega
    by_cases hlt : t < M
    · have htr : t < D.length := by rw [← HMM.out]; exact hlt
      obtain ⟨g, o, rfl, _, hc⟩ := (HI.out.below hbz) (by omega)
      have d0 := hc t htr
      obtain ⟨c, hcx⟩ := ex_eq D[t]
      rw [← hcx] at d0
      have hnx : (((List.range M).take (t + 1)).filter (fun v => decide (D.getD v 0 = 3))).map (fun v : Nat => (v : Int)) = P ++ (if c = 3 then [(t : Int)] else []) := by
        rw [sev_next M t hlt, List.map_append, ← hP]
        congr 1
        have e : D.getD t 0 = c := by rw [hcx]; simp [htr]
        rw [e]
        by_cases h : c = 3
        · rw [if_pos h, if_pos (decide_eq_true h)]; rfl
        · rw [if_neg h, if_neg (by simpa using h)]; rfl
      have HNX := hid hnx
      have q1 : (t : Int) < (M : Int) := by omega
      clear hP hnx hcx hc htr
      by_cases h1 : c = 3
      · subst h1
        have hown2 := hown.out
        clear hown
        go_wp2_with (at_builtin; refine wpList_append_any _ rfl _ _ 25 rfl w1.heap.size 3 i0 _ 1 8 Try.underlying25 hi hz0 hz1 hz2 rfl (by decide) _ _ _ rfl (hown2.alloc _) (some ⟨wr.heap.size, 0, none⟩) 1 1 [.int .i64 t] rfl (fun h => by cases h) rfl (fun pp hpp => by cases hpp; exact cells_one (heap_alloc_new _ _)) (fun u hu => by simp at hu; rw [hu]; rfl) (by unfold maxLen; omega) (by omega) (by have := hbz.size; simp; omega) ?_)
        intro v' w4 hown4 hgrow _
        have hb4 : Below w1.heap.size w1 w4 := Below.grown (hbz.alloc hbz.size _) hgrow (by have := hbz.size; simp; omega) (fun j hj => (hown2.lt j hj).1)
        have HO : Hid (w4.ownsRow w1.heap.size 3 1 v' ((((List.range M).take (t + 1)).filter (fun v => decide (D.getD v 0 = 3))).map (fun v : Nat => (v : Int))).length (((((List.range M).take (t + 1)).filter (fun v => decide (D.getD v 0 = 3))).map (fun v : Nat => (v : Int))).map (Value.int .i64))) := by
          show World.ownsRow _ _ _ _ _ _ _
          rw [HNX.out]
          simp only [if_true]
          rw [List.length_append, List.map_append]
          exact hown4
        clear hgrow hown2 hown4 d0
        go_wp2
        go_roundw
        case rel => exact ⟨t + 1, by omega, by go_num, HO, hb4⟩
        case measure => simp [RowKit.intOf]; omega
      · have b1 : (c == 3) = false := by simp [h1]
        have HO : Hid (wr.ownsRow w1.heap.size 3 1 u3 ((((List.range M).take (t + 1)).filter (fun v => decide (D.getD v 0 = 3))).map (fun v : Nat => (v : Int))).length (((((List.range M).take (t + 1)).filter (fun v => decide (D.getD v 0 = 3))).map (fun v : Nat => (v : Int))).map (Value.int .i64))) := by
          show World.ownsRow _ _ _ _ _ _ _
          rw [HNX.out, if_neg h1, List.append_nil]
          exact hown.out
        clear hown
        go_wp2
        go_roundw
        case rel => exact ⟨t + 1, by omega, by go_num, HO, hbz⟩
        case measure => simp [RowKit.intOf]; omega
    · obtain rfl : t = M := by omega
      have hPe : P = fkL D := by
        rw [hP, List.take_of_length_le (by simp), HMM.out]; rfl
      rw [hPe] at hown
      obtain ⟨a1', cap1, rfl, hea⟩ := own_form hown.out
      have HEA := hid hea
      have HGE : Hid (∀ g off, a1' = some ⟨g, off, none⟩ → w.heap.size ≤ g) := fun g off e => by
        have h1 := own_ge hown.out g off e
        have h2 := HBV.out.size
        have h3 := HB1.out.size
        omega
      have HBF := hid (HFI.out wr hbz)
      clear hown hP hPe hea
      go_wp2
      go_ret
      exact ⟨_, _, fkL D, rfl, HDE.out, HEA.out, HGE.out, HBF.out⟩
end Go.Proofs.Ytckcbaegehfkoaa
