/-
  carcanetlaw05.WalkApart answers true, for any walks that keep the contracts.
-/
import Derived.Test.YtccbheijfnodjaaB26
import Derived.Test.YtccbheijfnodjaaB28
import Derived.Test.YtccbheijfnodjaaLWTurn
import Derived.Test.YtccbheijfnodjaaB14
import Derived.Test.YtccbheijfnodjaaIOpen
namespace Go.Proofs.Ytccbheijfnodjaa
open Go.RowKit Go.Lib

/-- The first twenty of each of the first t rows. -/
def cutL (LL : List (List Int)) (t : Nat) : List (List Int) := (LL.take t).map (fun L => L.take 20)
theorem cutL_len {LL : List (List Int)} {t : Nat} (h : t ≤ LL.length) : (cutL LL t).length = t := by unfold cutL; rw [List.length_map, List.length_take]; omega
theorem cutL_next {LL : List (List Int)} {t : Nat} (h : t < LL.length) : cutL LL (t + 1) = cutL LL t ++ [LL[t].take 20] := by
  unfold cutL
  rw [List.take_succ_eq_append_getElem h, List.map_append]
  rfl
theorem flat_le : ∀ (LL : List (List Int)), (∀ L ∈ LL, L.length ≤ 20) → LL.flatten.length ≤ LL.length * 20
  | [], _ => by simp
  | L :: LL, h => by
    have h1 := flat_le LL (fun M hM => h M (List.mem_cons_of_mem _ hM))
    have h2 := h L (by simp)
    rw [List.flatten_cons, List.length_append, List.length_cons]
    omega
theorem cutL_flat (LL : List (List Int)) (t : Nat) : (cutL LL t).flatten.length ≤ (cutL LL t).length * 20 := flat_le _ (fun L hL => by
  obtain ⟨M, _, rfl⟩ := List.mem_map.1 hL
  rw [List.length_take]
  omega)
theorem WfR.cut {LL : List (List Int)} (h : WfR LL) (t : Nat) : WfR (cutL LL t) := fun L hL x hx => by
  unfold cutL at hL
  obtain ⟨L', hL', rfl⟩ := List.mem_map.1 hL
  exact h L' (List.mem_of_mem_take hL') x (List.mem_of_mem_take hx)
theorem CameR.wf {w : World} {a : Option Addr} {len cap : Nat} {LL : List (List Int)} (h : CameR w a len cap LL) : WfR LL := fun L hL x hx => by
  obtain ⟨k, hk, rfl⟩ := List.getElem_of_mem hL
  obtain ⟨_, _, _, _, hc⟩ := h.at_ (by omega)
  obtain ⟨_, _, _, hi⟩ := hc k hk
  exact hi.wf x hx
theorem llown_none (w : World) (base : Nat) (A : Nat → Prop) : LLOwn w base A (.slice none 0 0) [] [] := ⟨⟨rfl, Or.inl ⟨rfl, rfl⟩⟩, rfl, (fun g h => by cases h), fun k hk => absurd hk (by simp)⟩

set_option maxHeartbeats 4000000 in
set_option maxRecDepth 100000 in
theorem walkApart_law (O : WalkOps) (a : Option Addr) (N cap : Nat) (LL : List (List Int)) (w : World) (h : CameR w a N cap LL) :
    Calls Try.prog 6 #[.slice a N cap] w fun e w' => e = .returned (.bool true) ∧ Below w.heap.size w w' := by
  have HWF := hid h.wf
  have HO := hid O
  have HL := hid h.len_
  obtain ⟨i0, hi0, hz0, hz1, hz2⟩ := info_parts Try.info3
  obtain ⟨i1, hj, hy0, hy1, hy2⟩ := info_parts Try.info25
  obtain ⟨b0, hb0⟩ := ex_eq w.heap.size
  have HB0 := hid hb0
  have h00 : b0 ≤ w.heap.size := by omega
  have HAT := hid h.at_
  clear O h hb0
  go_enter Try.func6, Try.ntmps6
  go_wp2_with fail
  refine (wshown_any HO.out w).mono ?_
  rintro e w1 ⟨rfl, hb1⟩
  rw [← HB0.out] at hb1
  have HB1 := hid hb1
  clear hb1
  go_wp2
  go_loopg [4, 5] 20 (fun G v i wz => ∃ (t : Nat) (us : List Value), t ≤ 20 ∧ t ≤ N ∧ 20 - t ≤ G ∧ i = .int .i64 t ∧ Hid (LLOwn wz b0 (fun k => b0 ≤ k) v us (cutL LL t)) ∧ Hid (Below b0 w wz))
  case atStart => exact ⟨0, [], Nat.zero_le _, Nat.zero_le _, by omega, rfl, llown_none _ _ _, HB1⟩
  case round =>
    obtain ⟨t, us, ht, htN, hG, rfl, hll, hbz⟩ := hrel
    go_upto_region 4 with fail
    go_cut [14] from 7 to 13 (fun c wx => c = .bool (decide (t < N ∧ t < 20)) ∧ wx = wr)
    case first =>
      have hway : ((t : Int) < (N : Int) ∧ (t : Int) < 20) ∨ ¬ (t : Int) < (N : Int) ∨ ((t : Int) < (N : Int) ∧ ¬ (t : Int) < 20) := by omega
      clear hll hbz
      rcases hway with ⟨v1, v2⟩ | v1 | ⟨v1, v2⟩
      all_goals
        go_wp2_with fail
        go_meet
      all_goals first | exact ⟨congrArg Value.bool (decide_eq_decide.2 (by omega)), rfl⟩ | exact ⟨congrArg Value.bool (decide_eq_false (p := t < N ∧ t < 20) (by omega)).symm, rfl⟩ | exact ⟨congrArg Value.bool (decide_eq_true (p := t < N ∧ t < 20) (by omega)).symm, rfl⟩
    case rest =>
      obtain ⟨rfl, hwc⟩ := hcut
      rw [hwc]
      clear hwc
      by_cases hgo : t < N ∧ t < 20
      · rw [decide_eq_true hgo]
        obtain ⟨hlt, ht20⟩ := hgo
        have htr : t < LL.length := by rw [← HL.out]; exact hlt
        obtain ⟨g, off, ha', hg, hrow⟩ := HAT.out (by omega)
        subst ha'
        obtain ⟨ak, ck, c0, hck⟩ := hrow t htr
        obtain ⟨R, hR⟩ := ex_eq LL[t].length
        rw [← hR] at c0 hck
        obtain ⟨Kr, hKr⟩ := ex_eq (min R 20)
        obtain ⟨L, hLr⟩ := ex_eq (LL[t].take 20)
        have hLl : L.length = Kr := by rw [hLr, List.length_take]; omega
        have HLr := hid hLr
        have HSB : Hid (∀ X, Below b0 w X → X.cell? ⟨g, off + t, none⟩ = some (.slice ak R ck)) := fun X hX => (hX.cell (p := ⟨g, off + t, none⟩) (by rw [HB0.out]; exact hg)).trans c0
        have HIR : Hid (∀ X, Below b0 w X → IAt X ak L) := fun X hX => by
          rw [hLr]; exact iat_take (hck.at_.below (by rw [← HB0.out]; exact hX)) 20
        have hz := hbz.out.size
        have HBX : Hid (∀ X, Below wr.heap.size wr.drew X → Below b0 w X) := fun X hX => hbz.out.drew.trans (hX.mono (by omega))
        have HBA : Hid (Below b0 w (wr.drew.alloc (.cells #[] 3))) := hbz.out.drew.alloc (by show b0 ≤ wr.heap.size; omega) _
        have HOW : Hid ((wr.drew.alloc (.cells #[] 3)).ownsRow wr.heap.size 3 1 (.slice (some ⟨wr.heap.size, 0, none⟩) 0 0) 0 []) := own_emptyI (w := wr.drew) _ rfl
        have hck1 := hck.le
        have hck2 := hck.nil
        have hck3 := hck.max
        have kmin : min (R : Int) 20 = (Kr : Int) := by omega
        have kc : (Kr : Int) ≤ (ck : Int) := by omega
        have k0 : (0 : Int) ≤ (Kr : Int) := by omega
        have k9 : (Kr : Int) ≤ (R : Int) := by omega
        have hKr20 : Kr ≤ 20 := by omega
        have HNIL : Hid (ak = none → Kr = 0 ∧ ck = 0) := fun e => by have := hck2 e; exact ⟨by omega, this⟩
        have HNW : Hid (∀ q, ak = some q → ∀ j u, (L.map (Value.int .i64))[j]? = some u → (wr.drew.alloc (.cells #[] 3)).cell? (q.add j) = some u) := fun q hq j u hu' => by
          subst hq
          rw [List.getElem?_map] at hu'
          have hjl : j < L.length := by
            by_cases hh : j < L.length
            · exact hh
            · rw [List.getElem?_eq_none (by omega)] at hu'; cases hu'
          rw [List.getElem?_eq_getElem hjl] at hu'
          cases hu'
          obtain ⟨g', off', hg', _, hc'⟩ := HIR.out (wr.drew.alloc (.cells #[] 3)) HBA.out (by omega)
          cases hg'
          rw [add_at]
          exact hc' j hjl
        have HON : Hid (∀ v ∈ L.map (Value.int .i64), v.oneCell' = true) := fun v hv => by obtain ⟨z, _, rfl⟩ := List.mem_map.1 hv; rfl
        have HLN : Hid ((L.map (Value.int .i64)).length = Kr * 1) := by show _ = _; rw [List.length_map, hLl, Nat.mul_one]
        have H63 : Hid (0 + Kr ≤ maxLen) := by show 0 + Kr ≤ maxLen; unfold maxLen; omega
        have HBS : Hid (wr.heap.size ≤ (wr.drew.alloc (.cells #[] 3)).heap.size) := by show wr.heap.size ≤ _; simp
        have HPUT : Hid (∀ v4 w4, w4.ownsRow wr.heap.size 3 1 v4 Kr (L.map (Value.int .i64)) → (wr.drew.alloc (.cells #[] 3)).grownBy w4 (Value.slice (some ⟨wr.heap.size, 0, none⟩) 0 0).ownBlock → ∃ ar cr, v4 = .slice ar Kr cr ∧ (w4.ownsRow wr.heap.size 3 1 (.slice ar Kr cr) Kr (L.map (Value.int .i64))) ∧ Below wr.heap.size wr.drew w4) := fun v4 w4 h1 h2 => by
          obtain ⟨a3, c3, hv3, _⟩ := sl_own h1
          subst hv3
          exact ⟨a3, c3, rfl, h1, Below.grown ((Below.refl wr.heap.size wr.drew).alloc (Nat.le_refl _) _) h2 (by simp) (fun j hj => (HOW.out.lt j hj).1)⟩
        have hct : (cutL LL t).length = t := cutL_len (by omega)
        have hlld : LLOwn wr.drew b0 (fun k => b0 ≤ k) u4 us (cutL LL t) := hll.out.below (Below.refl _ _).drew
        have HO2 : Hid (∀ w4 ar cr, Below wr.heap.size wr.drew w4 → (w4.alloc (.cells #[.slice ar Kr cr] 25)).ownsRow b0 25 1 u4 t us) := fun w4 ar cr h4 => by
          have h := (hlld.below h4).1
          rw [hct] at h
          exact h.alloc _
        have HBZ : Hid (∀ (w4 : World) (ar : Option Addr) (cr : Nat), Below wr.heap.size wr.drew w4 → b0 ≤ (w4.alloc (.cells #[.slice ar Kr cr] 25)).heap.size) := fun w4 ar cr h4 => by
          have h5 : wr.heap.size ≤ w4.heap.size := h4.size
          simp
          omega
        have HB0W : Hid (∀ w4, Below wr.heap.size wr.drew w4 → b0 ≤ w4.heap.size) := fun w4 h4 => by
          have h5 : wr.heap.size ≤ w4.heap.size := h4.size
          omega
        have H632 : Hid (t + 1 ≤ maxLen) := by show t + 1 ≤ maxLen; unfold maxLen; omega
        have HF : Hid (∀ w4 ar cr, Below wr.heap.size wr.drew w4 → w4.ownsRow wr.heap.size 3 1 (.slice ar Kr cr) Kr (L.map (Value.int .i64)) → ∀ v6 w6, w6.ownsRow b0 25 1 v6 (t + 1) (us ++ [.slice ar Kr cr]) → (w4.alloc (.cells #[.slice ar Kr cr] 25)).grownBy w6 u4.ownBlock → (v6.ownBlock = u4.ownBlock ∨ v6.ownBlock = some (w4.alloc (.cells #[.slice ar Kr cr] 25)).heap.size) → (∃ us, LLOwn w6 b0 (fun k => b0 ≤ k) v6 us (cutL LL (t + 1))) ∧ Below b0 w w6) := fun w4 ar cr h4 ho4 v6 w6 h1 h2 h3 => by
          have hl4 := hlld.below h4
          have ho4' : w4.ownsRow wr.heap.size 3 1 (.slice ar Kr cr) L.length (L.map (Value.int .i64)) := by rw [hLl]; exact ho4
          obtain ⟨ar', cr', hv, hI⟩ := iat_own ho4'
          rw [hLl] at hv
          simp only [Value.slice.injEq, true_and] at hv
          obtain ⟨rfl, rfl⟩ := hv
          have hge := own_ge ho4
          have h5 : wr.heap.size ≤ w4.heap.size := h4.size
          have hput := hl4.put (L := L) (ar := ar) (cr := cr) (X := .cells #[.slice ar Kr cr] 25) hI (fun g off e _ => ⟨by have := hge g off e; omega, fun e2 => by have h7 : g < wr.heap.size := (hll.out.1.lt g e2).2; have := hge g off e; omega⟩) (by simp; omega) (by rw [hct, hLl]; exact h1) h2 h3
          refine ⟨⟨us ++ [.slice ar Kr cr], ?_⟩, ?_⟩
          · rw [cutL_next htr, ← HLr.out, ← hLl]; exact hput
          · exact Below.grown ((HBX.out w4 h4).alloc (by omega) _) h2 (by simp; omega) (fun j hj => (hl4.1.lt j hj).1)
        have q1 : (t : Int) < (N : Int) := by omega
        have q2 : (0 : Int) ≤ (t : Int) := by omega
        have q5 : (t : Int) < 20 := by omega
        have hS := HSB.out wr.drew hbz.out.drew
        clear hrow hck hR hKr hLr hLl hll hlld hct c0
        cases ak with
        | none =>
          obtain rfl := hck2 rfl
          obtain rfl : R = 0 := by omega
          obtain rfl : Kr = 0 := by omega
          clear hck2 hck1 hck3 kmin kc k0 k9
          have kmin : min (0 : Int) 20 = 0 := by decide
          go_wp2_with fail
          refine wp_region_held_drew (S := (fun X => X.cell? ⟨g, off + t, none⟩ = some (.slice none 0 0))) (by kernel_rfl) hS (fun hHeld => ?_)
          (refine takeW (i := 0) (dst := some 17) (v := ?_) rfl rfl (by kernel_rfl) (by kernel_rfl) (by kernel_rfl) (fun _ _ _ h => h) (Or.inl ⟨by rfl, ?_⟩) hHeld ?_; rotate_left; focus (intro w hSw; (try dsimp only at hSw); go_simp; (try with_reducible rfl); done))
          try simp only [Act.put, List.setIfInBounds_toArray, List.set_cons_zero, List.set_cons_succ]
          (refine takeW (i := 2) (dst := some 19) (v := ?_) rfl rfl (by kernel_rfl) (by kernel_rfl) (by kernel_rfl) (fun _ _ _ h => h) (Or.inl ⟨by rfl, ?_⟩) hHeld ?_; rotate_left; focus (intro w hSw; (try dsimp only at hSw); go_simp; (try with_reducible rfl); done))
          try simp only [Act.put, List.setIfInBounds_toArray, List.set_cons_zero, List.set_cons_succ]
          (refine takeW (i := 3) (dst := some 20) (v := ?_) rfl rfl (by kernel_rfl) (by kernel_rfl) (by kernel_rfl) (fun _ _ _ h => h) (Or.inl ⟨by rfl, ?_⟩) hHeld ?_; rotate_left; focus (intro w hSw; (try dsimp only at hSw); go_simp; (try with_reducible rfl); done))
          try simp only [Act.put, List.setIfInBounds_toArray, List.set_cons_zero, List.set_cons_succ]
          (refine takeW (i := 4) (dst := some 21) (v := ?_) rfl rfl (by kernel_rfl) (by kernel_rfl) (by kernel_rfl) (fun _ _ _ h => h) (Or.inl ⟨by rfl, ?_⟩) hHeld ?_; rotate_left; focus (intro w hSw; (try dsimp only at hSw); go_simp; (try with_reducible rfl); done))
          try simp only [Act.put, List.setIfInBounds_toArray, List.set_cons_zero, List.set_cons_succ]
          (refine takeW (i := 5) (dst := some 22) (v := ?_) rfl rfl (by kernel_rfl) (by kernel_rfl) (by kernel_rfl) (fun _ _ _ h => h) (Or.inl ⟨by rfl, ?_⟩) hHeld ?_; rotate_left; focus (intro w hSw; (try dsimp only at hSw); go_simp; (try with_reducible rfl); done))
          try simp only [Act.put, List.setIfInBounds_toArray, List.set_cons_zero, List.set_cons_succ]
          (refine takeW (i := 6) (dst := some 23) (v := ?_) rfl rfl (by kernel_rfl) (by kernel_rfl) (by kernel_rfl) (fun _ _ _ h => h) (Or.inl ⟨by rfl, ?_⟩) hHeld ?_; rotate_left; focus (intro w hSw; (try dsimp only at hSw); go_simp; (try with_reducible rfl); done))
          try simp only [Act.put, List.setIfInBounds_toArray, List.set_cons_zero, List.set_cons_succ]
          (refine takeW (i := 7) (dst := some 24) (v := ?_) rfl rfl (by kernel_rfl) (by kernel_rfl) (by kernel_rfl) (fun _ _ _ h => h) (Or.inl ⟨by rfl, ?_⟩) hHeld ?_; rotate_left; focus (intro w hSw; (try dsimp only at hSw); go_simp; (try with_reducible rfl); done))
          try simp only [Act.put, List.setIfInBounds_toArray, List.set_cons_zero, List.set_cons_succ]
          (refine takeW (i := 8) (dst := some 25) (v := ?_) rfl rfl (by kernel_rfl) (by kernel_rfl) (by kernel_rfl) (fun _ _ _ h => h) (Or.inl ⟨by rfl, ?_⟩) hHeld ?_; rotate_left; focus (intro w hSw; (try dsimp only at hSw); go_simp; (try with_reducible rfl); done))
          try simp only [Act.put, List.setIfInBounds_toArray, List.set_cons_zero, List.set_cons_succ]
          (refine takeW (i := 9) (dst := some 26) (v := ?_) rfl rfl (by kernel_rfl) (by kernel_rfl) (by kernel_rfl) (fun _ _ _ h => h) (Or.inl ⟨by rfl, ?_⟩) hHeld ?_; rotate_left; focus (intro w hSw; (try dsimp only at hSw); go_simp; (try with_reducible rfl); done))
          try simp only [Act.put, List.setIfInBounds_toArray, List.set_cons_zero, List.set_cons_succ]
          (refine takeW (i := 10) (dst := some 27) (v := ?_) rfl rfl (by kernel_rfl) (by kernel_rfl) (by kernel_rfl) (fun _ _ _ h => h) (Or.inl ⟨by rfl, ?_⟩) hHeld ?_; rotate_left; focus (intro w hSw; (try dsimp only at hSw); go_simp; (try with_reducible rfl); done))
          try simp only [Act.put, List.setIfInBounds_toArray, List.set_cons_zero, List.set_cons_succ]
          (refine takeW (i := 11) (dst := some 28) (v := ?_) rfl rfl (by kernel_rfl) (by kernel_rfl) (by kernel_rfl) (fun _ _ _ h => h) (Or.inl ⟨by rfl, ?_⟩) hHeld ?_; rotate_left; focus (intro w hSw; (try dsimp only at hSw); go_simp; (try with_reducible rfl); done))
          try simp only [Act.put, List.setIfInBounds_toArray, List.set_cons_zero, List.set_cons_succ]
          (refine takeW (i := 12) (dst := some 29) (v := ?_) rfl rfl (by kernel_rfl) (by kernel_rfl) (by kernel_rfl) (fun _ _ _ h => h) (Or.inl ⟨by rfl, ?_⟩) hHeld ?_; rotate_left; focus (intro w hSw; (try dsimp only at hSw); go_simp; (try with_reducible rfl); done))
          try simp only [Act.put, List.setIfInBounds_toArray, List.set_cons_zero, List.set_cons_succ]
          refine wpAnyH_ready (rs := [1]) (by kernel_rfl) (by simp) ?_
          refine AllReadyH.cons (o := _) rfl (fun KK hK => ?_) AllReadyH.nil
          go_simp
          refine hK.out _ _ (HSB.out (wr.drew.alloc (.cells #[] 3)) HBA.out) (fun hHeld => ?_)
          clear hK KK
          try simp only [Act.put]
          try simp only [List.setIfInBounds_toArray]
          try simp only [List.set_cons_succ]
          try simp only [List.set_cons_zero]
          refine wpAnyH_ready (rs := [13]) (by kernel_rfl) (by simp) ?_
          refine AllReadyH.cons (o := _) rfl (fun KK hK => ?_) AllReadyH.nil
          rw [if_pos (by rfl)]
          refine wp_append_any _ (.tmp 18) (.tmp 29) 25 rfl wr.heap.size 3 i0 _ 1 8 Try.underlying25 hi0 hz0 hz1 hz2 rfl (by decide) (.slice (some ⟨wr.heap.size, 0, none⟩) 0 0) 0 [] (by simp [Act.eval]) HOW.out none 0 0 (L.map (Value.int .i64)) (by simp [Act.eval]) (fun _ => ⟨rfl, rfl⟩) HLN.out HNW.out HON.out H63.out (by omega) HBS.out ?_
          intro v4 w4 hown4 hgrow4 _
          obtain ⟨ar, cr, hv4, hI4, hb4⟩ := HPUT.out v4 w4 (by simpa using hown4) hgrow4
          subst hv4
          have HI4 := hid hI4
          have HB4 := hid hb4
          have HOW2 := hid (HO2.out w4 ar cr hb4)
          have HNW2 : Hid (∀ p, some (⟨w4.heap.size, 0, none⟩ : Addr) = some p → ∀ j u, [Value.slice ar 0 cr][j]? = some u → (w4.alloc (.cells #[.slice ar 0 cr] 25)).cell? (p.add j) = some u) := news_one _
          have HON2 : Hid (∀ v ∈ [Value.slice ar 0 cr], v.oneCell' = true) := fun v hv => by simp at hv; rw [hv]; rfl
          have HFIN := hid (HF.out w4 ar cr hb4 hI4)
          have HBS2 : Hid (b0 ≤ (w4.alloc (.cells #[.slice ar 0 cr] 25)).heap.size) := HBZ.out w4 ar cr hb4
          have HBB4 := hid (HBX.out w4 hb4)
          clear hown4 hgrow4 hI4 hb4
          refine hK.out _ _ (HSB.out w4 HBB4.out) (fun hHeld => ?_)
          clear hK KK
          try simp only [Act.put]
          try simp only [List.setIfInBounds_toArray]
          try simp only [List.set_cons_succ]
          try simp only [List.set_cons_zero]
          refine wpAnyH_ready (rs := [14]) (by kernel_rfl) (by simp) ?_
          refine AllReadyH.cons (o := _) rfl (fun KK hK => ?_) AllReadyH.nil
          go_simp
          refine hK.out _ _ (HSB.out _ (HBB4.out.alloc (HB0W.out w4 HB4.out) _)) (fun hHeld => ?_)
          clear hK KK
          try simp only [Act.put]
          try simp only [List.setIfInBounds_toArray]
          try simp only [List.set_cons_succ]
          try simp only [List.set_cons_zero]
          refine wpAnyH_ready (rs := [15]) (by kernel_rfl) (by simp) ?_
          refine AllReadyH.cons (o := _) rfl (fun KK hK => ?_) AllReadyH.nil
          rw [if_pos (by rfl)]
          refine wp_append_any _ (.tmp 17) (.tmp 31) 36 rfl b0 25 i1 _ 1 24 Try.underlying36 hj hy0 hy1 hy2 rfl (by decide) u4 t us (by simp [Act.eval]) HOW2.out (some ⟨w4.heap.size, 0, none⟩) 1 1 [.slice ar 0 cr] (by simp [Act.eval]) (fun h => by cases h) rfl HNW2.out HON2.out H632.out (by omega) HBS2.out ?_
          intro v6 w6 hown6 hgrow6 hat6
          have h6 := HFIN.out v6 w6 hown6 hgrow6 (hat6.imp id (fun h => by rw [h]; try simp))
          have H6 := hid h6
          clear hown6 hgrow6 hat6
          refine hK.out _ _ (HSB.out w6 H6.out.2) (fun hHeld => ?_)
          clear hK KK
          try simp only [Act.put]
          try simp only [List.setIfInBounds_toArray]
          try simp only [List.set_cons_succ]
          try simp only [List.set_cons_zero]
          (refine takeW (i := 16) (dst := some 4) (v := ?_) rfl rfl (by kernel_rfl) (by kernel_rfl) (by kernel_rfl) (fun _ _ _ h => h) (Or.inl ⟨by rfl, ?_⟩) hHeld ?_; rotate_left; focus (intro w hSw; (try dsimp only at hSw); go_simp; (try with_reducible rfl); done))
          try simp only [Act.put]
          try simp only [List.setIfInBounds_toArray]
          try simp only [List.set_cons_succ]
          try simp only [List.set_cons_zero]
          refine wpAnyH_done (by kernel_rfl) ?_ _
          obtain ⟨⟨us6, h6⟩, h7⟩ := H6.out
          have HL6 := hid h6
          have HB6 := hid h7
          clear h6 h7 H6 hHeld hS HSB HF HO2 HBZ HB0W HPUT HIR HBX HFIN
          go_wp2
          go_roundg (20 - (t + 1))
          case measure => omega
          case rel => exact ⟨t + 1, us6, by omega, by omega, Nat.le_refl _, by go_num, HL6, HB6⟩
        | some ad =>
          clear hck2
          go_wp2_with fail
          refine wp_region_held_drew (S := (fun X => X.cell? ⟨g, off + t, none⟩ = some (.slice (some ad) R ck))) (by kernel_rfl) hS (fun hHeld => ?_)
          (refine takeW (i := 0) (dst := some 17) (v := ?_) rfl rfl (by kernel_rfl) (by kernel_rfl) (by kernel_rfl) (fun _ _ _ h => h) (Or.inl ⟨by rfl, ?_⟩) hHeld ?_; rotate_left; focus (intro w hSw; (try dsimp only at hSw); go_simp; (try with_reducible rfl); done))
          try simp only [Act.put, List.setIfInBounds_toArray, List.set_cons_zero, List.set_cons_succ]
          (refine takeW (i := 2) (dst := some 19) (v := ?_) rfl rfl (by kernel_rfl) (by kernel_rfl) (by kernel_rfl) (fun _ _ _ h => h) (Or.inl ⟨by rfl, ?_⟩) hHeld ?_; rotate_left; focus (intro w hSw; (try dsimp only at hSw); go_simp; (try with_reducible rfl); done))
          try simp only [Act.put, List.setIfInBounds_toArray, List.set_cons_zero, List.set_cons_succ]
          (refine takeW (i := 3) (dst := some 20) (v := ?_) rfl rfl (by kernel_rfl) (by kernel_rfl) (by kernel_rfl) (fun _ _ _ h => h) (Or.inl ⟨by rfl, ?_⟩) hHeld ?_; rotate_left; focus (intro w hSw; (try dsimp only at hSw); go_simp; (try with_reducible rfl); done))
          try simp only [Act.put, List.setIfInBounds_toArray, List.set_cons_zero, List.set_cons_succ]
          (refine takeW (i := 4) (dst := some 21) (v := ?_) rfl rfl (by kernel_rfl) (by kernel_rfl) (by kernel_rfl) (fun _ _ _ h => h) (Or.inl ⟨by rfl, ?_⟩) hHeld ?_; rotate_left; focus (intro w hSw; (try dsimp only at hSw); go_simp; (try with_reducible rfl); done))
          try simp only [Act.put, List.setIfInBounds_toArray, List.set_cons_zero, List.set_cons_succ]
          (refine takeW (i := 5) (dst := some 22) (v := ?_) rfl rfl (by kernel_rfl) (by kernel_rfl) (by kernel_rfl) (fun _ _ _ h => h) (Or.inl ⟨by rfl, ?_⟩) hHeld ?_; rotate_left; focus (intro w hSw; (try dsimp only at hSw); go_simp; (try with_reducible rfl); done))
          try simp only [Act.put, List.setIfInBounds_toArray, List.set_cons_zero, List.set_cons_succ]
          (refine takeW (i := 6) (dst := some 23) (v := ?_) rfl rfl (by kernel_rfl) (by kernel_rfl) (by kernel_rfl) (fun _ _ _ h => h) (Or.inl ⟨by rfl, ?_⟩) hHeld ?_; rotate_left; focus (intro w hSw; (try dsimp only at hSw); go_simp; (try with_reducible rfl); done))
          try simp only [Act.put, List.setIfInBounds_toArray, List.set_cons_zero, List.set_cons_succ]
          (refine takeW (i := 7) (dst := some 24) (v := ?_) rfl rfl (by kernel_rfl) (by kernel_rfl) (by kernel_rfl) (fun _ _ _ h => h) (Or.inl ⟨by rfl, ?_⟩) hHeld ?_; rotate_left; focus (intro w hSw; (try dsimp only at hSw); go_simp; (try with_reducible rfl); done))
          try simp only [Act.put, List.setIfInBounds_toArray, List.set_cons_zero, List.set_cons_succ]
          (refine takeW (i := 8) (dst := some 25) (v := ?_) rfl rfl (by kernel_rfl) (by kernel_rfl) (by kernel_rfl) (fun _ _ _ h => h) (Or.inl ⟨by rfl, ?_⟩) hHeld ?_; rotate_left; focus (intro w hSw; (try dsimp only at hSw); go_simp; (try with_reducible rfl); done))
          try simp only [Act.put, List.setIfInBounds_toArray, List.set_cons_zero, List.set_cons_succ]
          (refine takeW (i := 9) (dst := some 26) (v := ?_) rfl rfl (by kernel_rfl) (by kernel_rfl) (by kernel_rfl) (fun _ _ _ h => h) (Or.inl ⟨by rfl, ?_⟩) hHeld ?_; rotate_left; focus (intro w hSw; (try dsimp only at hSw); go_simp; (try with_reducible rfl); done))
          try simp only [Act.put, List.setIfInBounds_toArray, List.set_cons_zero, List.set_cons_succ]
          (refine takeW (i := 10) (dst := some 27) (v := ?_) rfl rfl (by kernel_rfl) (by kernel_rfl) (by kernel_rfl) (fun _ _ _ h => h) (Or.inl ⟨by rfl, ?_⟩) hHeld ?_; rotate_left; focus (intro w hSw; (try dsimp only at hSw); go_simp; (try with_reducible rfl); done))
          try simp only [Act.put, List.setIfInBounds_toArray, List.set_cons_zero, List.set_cons_succ]
          (refine takeW (i := 11) (dst := some 28) (v := ?_) rfl rfl (by kernel_rfl) (by kernel_rfl) (by kernel_rfl) (fun _ _ _ h => h) (Or.inl ⟨by rfl, ?_⟩) hHeld ?_; rotate_left; focus (intro w hSw; (try dsimp only at hSw); go_simp; (try with_reducible rfl); done))
          try simp only [Act.put, List.setIfInBounds_toArray, List.set_cons_zero, List.set_cons_succ]
          (refine takeW (i := 12) (dst := some 29) (v := ?_) rfl rfl (by kernel_rfl) (by kernel_rfl) (by kernel_rfl) (fun _ _ _ h => h) (Or.inl ⟨by rfl, ?_⟩) hHeld ?_; rotate_left; focus (intro w hSw; (try dsimp only at hSw); go_simp; (try with_reducible rfl); done))
          try simp only [Act.put, List.setIfInBounds_toArray, List.set_cons_zero, List.set_cons_succ]
          refine wpAnyH_ready (rs := [1]) (by kernel_rfl) (by simp) ?_
          refine AllReadyH.cons (o := _) rfl (fun KK hK => ?_) AllReadyH.nil
          go_simp
          refine hK.out _ _ (HSB.out (wr.drew.alloc (.cells #[] 3)) HBA.out) (fun hHeld => ?_)
          clear hK KK
          try simp only [Act.put]
          try simp only [List.setIfInBounds_toArray]
          try simp only [List.set_cons_succ]
          try simp only [List.set_cons_zero]
          refine wpAnyH_ready (rs := [13]) (by kernel_rfl) (by simp) ?_
          refine AllReadyH.cons (o := _) rfl (fun KK hK => ?_) AllReadyH.nil
          rw [if_pos (by rfl)]
          refine wp_append_any _ (.tmp 18) (.tmp 29) 25 rfl wr.heap.size 3 i0 _ 1 8 Try.underlying25 hi0 hz0 hz1 hz2 rfl (by decide) (.slice (some ⟨wr.heap.size, 0, none⟩) 0 0) 0 [] (by simp [Act.eval]) HOW.out (some ad) Kr ck (L.map (Value.int .i64)) (by simp [Act.eval]) HNIL.out HLN.out HNW.out HON.out H63.out (by omega) HBS.out ?_
          intro v4 w4 hown4 hgrow4 _
          obtain ⟨ar, cr, hv4, hI4, hb4⟩ := HPUT.out v4 w4 (by simpa using hown4) hgrow4
          subst hv4
          have HI4 := hid hI4
          have HB4 := hid hb4
          have HOW2 := hid (HO2.out w4 ar cr hb4)
          have HNW2 : Hid (∀ p, some (⟨w4.heap.size, 0, none⟩ : Addr) = some p → ∀ j u, [Value.slice ar Kr cr][j]? = some u → (w4.alloc (.cells #[.slice ar Kr cr] 25)).cell? (p.add j) = some u) := news_one _
          have HON2 : Hid (∀ v ∈ [Value.slice ar Kr cr], v.oneCell' = true) := fun v hv => by simp at hv; rw [hv]; rfl
          have HFIN := hid (HF.out w4 ar cr hb4 hI4)
          have HBS2 : Hid (b0 ≤ (w4.alloc (.cells #[.slice ar Kr cr] 25)).heap.size) := HBZ.out w4 ar cr hb4
          have HBB4 := hid (HBX.out w4 hb4)
          clear hown4 hgrow4 hI4 hb4
          refine hK.out _ _ (HSB.out w4 HBB4.out) (fun hHeld => ?_)
          clear hK KK
          try simp only [Act.put]
          try simp only [List.setIfInBounds_toArray]
          try simp only [List.set_cons_succ]
          try simp only [List.set_cons_zero]
          refine wpAnyH_ready (rs := [14]) (by kernel_rfl) (by simp) ?_
          refine AllReadyH.cons (o := _) rfl (fun KK hK => ?_) AllReadyH.nil
          go_simp
          refine hK.out _ _ (HSB.out _ (HBB4.out.alloc (HB0W.out w4 HB4.out) _)) (fun hHeld => ?_)
          clear hK KK
          try simp only [Act.put]
          try simp only [List.setIfInBounds_toArray]
          try simp only [List.set_cons_succ]
          try simp only [List.set_cons_zero]
          refine wpAnyH_ready (rs := [15]) (by kernel_rfl) (by simp) ?_
          refine AllReadyH.cons (o := _) rfl (fun KK hK => ?_) AllReadyH.nil
          rw [if_pos (by rfl)]
          refine wp_append_any _ (.tmp 17) (.tmp 31) 36 rfl b0 25 i1 _ 1 24 Try.underlying36 hj hy0 hy1 hy2 rfl (by decide) u4 t us (by simp [Act.eval]) HOW2.out (some ⟨w4.heap.size, 0, none⟩) 1 1 [.slice ar Kr cr] (by simp [Act.eval]) (fun h => by cases h) rfl HNW2.out HON2.out H632.out (by omega) HBS2.out ?_
          intro v6 w6 hown6 hgrow6 hat6
          have h6 := HFIN.out v6 w6 hown6 hgrow6 (hat6.imp id (fun h => by rw [h]; try simp))
          have H6 := hid h6
          clear hown6 hgrow6 hat6
          refine hK.out _ _ (HSB.out w6 H6.out.2) (fun hHeld => ?_)
          clear hK KK
          try simp only [Act.put]
          try simp only [List.setIfInBounds_toArray]
          try simp only [List.set_cons_succ]
          try simp only [List.set_cons_zero]
          (refine takeW (i := 16) (dst := some 4) (v := ?_) rfl rfl (by kernel_rfl) (by kernel_rfl) (by kernel_rfl) (fun _ _ _ h => h) (Or.inl ⟨by rfl, ?_⟩) hHeld ?_; rotate_left; focus (intro w hSw; (try dsimp only at hSw); go_simp; (try with_reducible rfl); done))
          try simp only [Act.put]
          try simp only [List.setIfInBounds_toArray]
          try simp only [List.set_cons_succ]
          try simp only [List.set_cons_zero]
          refine wpAnyH_done (by kernel_rfl) ?_ _
          obtain ⟨⟨us6, h6⟩, h7⟩ := H6.out
          have HL6 := hid h6
          have HB6 := hid h7
          clear h6 h7 H6 hHeld hS HSB HF HO2 HBZ HB0W HPUT HIR HBX HFIN
          go_wp2
          go_roundg (20 - (t + 1))
          case measure => omega
          case rel => exact ⟨t + 1, us6, by omega, by omega, Nat.le_refl _, by go_num, HL6, HB6⟩
      · rw [decide_eq_false hgo]
        obtain ⟨av, cv, hv, hsl, hat⟩ := hll.out.at
        have hct : (cutL LL t).length = t := cutL_len (by rw [← HL.out]; exact htN)
        have hfl := cutL_flat LL t
        rw [hct] at hv hsl hfl
        obtain ⟨r, hr⟩ := boolR_of (ApartL (cutL LL t))
        have CA : Hid (Calls Try.prog 24 #[.slice av t cv] wr fun e w' => e = .returned (.bool r) ∧ Below wr.heap.size wr w') := by
          have := HO.out.apart av cv (cutL LL t) r wr (by omega) (by omega) (by rw [hct]; exact hsl.w) hat (HWF.out.cut t) hr
          rw [hct] at this
          exact this
        have CB : Hid (∀ X, Below wr.heap.size wr X → Calls Try.prog 25 #[.slice av t cv] X fun e w' => e = .returned (.bool r) ∧ Below X.heap.size X w') := fun X hX => by
          have := rapart_any av cv (cutL LL t) r X (by omega) (by omega) (hat.below hX) hr
          rw [hct] at this
          exact this
        subst hv
        have HBZ := hbz
        clear hgo hll hat hct hfl hr hsl hbz
        go_wp2_with fail
        refine CA.out.mono ?_
        rintro e w8 ⟨rfl, hb8⟩
        have HB8 : Hid (Below b0 w w8) := HBZ.out.trans (hb8.mono (Nat.le_trans h00 HBZ.out.size))
        have CC := hid (CB.out w8 hb8)
        clear hb8 CA CB
        go_wp2_with fail
        refine CC.out.mono ?_
        rintro e w9 ⟨rfl, hb9⟩
        have HB9 : Hid (Below b0 w w9) := HB8.out.trans (hb9.mono (Nat.le_trans h00 HB8.out.size))
        clear hb9 CC
        go_wp2
        go_ret
        exact ⟨rfl, by rw [← HB0.out]; exact HB9.out⟩
end Go.Proofs.Ytccbheijfnodjaa
