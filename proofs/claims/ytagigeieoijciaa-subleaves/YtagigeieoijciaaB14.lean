/-
  The document's Others (layer 6): all vertices but one.
  The document's Delete (layer 6).
  What the laws of layer 6 ask of the program's calls: a row of contracts; and the small case that they begin with.
-/
import Derived.Test.YtagigeieoijciaaB05
import Derived.Test.YtagigeieoijciaaB08
import Derived.Test.YtagigeieoijciaaB04
import Derived.Test.YtagigeieoijciaaB09
import Derived.Test.YtagigeieoijciaaB13
namespace Go.Proofs.Ytagigeieoijciaa
open Go.RowKit Go.Lib

theorem news_oneO {w : World} {x : Value} {t : TypeId} : ∀ p, some (⟨w.heap.size, 0, none⟩ : Addr) = some p → ∀ j u, [x][j]? = some u → (w.alloc (.cells #[x] t)).cell? (p.add j) = some u := fun p hp j u hj => by
  cases hp
  cases j with
  | zero => simp at hj; subst hj; rw [add_at]; exact cell_of_heap (heap_alloc_new w _) 0
  | succ j => simp at hj
/-- The numbers below k but v. -/
def othTo (v : Nat) (k : Nat) : List Int := othL k v
theorem othTo_len (v k : Nat) : (othTo v k).length ≤ k := by
  unfold othTo othL
  rw [List.length_map]
  exact Nat.le_trans (List.length_filter_le _ _) (by simp)
theorem othTo_next (v k : Nat) : othTo v (k + 1) = othTo v k ++ (if k = v then [] else [(k : Int)]) := by
  unfold othTo othL
  rw [List.range_succ, List.filter_append, List.map_append]
  congr 1
  by_cases e : k = v
  · subst e; simp
  · rw [if_neg e]; simp [e]

set_option maxHeartbeats 1000000 in
set_option maxRecDepth 100000 in
theorem rothers_any (n v : Nat) (w : World) (hn : n ≤ 1000) :
    Calls Try.prog 36 #[.int .i64 n, .int .i64 v] w fun e w' => ∃ u, e = .returned u ∧ w'.ownsRow w.heap.size 3 1 u (othL n v).length ((othL n v).map (Value.int .i64)) ∧ Below w.heap.size w w' := by
  obtain ⟨i0, hi, hz0, hz1, hz2⟩ := info_parts Try.info3
  obtain ⟨W, hW⟩ := ex_eq (w.alloc (.cells #[] 3))
  have hbW : Below w.heap.size w W := by rw [hW]; exact (Below.refl _ _).alloc (Nat.le_refl _) _
  have HO : Hid (W.ownsRow w.heap.size 3 1 (.slice (some ⟨w.heap.size, 0, none⟩) 0 0) (othTo v 0).length ((othTo v 0).map (Value.int .i64))) := by
    show World.ownsRow _ _ _ _ _ _ _
    rw [hW]
    exact ⟨rfl, Or.inr ⟨w.heap.size, 0, #[], rfl, Nat.le_refl _, heap_alloc_new _ _, Nat.le_refl _, Nat.zero_le _, rfl, rfl⟩⟩
  have HW := hid hW
  clear hW
  go_enter Try.func36, Try.ntmps36
  go_wp2
  rw [← HW.out]
  clear HW
  go_loopg [5, 6] n (fun Gh u i wz => ∃ k : Nat, k ≤ n ∧ n - k ≤ Gh ∧ i = .int .i64 k ∧ Hid (wz.ownsRow w.heap.size 3 1 u (othTo v k).length ((othTo v k).map (Value.int .i64))) ∧ Below w.heap.size w wz)
  case atStart => exact ⟨0, Nat.zero_le _, by omega, rfl, HO, hbW⟩
  case round =>
    obtain ⟨k, hk, hGh, rfl, hown, hb⟩ := hrel
    by_cases hlt : k < n
    · have q1 : (k : Int) < (n : Int) := by omega
      have hlen := othTo_len v k
      by_cases he : k = v
      · have HNX : Hid (wr.ownsRow w.heap.size 3 1 u5 (othTo v (k + 1)).length ((othTo v (k + 1)).map (Value.int .i64))) := by
          show World.ownsRow _ _ _ _ _ _ _
          rw [othTo_next, if_pos he, List.append_nil]; exact hown.out
        have b1 : ((k : Int) != (v : Int)) = false := by simp [he]
        have b2 : ((k : Int) == (v : Int)) = true := by simp [he]
        clear hown
        subst he
        go_wp2
        go_roundg (n - (k + 1))
        case measure => omega
        case rel => exact ⟨k + 1, by omega, Nat.le_refl _, by go_num, HNX, hb⟩
      · have b1 : ((k : Int) != (v : Int)) = true := by simp; omega
        have b2 : ((k : Int) == (v : Int)) = false := beq_eq_false_iff_ne.2 (by omega)
        have b3 : ¬ (k : Int) = (v : Int) := by omega
        obtain ⟨K, hK⟩ := ex_eq (othTo v k).length
        have HK := hid hK
        rw [← hK] at hlen
        have hszr := hb.size
        have HOW : Hid ((wr.alloc (.cells #[.int .i64 k] 3)).ownsRow w.heap.size 3 1 u5 K ((othTo v k).map (Value.int .i64))) := by
          show World.ownsRow _ _ _ _ _ _ _
          rw [hK]; exact hown.out.alloc _
        have HNW : Hid (∀ p, some (⟨wr.heap.size, 0, none⟩ : Addr) = some p → ∀ j u, [Value.int .i64 (k : Int)][j]? = some u → (wr.alloc (.cells #[.int .i64 k] 3)).cell? (p.add j) = some u) := news_oneO
        have HON : Hid (∀ v ∈ [Value.int .i64 (k : Int)], v.oneCell' = true) := fun v hv => by simp at hv; rw [hv]; rfl
        have H63 : Hid (K + 1 ≤ maxLen) := by show K + 1 ≤ maxLen; unfold maxLen; omega
        have HBS : Hid (w.heap.size ≤ (wr.alloc (.cells #[.int .i64 k] 3)).heap.size) := by show w.heap.size ≤ _; simp; omega
        have HKP : Hid (∀ w4, (wr.alloc (.cells #[.int .i64 k] 3)).grownBy w4 u5.ownBlock → Below w.heap.size w w4) := fun w4 hg => Below.grown (hb.alloc hszr _) hg HBS.out (fun j hj => (hown.out.lt j hj).1)
        clear hK hown
        go_wp2_with (at_builtin; refine wpList_append_any _ rfl _ _ 25 rfl w.heap.size 3 i0 _ 1 8 Try.underlying25 hi hz0 hz1 hz2 rfl (by decide) _ _ _ rfl HOW.out (some ⟨wr.heap.size, 0, none⟩) 1 1 [.int .i64 k] rfl (fun h => by cases h) rfl HNW.out HON.out H63.out ?c4 HBS.out ?_)
        case c4 => omega
        intro v4 w4 hown4 hgrow _
        have hb4 := HKP.out w4 hgrow
        have HNX : Hid (w4.ownsRow w.heap.size 3 1 v4 (othTo v (k + 1)).length ((othTo v (k + 1)).map (Value.int .i64))) := by
          show World.ownsRow _ _ _ _ _ _ _
          rw [othTo_next, if_neg he, List.length_append, List.map_append, ← HK.out]; exact hown4
        clear hown4 hgrow HKP HBS H63 HON HNW HOW
        go_wp2
        go_roundg (n - (k + 1))
        case measure => omega
        case rel => exact ⟨k + 1, by omega, Nat.le_refl _, by go_num, HNX, hb4⟩
    · obtain rfl : k = n := by omega
      have HOE : Hid (wr.ownsRow w.heap.size 3 1 u5 (othL k v).length ((othL k v).map (Value.int .i64))) := hown
      clear hown
      go_wp2
      go_ret
      exact ⟨_, rfl, HOE.out, hb⟩
end Go.Proofs.Ytagigeieoijciaa
namespace Go.Proofs.Ytagigeieoijciaa
open Go.RowKit Go.Lib

/-- All others: what is told of them is what is told of v. -/
theorem del_of_ind {m V : Nat} {es : List (Int × Int)} {er N : Int} {E : List (Int × Int)} (hR : RightG m es) (hv : V < m) (h : IndS m es (othL m V) er N E) : DelS m es V er N E := by
  have hin : InL m (othL m V) := fun x hx => (mem_othL.1 hx).1
  rcases h with ⟨h1, _⟩ | ⟨_, h2, _⟩ | ⟨_, _, h3, _⟩ | ⟨_, _, _, rfl, rfl, h4⟩
  · exact absurd hR h1
  · exact absurd hin h2
  · exact absurd (othL_nodup m V) h3
  · exact Or.inr (Or.inr ⟨hR, by omega, rfl, by rw [othL_len hv]; omega, by simpa using h4⟩)

set_option maxHeartbeats 4000000 in
set_option maxRecDepth 100000 in
theorem rdel_any (n : Int) (a : Option Addr) (cap : Nat) (es : List (Int × Int)) (v : Int) (b : Bool) (w : World) (hN : es.length ≤ 1000000) (hE : EAt w a es) (hb : b = true ↔ RightG n es) :
    Calls Try.prog 16 #[.agg #[.int .i64 n, .slice a es.length cap], .int .i64 v] w fun e w' => ∃ u, e = .returned u ∧ SubTold (DelS n es v) w w' u := by
  obtain ⟨N, hNe⟩ := ex_eq es.length
  obtain ⟨W, hW, hsW, hO0, hO1, hbW⟩ := new_two w (.cells #[.int .i64 n, .slice a N cap] 27) (.cells #[.int .i64 0, .slice none 0 0] 27)
  have HGC : Hid (∀ X, Below W.heap.size W X → GC X w.heap.size n a N cap es ∧ Below w.heap.size w X ∧ X.heap[w.heap.size + 1]? = some (.cells #[.int .i64 0, .slice none 0 0] 27 (0, 0))) := fun X hX => by
    have o := (hX.block _ (by omega)).trans hO0
    have o1 := (hX.block (w.heap.size + 1) (by omega)).trans hO1
    have hbx : Below w.heap.size w X := hbW.trans (hX.mono (by omega))
    exact ⟨⟨cell_of_heap o 0, cell_of_heap o 1, hE.below hbx⟩, hbx, o1⟩
  have CR : Hid (∀ X, Below W.heap.size W X → Calls Try.prog 19 #[.agg #[.int .i64 n, .slice a N cap]] X fun e w' => e = .returned (.bool b) ∧ Below X.heap.size X w') := fun X hX => by
    rw [hNe]; exact rright_any n a cap es b X hN (HGC.out X hX).1.at_ hb
  have CII : Hid (∀ (l : List Int) (la : Option Addr) (lc : Nat) X, l.length ≤ 1000000 → GC X w.heap.size n a N cap es → IAt X la l → Calls Try.prog 13 #[.agg #[.int .i64 n, .slice a N cap], .slice la l.length lc] X fun e w' => ∃ v, e = .returned v ∧ SubTold (IndS n es l) X w' v) := fun l la lc X hl hX hI => by
    rw [hNe]; exact rind_any n a cap es la lc l b X hN hl hX.at_ hI hb
  have HBB := hid hb
  have HW := hid hW
  have HZ : Hid (∀ X, Below w.heap.size w X → Below w.heap.size w ((X.setCell ⟨w.heap.size + 1, 0, none⟩ (.int .i64 0)).setCell ⟨w.heap.size + 1, 1, none⟩ (.slice none 0 0))) := fun X hX => (hX.setCell (p := ⟨w.heap.size + 1, 0, none⟩) (by simp) _).setCell (p := ⟨w.heap.size + 1, 1, none⟩) (by simp) _
  rw [← hNe]
  clear hNe hW hO0 hO1 hbW hE hb hN
  go_enter Try.func16, Try.ntmps16
  go_wp2_with fail
  rw [← HW.out]
  refine (CR.out W (Below.refl _ _)).mono ?_
  rintro e w1 ⟨rfl, hb1⟩
  obtain ⟨hg1, hbw1, ho1⟩ := HGC.out w1 hb1
  have HB1 := hid hb1
  have HBw1 := hid hbw1
  have z0 := cell_of_heap ho1 0
  have z1 := cell_of_heap ho1 1
  have zf0 := frozen_of_heap ho1 0
  have zf1 := frozen_of_heap ho1 1
  obtain ⟨g0, g1⟩ := hg1.cells
  have HG1 := hid hg1
  clear CR hb1 hbw1 HW hg1
  cases b with
  | false =>
    have HNR : Hid (DelS n es v 1 0 []) := Or.inl ⟨(fun h => by have := HBB.out.2 h; cases this), rfl, rfl, rfl⟩
    clear HBB ho1
    go_wp2
    refine bodyPost_ret (v := .tuple #[.agg #[.int .i64 0, .slice none 0 0], .int .i64 1]) ?_ rfl ⟨_, rfl, subTold_none HNR.out (HZ.out w1 HBw1.out)⟩
    rw [results_cell_tmp rfl]
    go_simp
  | true =>
    have HRG := hid (HBB.out.1 rfl)
    clear HBB
    by_cases hv : 0 ≤ v ∧ v < n
    · obtain ⟨m, rfl⟩ : ∃ m : Nat, n = m := ⟨n.toNat, by have := HRG.out.1; omega⟩
      obtain ⟨V, rfl⟩ : ∃ V : Nat, v = V := ⟨v.toNat, by omega⟩
      have hVm : V < m := by omega
      have hm : m ≤ 1000 := by have := HRG.out.2.1; omega
      have e1 : decide ((V : Int) < 0) = false := decide_eq_false (by omega)
      have e2 : decide ((m : Int) ≤ (V : Int)) = false := decide_eq_false (by omega)
      have e3 : decide ((V : Int) ≥ (m : Int)) = false := decide_eq_false (by omega)
      have e4 : ¬ (V : Int) < 0 := by omega
      have e5 : ¬ (m : Int) ≤ (V : Int) := by omega
      have CO : Hid (∀ X, Calls Try.prog 36 #[.int .i64 m, .int .i64 V] X fun e w' => ∃ u, e = .returned u ∧ w'.ownsRow X.heap.size 3 1 u (othL m V).length ((othL m V).map (Value.int .i64)) ∧ Below X.heap.size X w') := fun X => rothers_any m V X hm
      obtain ⟨K, hK⟩ := ex_eq (othL m V).length
      have HLl : Hid ((othL m V).length = K) := hK.symm
      have hKl : (othL m V).length ≤ 1000000 := by rw [othL_len hVm]; omega
      have hB1d : Below W.heap.size W w1.drew := HB1.out.drew
      have HS5 : Hid (∀ w5, Below w1.drew.heap.size w1.drew w5 → w5.cell? ⟨w.heap.size, 0, none⟩ = some (.int .i64 m) ∧ w5.cell? ⟨w.heap.size, 1, none⟩ = some (.slice a N cap)) := fun w5 h5 => ((HGC.out w5 (hB1d.trans (h5.mono hB1d.size))).1).cells
      have HZC : Hid (∀ w5, Below w1.drew.heap.size w1.drew w5 → w5.cell? ⟨w.heap.size + 1, 0, none⟩ = some (.int .i64 0) ∧ w5.cell? ⟨w.heap.size + 1, 1, none⟩ = some (.slice none 0 0) ∧ w5.frozen? ⟨w.heap.size + 1, 0, none⟩ = false ∧ w5.frozen? ⟨w.heap.size + 1, 1, none⟩ = false) := fun w5 h5 => by
        have o := (HGC.out w5 (hB1d.trans (h5.mono hB1d.size))).2.2
        exact ⟨cell_of_heap o 0, cell_of_heap o 1, frozen_of_heap o 0, frozen_of_heap o 1⟩
      have HZO : Hid (∀ w5, Below w1.drew.heap.size w1.drew w5 → w5.heap[w.heap.size + 1]? = some (.cells #[.int .i64 0, .slice none 0 0] 27 (0, 0))) := fun w5 h5 => (HGC.out w5 (hB1d.trans (h5.mono hB1d.size))).2.2
      have HBx : Hid (∀ w5, Below w1.drew.heap.size w1.drew w5 → Below w.heap.size w w5) := fun w5 h5 => (HGC.out w5 (hB1d.trans (h5.mono hB1d.size))).2.1
      have CI : Hid (∀ la lc X, Below w1.drew.heap.size w1.drew X → IAt X la (othL m V) → Calls Try.prog 13 #[.agg #[.int .i64 m, .slice a N cap], .slice la K lc] X fun e w' => ∃ v, e = .returned v ∧ SubTold (IndS m es (othL m V)) X w' v) := fun la lc X hX hI => by
        rw [hK]; exact CII.out (othL m V) la lc X hKl (HGC.out X (hB1d.trans (hX.mono hB1d.size))).1 hI
      have HS7 : Hid (∀ w5, Below w1.drew.heap.size w1.drew w5 → ∀ x y, ((w5.setCell ⟨w.heap.size + 1, 0, none⟩ x).setCell ⟨w.heap.size + 1, 1, none⟩ y).cell? ⟨w.heap.size, 0, none⟩ = some (.int .i64 m) ∧ ((w5.setCell ⟨w.heap.size + 1, 0, none⟩ x).setCell ⟨w.heap.size + 1, 1, none⟩ y).cell? ⟨w.heap.size, 1, none⟩ = some (.slice a N cap)) := fun w5 h5 x y => by
        rw [World.cell?_setCell_other _ _ _ _ (by simp), World.cell?_setCell_other _ _ _ _ (by simp), World.cell?_setCell_other _ _ _ _ (by simp), World.cell?_setCell_other _ _ _ _ (by simp)]
        exact HS5.out w5 h5
      clear CII hK hKl hB1d ho1 z0 z1 zf0 zf1
      go_upto_region 5 with fail
      clear g0 g1
      refine wp_region_held_drew (S := (fun X => X.cell? ⟨w.heap.size, 0, none⟩ = some (.int .i64 m) ∧ X.cell? ⟨w.heap.size, 1, none⟩ = some (.slice a N cap))) (by kernel_rfl) (HS5.out w1.drew (Below.refl _ _)) (fun hHeld => ?_)
      (refine takeW (i := 0) (dst := some 19) (v := ?_) rfl rfl (by kernel_rfl) (by kernel_rfl) (by kernel_rfl) (fun _ _ _ h => h) (Or.inl ⟨by rfl, ?_⟩) hHeld ?_; rotate_left; focus (intro w hSw; (try dsimp only at hSw); go_simp; (try with_reducible rfl); done))
      try simp only [Act.put, List.setIfInBounds_toArray, List.set_cons_zero, List.set_cons_succ]
      (refine takeW (i := 1) (dst := some 20) (v := ?_) rfl rfl (by kernel_rfl) (by kernel_rfl) (by kernel_rfl) (fun _ _ _ h => h) (Or.inl ⟨by rfl, ?_⟩) hHeld ?_; rotate_left; focus (intro w hSw; (try dsimp only at hSw); go_simp; (try with_reducible rfl); done))
      try simp only [Act.put, List.setIfInBounds_toArray, List.set_cons_zero, List.set_cons_succ]
      (refine takeW (i := 2) (dst := some 21) (v := ?_) rfl rfl (by kernel_rfl) (by kernel_rfl) (by kernel_rfl) (fun _ _ _ h => h) (Or.inl ⟨by rfl, ?_⟩) hHeld ?_; rotate_left; focus (intro w hSw; (try dsimp only at hSw); go_simp; (try with_reducible rfl); done))
      try simp only [Act.put, List.setIfInBounds_toArray, List.set_cons_zero, List.set_cons_succ]
      (refine takeW (i := 3) (dst := some 22) (v := ?_) rfl rfl (by kernel_rfl) (by kernel_rfl) (by kernel_rfl) (fun _ _ _ h => h) (Or.inl ⟨by rfl, ?_⟩) hHeld ?_; rotate_left; focus (intro w hSw; (try dsimp only at hSw); go_simp; (try with_reducible rfl); done))
      try simp only [Act.put, List.setIfInBounds_toArray, List.set_cons_zero, List.set_cons_succ]
      refine wpAnyH_ready (rs := [4]) (by kernel_rfl) (by simp) ?_
      refine AllReadyH.cons (o := _) rfl (fun KK hK => ?_) AllReadyH.nil
      go_simp
      refine (CO.out _).mono ?_
      rintro e w5 ⟨u5, rfl, hown5, hb5⟩
      obtain ⟨a5, c5, rfl, hI5⟩ := iat_own hown5
      have hS5 := HS5.out w5 hb5
      have HI5 := hid hI5
      have HB5 := hid hb5
      rw [HLl.out]
      refine hK.out _ _ hS5 (fun hHeld => ?_)
      clear hK KK
      try simp only [Act.put]
      try simp only [List.setIfInBounds_toArray]
      try simp only [List.set_cons_succ]
      try simp only [List.set_cons_zero]
      refine wpAnyH_ready (rs := [5]) (by kernel_rfl) (by simp) ?_
      refine AllReadyH.cons (o := _) rfl (fun KK hK => ?_) AllReadyH.nil
      go_simp
      refine (CI.out a5 c5 w5 HB5.out HI5.out).mono ?_
      rintro e w6 ⟨v6, rfl, ht6⟩
      obtain ⟨er, N6, E6, a6, c6, rfl, hs6, hsl6, hea6, hb6⟩ := ht6
      have hb56 := HB5.out.trans (hb6.mono HB5.out.size)
      have hS6 := HS5.out w6 hb56
      have HS6 := hid hs6
      have HSL6 := hid hsl6
      have HEA6 := hid hea6
      have HB6 := hid hb56
      obtain ⟨z0, z1, zf0, zf1⟩ := HZC.out w6 hb56
      refine hK.out _ _ hS6 (fun hHeld => ?_)
      clear hK KK
      try simp only [Act.put]
      try simp only [List.setIfInBounds_toArray]
      try simp only [List.set_cons_succ]
      try simp only [List.set_cons_zero]
      (refine takeW (i := 6) (dst := some 25) (v := ?_) rfl rfl (by kernel_rfl) (by kernel_rfl) (by kernel_rfl) (fun _ _ _ h => h) (Or.inl ⟨by rfl, ?_⟩) hHeld ?_; rotate_left; focus (intro w hSw; (try dsimp only at hSw); go_simp; (try with_reducible rfl); done))
      try simp only [Act.put, List.setIfInBounds_toArray, List.set_cons_zero, List.set_cons_succ]
      (refine takeW (i := 7) (dst := some 26) (v := ?_) rfl rfl (by kernel_rfl) (by kernel_rfl) (by kernel_rfl) (fun _ _ _ h => h) (Or.inl ⟨by rfl, ?_⟩) hHeld ?_; rotate_left; focus (intro w hSw; (try dsimp only at hSw); go_simp; (try with_reducible rfl); done))
      try simp only [Act.put, List.setIfInBounds_toArray, List.set_cons_zero, List.set_cons_succ]
      refine wpAnyH_ready (rs := [8]) (by kernel_rfl) (by simp) ?_
      refine AllReadyH.cons (o := _) rfl (fun KK hK => ?_) AllReadyH.nil
      go_simp
      refine hK.out _ _ (HS7.out w6 HB6.out _ _) (fun hHeld => ?_)
      clear hK KK
      try simp only [Act.put]
      try simp only [List.setIfInBounds_toArray]
      try simp only [List.set_cons_succ]
      try simp only [List.set_cons_zero]
      (refine takeW (i := 9) (dst := some 5) (v := ?_) rfl rfl (by kernel_rfl) (by kernel_rfl) (by kernel_rfl) (fun _ _ _ h => h) (Or.inl ⟨by rfl, ?_⟩) hHeld ?_; rotate_left; focus (intro w hSw; (try dsimp only at hSw); go_simp; (try with_reducible rfl); done))
      try simp only [Act.put]
      try simp only [List.setIfInBounds_toArray]
      try simp only [List.set_cons_succ]
      try simp only [List.set_cons_zero]
      refine wpAnyH_done (by kernel_rfl) ?_ _
      have HDS : Hid (DelS m es V er N6 E6) := del_of_ind HRG.out hVm HS6.out
      have HBw6 := hid (HBx.out w6 HB6.out)
      have HNE6 := hid (eat_off_box (HZO.out w6 HB6.out) HEA6.out)
      clear hHeld hS5 hS6 hb6 hb56 hown5 hI5 hb5 hs6 hsl6 hea6 HS5 HZC HZO HBx CI HS7 CO HI5 HB5 HB6 HS6
      go_wp2
      refine bodyPost_ret (v := .tuple #[.agg #[.int .i64 N6, .slice a6 E6.length c6], .int .i64 er]) ?_ rfl ⟨_, rfl, er, N6, E6, a6, c6, rfl, HDS.out, HSL6.out, ?_, ?_⟩
      · rw [results_cell_tmp rfl]
        go_simp
      · have hne : ∀ g off, 0 < E6.length → a6 = some ⟨g, off, none⟩ → g ≠ w.heap.size + 1 := HNE6.out
        exact (HEA6.out.set (p := ⟨w.heap.size + 1, 0, none⟩) hne _).set (p := ⟨w.heap.size + 1, 1, none⟩) hne _
      · exact (HBw6.out.setCell (p := ⟨w.heap.size + 1, 0, none⟩) (by simp) _).setCell (p := ⟨w.heap.size + 1, 1, none⟩) (by simp) _
    · have HNR : Hid (DelS n es v 4 0 []) := Or.inr (Or.inl ⟨HRG.out, hv, rfl, rfl, rfl⟩)
      clear ho1
      by_cases h0 : v < 0
      · have e1 : decide (v < 0) = true := decide_eq_true h0
        go_wp2
        refine bodyPost_ret (v := .tuple #[.agg #[.int .i64 0, .slice none 0 0], .int .i64 4]) ?_ rfl ⟨_, rfl, subTold_none HNR.out (HZ.out _ HBw1.out)⟩
        rw [results_cell_tmp rfl]
        go_simp
      · have e1 : decide (v < 0) = false := decide_eq_false h0
        have e2 : decide (n ≤ v) = true := decide_eq_true (by omega)
        have e3 : decide (v ≥ n) = true := decide_eq_true (by omega)
        have e4 : n ≤ v := by omega
        go_wp2
        refine bodyPost_ret (v := .tuple #[.agg #[.int .i64 0, .slice none 0 0], .int .i64 4]) ?_ rfl ⟨_, rfl, subTold_none HNR.out (HZ.out _ HBw1.out)⟩
        rw [results_cell_tmp rfl]
        go_simp
end Go.Proofs.Ytagigeieoijciaa
namespace Go.Proofs.Ytagigeieoijciaa
open Go.RowKit Go.Lib

structure SubOps : Prop where
  ind : ∀ (n : Int) (a : Option Addr) (cap : Nat) (es : List (Int × Int)) (la : Option Addr) (lc : Nat) (l : List Int) (b : Bool) (w : World), es.length ≤ 1000000 → l.length ≤ 1000000 → Slw a cap es.length → Slw la lc l.length → EAt w a es → IAt w la l → (b = true ↔ RightG n es) →
    Calls Try.prog 12 #[.agg #[.int .i64 n, .slice a es.length cap], .slice la l.length lc] w fun e w' => ∃ v, e = .returned v ∧ SubTold (IndS n es l) w w' v
  del : ∀ (n : Int) (a : Option Addr) (cap : Nat) (es : List (Int × Int)) (v : Int) (b : Bool) (w : World), es.length ≤ 1000000 → Slw a cap es.length → EAt w a es → (b = true ↔ RightG n es) →
    Calls Try.prog 15 #[.agg #[.int .i64 n, .slice a es.length cap], .int .i64 v] w fun e w' => ∃ u, e = .returned u ∧ SubTold (DelS n es v) w w' u
  con : ∀ (n : Int) (a : Option Addr) (cap : Nat) (es : List (Int × Int)) (x y : Int) (b : Bool) (w : World), es.length ≤ 1000000 → Slw a cap es.length → EAt w a es → (b = true ↔ RightG n es) →
    Calls Try.prog 17 #[.agg #[.int .i64 n, .slice a es.length cap], .int .i64 x, .int .i64 y] w fun e w' => ∃ u, e = .returned u ∧ SubTold (ConS n es x y) w w' u
theorem esS_del : DelS 4 esS 1 0 3 [(0, 2), (1, 2)] := Or.inr (Or.inr ⟨esS_right, by decide, rfl, rfl, by
  have h := del_ind (n := 4) (v := 1) (es := esS) esS_right (by decide)
  have e : ((esS.filter (fun e => !(e.1 == ((1 : Nat) : Int)) && !(e.2 == ((1 : Nat) : Int)))).map (fun e => (dnI 1 e.1, dnI 1 e.2))) = [(0, 2), (1, 2)] := by decide
  rw [e] at h
  exact h⟩)
theorem esS_con : ConS 4 esS 3 0 0 3 [(0, 1), (0, 2), (1, 2)] := Or.inr (Or.inr (Or.inr ⟨esS_right, by decide, esS_adj.2 (by simp), rfl, rfl, by
  have h := conL_con 4 esS 0 3
  have e : conL 4 esS 0 3 = [(0, 1), (0, 2), (1, 2)] := by decide
  rw [e] at h
  exact h⟩))
theorem esS_ind : IndS 4 esS [2, 0] 0 2 [] := Or.inr (Or.inr (Or.inr ⟨esS_right, by unfold InL; decide, by decide, rfl, rfl, by
  have h := indTo_all esS ([2, 0] : List Int) (j := 0) (by simp)
  have e : indTo esS ([2, 0] : List Int) ([2, 0] : List Int).length 0 = [] := by decide
  rw [e] at h
  exact h⟩))
theorem esS_none : ConS 4 esS 0 2 6 0 [] := Or.inr (Or.inr (Or.inl ⟨esS_right, by decide, (fun h => by have := esS_adj.1 h; simp at this), rfl, rfl, rfl⟩))

set_option maxHeartbeats 4000000 in
set_option maxRecDepth 100000 in
theorem sshown_any (O : SubOps) (w : World) :
    Calls Try.prog 10 #[] w fun e w' => e = .returned (.bool true) ∧ Below w.heap.size w w' := by
  have HO := hid O
  clear O
  obtain ⟨W1, hW1⟩ := ex_eq ((w.alloc (.cells #[.int .i64 0, .int .i64 1, .int .i64 0, .int .i64 3, .int .i64 1, .int .i64 2, .int .i64 2, .int .i64 3] 40)).alloc (.cells #[.int .i64 4, .slice (some ⟨w.heap.size, 0, none⟩) 4 4] 27))
  have hs1 : W1.heap.size = w.heap.size + 1 + 1 := by rw [hW1]; simp
  have hb1 : Below w.heap.size w W1 := by rw [hW1]; exact (below_one w _).trans ((below_one _ _).mono (by simp))
  have hE1 : EAt (w.alloc (.cells #[.int .i64 0, .int .i64 1, .int .i64 0, .int .i64 3, .int .i64 1, .int .i64 2, .int .i64 2, .int .i64 3] 40)) (some ⟨w.heap.size, 0, none⟩) esS := eat_of_cells (by simp) (fun j u hu => by
    rw [Nat.zero_add, cell_of_heap (heap_alloc_new w _), ← Array.getElem?_toList]
    exact hu)
  have HGC : Hid (GC W1 (w.heap.size + 1) 4 (some ⟨w.heap.size, 0, none⟩) 4 4 esS) := by
    have o := heap_alloc_new (w.alloc (.cells #[.int .i64 0, .int .i64 1, .int .i64 0, .int .i64 3, .int .i64 1, .int .i64 2, .int .i64 2, .int .i64 3] 40)) (.cells #[.int .i64 4, .slice (some ⟨w.heap.size, 0, none⟩) 4 4] 27)
    rw [← hW1, show (w.alloc (.cells #[.int .i64 0, .int .i64 1, .int .i64 0, .int .i64 3, .int .i64 1, .int .i64 2, .int .i64 2, .int .i64 3] 40)).heap.size = w.heap.size + 1 by simp] at o
    exact ⟨cell_of_heap o 0, cell_of_heap o 1, by rw [hW1]; exact hE1.below (below_one _ _)⟩
  have C1 := hid (HO.out.del 4 (some ⟨w.heap.size, 0, none⟩) 4 esS 1 true W1 (by decide) (sl_some (by decide)).w HGC.out.at_ ⟨fun _ => esS_right, fun _ => rfl⟩)
  have HW1 := hid hW1
  have HB1 := hid hb1
  obtain ⟨g0, g1⟩ := HGC.out.cells
  clear hW1 hs1 hb1 hE1
  go_enter Try.func10, Try.ntmps10
  go_wp2_with fail
  rw [← HW1.out]
  refine C1.out.mono ?_
  rintro e w2 ⟨v, rfl, er, N2, E2, a2, c2, rfl, hS2, hsl2, hea2, hb2⟩
  obtain ⟨rfl, rfl, rfl⟩ := hS2.one esS_del
  -- the second call
  obtain ⟨W3, hW3⟩ := ex_eq (w2.alloc (.cells #[.int .i64 3, .slice a2 2 c2] 27))
  have hb3 : Below W1.heap.size W1 W3 := by rw [hW3]; exact hb2.alloc hb2.size _
  have HGC3 := hid (HGC.out.on hb3)
  have o3 : W3.heap[w2.heap.size]? = some (.cells #[.int .i64 3, .slice a2 2 c2] 27 (0, 0)) := by rw [hW3]; exact heap_alloc_new _ _
  have HE2 : Hid (EAt W3 a2 [((0 : Int), (2 : Int)), (1, 2)]) := hea2.below (by rw [hW3]; exact below_one _ _)
  have C2 := hid (HO.out.con 4 (some ⟨w.heap.size, 0, none⟩) 4 esS 3 0 true W3 (by decide) (sl_some (by decide)).w HGC3.out.at_ ⟨fun _ => esS_right, fun _ => rfl⟩)
  have HW3 := hid hW3
  have HB3 := hid hb3
  have HO3 := hid o3
  obtain ⟨k0, k1⟩ := HGC3.out.cells
  have HB23 : Hid (Below w.heap.size w W3) := HB1.out.trans (hb3.mono HB1.out.size)
  clear hW3 hb3 o3 hea2 hsl2 hb2 C1 HW1 g0 g1 hS2
  go_upto_region 3 with fail
  rw [← HW3.out]
  clear HW3
  go_wp2_with fail
  refine C2.out.mono ?_
  rintro e w4 ⟨v, rfl, er, N4, E4, a4, c4, rfl, hS4, hsl4, hea4, hb4⟩
  obtain ⟨rfl, rfl, rfl⟩ := hS4.one esS_con
  -- the third call
  obtain ⟨W5, hW5⟩ := ex_eq (w4.alloc (.cells #[.int .i64 3, .slice a4 3 c4] 27))
  have hb5 : Below W3.heap.size W3 W5 := by rw [hW5]; exact hb4.alloc hb4.size _
  have HGC5 := hid (HGC3.out.on hb5)
  have o5 : W5.heap[w4.heap.size]? = some (.cells #[.int .i64 3, .slice a4 3 c4] 27 (0, 0)) := by rw [hW5]; exact heap_alloc_new _ _
  have hw2l : w2.heap.size < W3.heap.size := (Array.getElem?_eq_some_iff.1 HO3.out).1
  have HO35 := hid ((hb5.block _ hw2l).trans HO3.out)
  have HE25 := hid (HE2.out.below hb5)
  have HB25 : Hid (Below w.heap.size w W5) := HB23.out.trans (hb5.mono HB23.out.size)
  have C3 := hid (HO.out.ind 4 (some ⟨w.heap.size, 0, none⟩) 4 esS (some ⟨W5.heap.size, 0, none⟩) 2 [2, 0] true (W5.alloc (.cells #[.int .i64 2, .int .i64 0] 3)) (by decide) (by decide) (sl_some (by decide)).w (sl_some (by decide)).w (HGC5.out.on (below_one _ _)).at_ (iat_new W5 [2, 0] _ _ rfl) ⟨fun _ => esS_right, fun _ => rfl⟩)
  have HW5 := hid hW5
  have HO5 := hid o5
  obtain ⟨m0, m1⟩ := HGC5.out.cells
  clear hW5 hb5 o5 hea4 hsl4 hb4 C2 k0 k1 hS4 hw2l HO3 HE2 HB23 HGC3
  go_upto_region 4 with fail
  rw [← HW5.out]
  clear HW5
  go_wp2_with fail
  refine C3.out.mono ?_
  rintro e w6 ⟨v, rfl, er, N6, E6, a6, c6, rfl, hS6, hsl6, hea6, hb6⟩
  obtain ⟨rfl, rfl, rfl⟩ := hS6.one esS_ind
  -- the fourth call
  obtain ⟨W7, hW7⟩ := ex_eq (w6.alloc (.cells #[.int .i64 2, .slice a6 0 c6] 27))
  have hb6' : Below W5.heap.size W5 w6 := (below_one _ _).trans (hb6.mono (by simp))
  have hb7 : Below W5.heap.size W5 W7 := by rw [hW7]; exact hb6'.alloc hb6'.size _
  have HGC7 := hid (HGC5.out.on hb7)
  have o7 : W7.heap[w6.heap.size]? = some (.cells #[.int .i64 2, .slice a6 0 c6] 27 (0, 0)) := by rw [hW7]; exact heap_alloc_new _ _
  have HO37 := hid ((hb7.block _ (Array.getElem?_eq_some_iff.1 HO35.out).1).trans HO35.out)
  have HO57 := hid ((hb7.block _ (Array.getElem?_eq_some_iff.1 HO5.out).1).trans HO5.out)
  have HE27 := hid (HE25.out.below hb7)
  have HB27 : Hid (Below w.heap.size w W7) := HB25.out.trans (hb7.mono HB25.out.size)
  have C4 := hid (HO.out.con 4 (some ⟨w.heap.size, 0, none⟩) 4 esS 0 2 true W7 (by decide) (sl_some (by decide)).w HGC7.out.at_ ⟨fun _ => esS_right, fun _ => rfl⟩)
  have HW7 := hid hW7
  have HO7 := hid o7
  obtain ⟨n0, n1⟩ := HGC7.out.cells
  clear hW7 hb7 o7 hea6 hsl6 hb6 hb6' C3 m0 m1 hS6 HO35 HO5 HE25 HB25 HGC5
  go_upto_region 5 with fail
  rw [← HW7.out]
  clear HW7
  go_wp2_with fail
  refine C4.out.mono ?_
  rintro e w8 ⟨v, rfl, er, N8, E8, a8, c8, rfl, hS8, hsl8, hea8, hb8⟩
  obtain ⟨rfl, rfl, rfl⟩ := hS8.one esS_none
  obtain ⟨W9, hW9⟩ := ex_eq (w8.alloc (.cells #[.int .i64 0, .slice a8 0 c8] 27))
  have hb9 : Below W7.heap.size W7 W9 := by rw [hW9]; exact hb8.alloc hb8.size _
  have p3 := (hb9.block _ (Array.getElem?_eq_some_iff.1 HO37.out).1).trans HO37.out
  have p5 := (hb9.block _ (Array.getElem?_eq_some_iff.1 HO57.out).1).trans HO57.out
  have p7 := (hb9.block _ (Array.getElem?_eq_some_iff.1 HO7.out).1).trans HO7.out
  have HB29 : Hid (Below w.heap.size w W9) := HB27.out.trans (hb9.mono HB27.out.size)
  obtain ⟨ge, oe, hae, _, hce⟩ := (HE27.out.below hb9) (by decide)
  subst hae
  have x0 : W9.cell? ⟨ge, oe, none⟩ = some (.int .i64 0) := by have h := (hce 0 (by decide)).1; simpa using h
  have x1 : W9.cell? ⟨ge, oe + 1, none⟩ = some (.int .i64 2) := by have h := (hce 0 (by decide)).2; simpa using h
  have r30 := cell_of_heap p3 0
  have r31 := cell_of_heap p3 1
  have r50 := cell_of_heap p5 0
  have r51 := cell_of_heap p5 1
  have r70 := cell_of_heap p7 0
  have r71 := cell_of_heap p7 1
  have HW9 := hid hW9
  clear hW9 hb9 p3 p5 p7 hea8 hsl8 hb8 C4 n0 n1 hS8 HO37 HO57 HO7 HE27 HB27 HGC7 hce
  go_upto_region 6 with fail
  rw [← HW9.out]
  clear HW9
  go_wp2
  go_ret
  exact ⟨rfl, HB29.out⟩
end Go.Proofs.Ytagigeieoijciaa
