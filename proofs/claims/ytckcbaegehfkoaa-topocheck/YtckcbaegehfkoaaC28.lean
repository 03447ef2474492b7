/-
  A subdivision cut small, as the laws of layer 9 begin: six tops, eight paths of twenty numbers.
-/
import Derived.Test.YtckcbaegehfkoaaC25
import Derived.Test.YtckcbaegehfkoaaC24
import Derived.Test.YtckcbaegehfkoaaC22
namespace Go.Proofs.Ytckcbaegehfkoaa
open Go.RowKit Go.Lib Go.Shelf

/-- Behind the tops: the variable, its tops in memory. -/
def St9 (W X : World) (b O : Nat) (kk : Int) (T : List Int) : Prop := ∃ a1 c1, (X.cell? ⟨O, 0, none⟩ = some (.int .i64 kk) ∧ X.cell? ⟨O, 1, none⟩ = some (.slice a1 T.length c1) ∧ X.cell? ⟨O, 2, none⟩ = some (.slice none 0 0) ∧ X.frozen? ⟨O, 2, none⟩ = false) ∧ IAt X a1 T ∧ (∀ g off, a1 = some ⟨g, off, none⟩ → 0 < T.length → g ≠ O ∧ b ≤ g) ∧ Below b W X ∧ b ≤ O ∧ O < X.heap.size
theorem st9_fin {W X : World} {b O : Nat} {kk : Int} {T : List Int} {va : Option Addr} {vc : Nat} (hz : X.heap[O]? = some (.cells #[.int .i64 0, .slice none 0 0, .slice none 0 0] 32 (0, 0))) (hI : IAt X va T) (hne : ∀ g off, va = some ⟨g, off, none⟩ → 0 < T.length → g ≠ O ∧ b ≤ g) (hb : Below b W X) (hO : b ≤ O) :
    St9 W (((X.setCell ⟨O, 0, none⟩ (.int .i64 kk)).setCell ⟨O, 1, none⟩ (.slice va T.length vc)).setCell ⟨O, 2, none⟩ (.slice none 0 0)) b O kk T := by
  obtain ⟨⟨z0, zf0⟩, ⟨z1, zf1⟩, ⟨z2, zf2⟩⟩ := zero_three hz
  have hlt := (Array.getElem?_eq_some_iff.1 hz).1
  have n01 : (⟨O, 1, none⟩ : Addr) ≠ ⟨O, 0, none⟩ := by simp
  have n02 : (⟨O, 2, none⟩ : Addr) ≠ ⟨O, 0, none⟩ := by simp
  have n12 : (⟨O, 2, none⟩ : Addr) ≠ ⟨O, 1, none⟩ := by simp
  refine ⟨va, vc, ⟨?_, ?_, ?_, ?_⟩, hI.kept (kept_three X O _ _ _) (fun g off e h0 => (hne g off e h0).1), hne, below_three hb hO _ _ _, hO, by simpa using hlt⟩
  · rw [World.cell?_setCell_other _ _ _ _ n02, World.cell?_setCell_other _ _ _ _ n01]
    exact World.cell?_setCell_same' _ _ _ (by rw [z0]; rfl)
  · rw [World.cell?_setCell_other _ _ _ _ n12]
    exact World.cell?_setCell_same' _ _ _ (by rw [World.cell?_setCell_other _ _ _ _ n01.symm, z1]; rfl)
  · exact World.cell?_setCell_same' _ _ _ (by rw [World.cell?_setCell_other _ _ _ _ n12.symm, World.cell?_setCell_other _ _ _ _ n02.symm, z2]; rfl)
  · rw [World.frozen?_setCell, World.frozen?_setCell, World.frozen?_setCell]; exact zf2
theorem KeptBut.chain {S S' : Nat → Prop} {W1 X w6 : World} (k : KeptBut S' W1 X) (h : KeptBut S X w6) (hs : ∀ q, q < W1.heap.size → S q → S' q) : KeptBut S' W1 w6 :=
  ⟨h.os.trans k.os, h.tape.trans k.tape, h.output.trans k.output, Nat.le_trans k.size h.size, fun q hq hn => (h.block q (Nat.lt_of_lt_of_le hq k.size) (fun e => hn (hs q hq e))).trans (k.block q hq hn)⟩
/-- While the paths are cut. -/
structure SuSt (W1 X : World) (O : Nat) (v : Value) (us : List Value) (LL : List (List Int)) : Prop where
  c2 : X.cell? ⟨O, 2, none⟩ = some v
  f2 : X.frozen? ⟨O, 2, none⟩ = false
  k0 : X.cell? ⟨O, 0, none⟩ = W1.cell? ⟨O, 0, none⟩
  k1 : X.cell? ⟨O, 1, none⟩ = W1.cell? ⟨O, 1, none⟩
  rw : RW X W1.heap.size v us LL
  kp : KeptBut (fun q => q = O) W1 X
  lt : O < W1.heap.size
theorem SuSt.drew {W1 X : World} {O : Nat} {v : Value} {us : List Value} {LL : List (List Int)} (h : SuSt W1 X O v us LL) : SuSt W1 X.drew O v us LL :=
  ⟨h.c2, h.f2, h.k0, h.k1, h.rw.below (Below.refl _ _).drew, h.kp.trans (KeptBut.of_whole _ (Below.refl _ _).drew), h.lt⟩
theorem SuSt.put {W1 X w4 w6 : World} {O : Nat} {v v6 : Value} {us : List Value} {LL : List (List Int)} (h : SuSt W1 X O v us LL) {L : List Int} {ar : Option Addr} {cr : Nat} {o : Obj} (h4 : Below X.heap.size X w4)
    (ho : w4.ownsRow X.heap.size 3 1 (.slice ar L.length cr) L.length (L.map (Value.int .i64))) (ho6 : w6.ownsRow W1.heap.size 25 1 v6 (LL.length + 1) (us ++ [.slice ar L.length cr])) (hg : (w4.alloc o).grownBy w6 v.ownBlock) (hat : v6.ownBlock = v.ownBlock ∨ v6.ownBlock = some (w4.alloc o).heap.size) :
    (w6.cell? ⟨O, 2, none⟩ = some v ∧ w6.frozen? ⟨O, 2, none⟩ = false) ∧ KeptBut (fun q => q = O) W1 w6 ∧ SuSt W1 (w6.setCell ⟨O, 2, none⟩ v6) O v6 (us ++ [.slice ar L.length cr]) (LL ++ [L]) := by
  have hl := h.lt
  have hszX := h.kp.size
  have hsz4 := h4.size
  have h4o : Below X.heap.size X (w4.alloc o) := h4.alloc hsz4 o
  have hk26 : KeptBut (fun k => some k = v.ownBlock) (w4.alloc o) w6 := KeptBut.of_grown hg
  have hkX : KeptBut (fun k => some k = v.ownBlock) X w6 := (KeptBut.of_whole _ h4o).trans hk26
  have hvb : ∀ q, v.ownBlock = some q → W1.heap.size ≤ q ∧ q < X.heap.size := fun q hq => h.rw.own.lt q hq
  have hrb : ∀ q, Value.ownBlock (.slice ar L.length cr) = some q → X.heap.size ≤ q ∧ q < w4.heap.size := fun q hq => ho.lt q hq
  have hsa : (w4.alloc o).heap.size = w4.heap.size + 1 := by simp
  have hOX : O < X.heap.size := by omega
  have hOv : ¬ some O = v.ownBlock := fun e => by have := hvb _ e.symm; omega
  have e2 := (hkX.cell (p := ⟨O, 2, none⟩) hOX hOv).trans h.c2
  have ef := (hkX.frozen (p := ⟨O, 2, none⟩) hOX hOv).trans h.f2
  have e0 := (hkX.cell (p := ⟨O, 0, none⟩) hOX hOv).trans h.k0
  have e1 := (hkX.cell (p := ⟨O, 1, none⟩) hOX hOv).trans h.k1
  have hne6 : ∀ q, q < w4.heap.size → v.ownBlock ≠ some q → v6.ownBlock ≠ some q := fun q h1 h2 e => by
    rcases hat with h3 | h3
    · exact h2 (h3.symm.trans e)
    · rw [h3] at e; simp only [Option.some.injEq] at e; omega
  have hs6 := hkX.size
  have hks := kept_set w6 ⟨O, 2, none⟩ v6
  have hk16 : KeptBut (fun q => q = O) W1 w6 := h.kp.chain hkX (fun k hk e => by have := hvb k e.symm; omega)
  have hrw6 : RW w6 W1.heap.size v6 (us ++ [.slice ar L.length cr]) (LL ++ [L]) := by
    refine ⟨by rw [List.length_append]; exact ho6, by simp [h.rw.len], fun k hk => ?_⟩
    by_cases hlt : k < LL.length
    · obtain ⟨ak, ck, g1, g2, g3⟩ := h.rw.rows k hlt
      have e2 : (LL ++ [L])[k] = LL[k] := List.getElem_append_left hlt
      rw [e2]
      have hul : k < us.length := by rw [h.rw.len]; exact hlt
      refine ⟨ak, ck, by rw [List.getElem?_append_left hul]; exact g1, own_kept (own_below g2 h4o) hk26 (fun q hq e => (g3 q hq).1 e.symm), fun q hq => ⟨?_, fun j hj u hu => ?_⟩⟩
      · have := (g2.lt q hq).2
        exact hne6 q (by omega) (g3 q hq).1
      · rw [List.getElem?_append_left (by omega)] at hu
        exact (g3 q hq).2 j hj u hu
    · have hkl : k = LL.length := by simp at hk; omega
      subst hkl
      have e2 : (LL ++ [L])[LL.length] = L := by simp
      rw [e2]
      refine ⟨ar, cr, by rw [List.getElem?_append_right (by rw [h.rw.len]; exact Nat.le_refl _), h.rw.len]; simp, ?_, fun q hq => ⟨?_, fun j hj u hu e => ?_⟩⟩
      · refine own_kept (own_below (own_lowerS ho (by omega)) ((Below.refl w4.heap.size w4).alloc (Nat.le_refl _) o)) hk26 (fun q hq e => ?_)
        have h1 := hrb q hq
        have h2 := hvb q e.symm
        omega
      · have h1 := hrb q hq
        exact hne6 q h1.2 (fun e => by have := hvb q e; omega)
      · have h1 := hrb q hq
        rw [List.getElem?_append_left (by rw [h.rw.len]; exact hj)] at hu
        obtain ⟨aj, cj, g1, g2, _⟩ := h.rw.rows j hj
        rw [g1] at hu
        simp only [Option.some.injEq] at hu
        rw [← hu] at e
        have := (g2.lt q e).2
        omega
  refine ⟨⟨e2, ef⟩, hk16, ⟨World.cell?_setCell_same' _ _ _ (by rw [e2]; rfl), by rw [World.frozen?_setCell]; exact ef, ?_, ?_, hrw6.kept hks (fun q hq _ e => by simp only at e; omega), hk16.trans hks, hl⟩⟩
  · rw [World.cell?_setCell_other _ _ _ _ (by simp)]; exact e0
  · rw [World.cell?_setCell_other _ _ _ _ (by simp)]; exact e1
/-- What small tells. -/
def SmallS (k : Int) (T : List Int) (P : List (List Int)) (w w' : World) (v : Value) : Prop := ∃ a1 c1 a2 c2, v = .agg #[.int .i64 k, .slice a1 T.length c1, .slice a2 P.length c2] ∧ IAt w' a1 T ∧ LLS w' a2 P ∧ Below w.heap.size w w'
def cut8 (LL : List (List Int)) : List (List Int) := cutL LL (min LL.length 8)

set_option maxHeartbeats 8000000 in
set_option maxRecDepth 100000 in
theorem ysmall_any (kk : Int) (ta : Option Addr) (nt tc : Nat) (T : List Int) (a : Option Addr) (N cap : Nat) (LL : List (List Int)) (w : World) (hI : CameI w ta nt tc T) (h : CameR w a N cap LL) :
    Calls Try.prog 13 #[.agg #[.int .i64 kk, .slice ta nt tc, .slice a N cap]] w fun e w' => ∃ v, e = .returned v ∧ SmallS kk (T.take 6) (cut8 LL) w w' v := by
  have HL := hid h.len_
  obtain ⟨i0, hi0, hz0, hz1, hz2⟩ := info_parts Try.info3
  obtain ⟨i1, hj, hy0, hy1, hy2⟩ := info_parts Try.info25
  obtain ⟨b0, hb0⟩ := ex_eq w.heap.size
  obtain ⟨W, hW, hsW, hO0, hO1, hbW⟩ := new_two w (.cells #[.int .i64 kk, .slice ta nt tc, .slice a N cap] 28) (.cells #[.int .i64 0, .slice none 0 0, .slice none 0 0] 32)
  rw [← hb0] at hsW hO0 hO1 hbW
  have HB0 := hid hb0
  have HAT := hid h.at_
  have HW := hid hW
  have HBX : Hid (∀ X, Below W.heap.size W X → (X.cell? ⟨b0, 0, none⟩ = some (.int .i64 kk) ∧ X.cell? ⟨b0, 1, none⟩ = some (.slice ta nt tc) ∧ X.cell? ⟨b0, 2, none⟩ = some (.slice a N cap)) ∧ X.heap[b0 + 1]? = some (.cells #[.int .i64 0, .slice none 0 0, .slice none 0 0] 32 (0, 0)) ∧ Below b0 w X) := fun X hX => by
    have o0 := (hX.block b0 (by omega)).trans hO0
    have o1 := (hX.block (b0 + 1) (by omega)).trans hO1
    exact ⟨⟨cell_of_heap o0 0, cell_of_heap o0 1, cell_of_heap o0 2⟩, o1, hbW.trans (hX.mono (by omega))⟩
  obtain ⟨T6, hT6⟩ := ex_eq (T.take 6)
  obtain ⟨n6, hn6⟩ := ex_eq T6.length
  have hTl := hI.len_
  have hn6e : n6 = min nt 6 := by rw [hn6, hT6, List.length_take]; omega
  have HIT : Hid (∀ X, Below W.heap.size W X → IAt X ta T6) := fun X hX => by
    rw [hT6]; exact iat_take6 (hI.at_.below (by rw [← hb0]; exact (HBX.out X hX).2.2)) 6
  have hck1 := hI.le
  have hck2 := hI.nil
  have hck3 := hI.max
  have HNW : Hid (∀ X, Below W.heap.size W X → ∀ q, ta = some q → ∀ j u, (T6.map (Value.int .i64))[j]? = some u → X.cell? (q.add j) = some u) := fun X hX q hq j u hu' => by
    subst hq
    rw [List.getElem?_map] at hu'
    have hjl : j < T6.length := by
      by_cases hh : j < T6.length
      · exact hh
      · rw [List.getElem?_eq_none (by omega)] at hu'; cases hu'
    rw [List.getElem?_eq_getElem hjl] at hu'
    cases hu'
    obtain ⟨g', off', hg', _, hc'⟩ := HIT.out X hX (by omega)
    cases hg'
    rw [add_at]
    exact hc' j hjl
  have HON : Hid (∀ v ∈ T6.map (Value.int .i64), v.oneCell' = true) := fun v hv => by obtain ⟨z, _, rfl⟩ := List.mem_map.1 hv; rfl
  have HLN : Hid ((T6.map (Value.int .i64)).length = n6 * 1) := by show _ = _; rw [List.length_map, ← hn6, Nat.mul_one]
  have H63 : Hid (0 + n6 ≤ maxLen) := by show 0 + n6 ≤ maxLen; unfold maxLen; omega
  have HNIL : Hid (ta = none → n6 = 0 ∧ tc = 0) := fun e => by have := hck2 e; exact ⟨by omega, this⟩
  have HSB : Hid (∀ X, Below W.heap.size W X → X.cell? ⟨b0, 0, none⟩ = some (.int .i64 kk) ∧ X.cell? ⟨b0, 1, none⟩ = some (.slice ta nt tc)) := fun X hX => ⟨(HBX.out X hX).1.1, (HBX.out X hX).1.2.1⟩
  have hsd : W.drew.heap.size = W.heap.size := rfl
  have HBD : Hid (Below W.heap.size W W.drew) := (Below.refl _ _).drew
  have HBE : Hid (Below W.heap.size W (W.drew.alloc (.cells #[] 3))) := (Below.refl _ _).drew.alloc (by omega) _
  have HBA : Hid (Below W.heap.size W (W.drew.alloc (.cells #[.int .i64 0, .slice none 0 0, .slice none 0 0] 32))) := (Below.refl _ _).drew.alloc (by omega) _
  have HBAE : Hid (Below W.heap.size W ((W.drew.alloc (.cells #[.int .i64 0, .slice none 0 0, .slice none 0 0] 32)).alloc (.cells #[] 3))) := ((Below.refl _ _).drew.alloc (by omega) _).alloc (by first | (simp; done) | (simp; omega)) _
  have HBEA : Hid (Below W.heap.size W ((W.drew.alloc (.cells #[] 3)).alloc (.cells #[.int .i64 0, .slice none 0 0, .slice none 0 0] 32))) := ((Below.refl _ _).drew.alloc (by omega) _).alloc (by first | (simp; done) | (simp; omega)) _
  have HOE : Hid ((W.drew.alloc (.cells #[] 3)).ownsRow W.heap.size 3 1 (.slice (some ⟨W.heap.size, 0, none⟩) 0 0) 0 []) := by
    have := own_emptyI (w := W.drew) (.cells #[] 3) rfl
    exact this
  have HOEA : Hid (((W.drew.alloc (.cells #[] 3)).alloc (.cells #[.int .i64 0, .slice none 0 0, .slice none 0 0] 32)).ownsRow W.heap.size 3 1 (.slice (some ⟨W.heap.size, 0, none⟩) 0 0) 0 []) := HOE.out.alloc _
  have HOAE : Hid (((W.drew.alloc (.cells #[.int .i64 0, .slice none 0 0, .slice none 0 0] 32)).alloc (.cells #[] 3)).ownsRow W.heap.size 3 1 (.slice (some ⟨W.heap.size + 1, 0, none⟩) 0 0) 0 []) := by
    have h1 := own_emptyI (w := W.drew.alloc (.cells #[.int .i64 0, .slice none 0 0, .slice none 0 0] 32)) (.cells #[] 3) rfl
    have e : (W.drew.alloc (.cells #[.int .i64 0, .slice none 0 0, .slice none 0 0] 32)).heap.size = W.heap.size + 1 := by rw [World.size_alloc]; rfl
    rw [e] at h1
    exact own_lowerS h1 (by omega)
  have HZA : Hid (((W.drew.alloc (.cells #[.int .i64 0, .slice none 0 0, .slice none 0 0] 32)).alloc (.cells #[] 3)).heap[W.heap.size]? = some (.cells #[.int .i64 0, .slice none 0 0, .slice none 0 0] 32 (0, 0)) ∧ ((W.drew.alloc (.cells #[] 3)).alloc (.cells #[.int .i64 0, .slice none 0 0, .slice none 0 0] 32)).heap[W.heap.size + 1]? = some (.cells #[.int .i64 0, .slice none 0 0, .slice none 0 0] 32 (0, 0))) := by
    have e1 := heap_alloc_new W.drew (.cells #[.int .i64 0, .slice none 0 0, .slice none 0 0] 32)
    have e2 := heap_alloc_new (W.drew.alloc (.cells #[] 3)) (.cells #[.int .i64 0, .slice none 0 0, .slice none 0 0] 32)
    have s1 : W.drew.heap.size = W.heap.size := rfl
    rw [World.size_alloc, s1] at e2
    rw [s1] at e1
    refine ⟨?_, e2⟩
    rw [Below.heap_alloc _ _ _ (by rw [World.size_alloc, s1]; omega)]
    exact e1
  have HSZ : Hid (W.heap.size ≤ W.drew.heap.size ∧ (W.drew.alloc (.cells #[] 3)).heap.size = W.heap.size + 1 ∧ ((W.drew.alloc (.cells #[] 3)).alloc (.cells #[.int .i64 0, .slice none 0 0, .slice none 0 0] 32)).heap.size = W.heap.size + 1 + 1 ∧ ((W.drew.alloc (.cells #[.int .i64 0, .slice none 0 0, .slice none 0 0] 32)).alloc (.cells #[] 3)).heap.size = W.heap.size + 1 + 1) := by
    have s1 : W.drew.heap.size = W.heap.size := rfl
    exact ⟨by omega, by rw [World.size_alloc, s1], by rw [World.size_alloc, World.size_alloc, s1], by rw [World.size_alloc, World.size_alloc, s1]⟩
  have HBB : Hid (0 ≤ W.heap.size) := Nat.zero_le _
  have hbb : b0 + 2 ≤ W.heap.size := by omega
  have kmin : min (nt : Int) 6 = (n6 : Int) := by omega
  have kc : (n6 : Int) ≤ (tc : Int) := by omega
  have k0 : (0 : Int) ≤ (n6 : Int) := by omega
  have k9 : (n6 : Int) ≤ (nt : Int) := by omega
  have hn66 : n6 ≤ 6 := by omega
  have HN6 := hid hn6
  have hS := HSB.out W.drew HBD.out
  rw [← hT6]
  clear h hI hb0 hbW hO0 hO1 hW hsW hT6 hn6 hn6e hTl hsd
  go_enter Try.func13, Try.ntmps13
  go_upto_region 1 with fail
  rw [← HB0.out]
  rw [← HW.out]
  clear HW
  go_cut [3] (fun v wx => ∃ O, v = .pointer (some ⟨O, 0, none⟩) ∧ Hid (St9 W wx W.heap.size O kk T6))
  case first =>
    cases ta with
    | none =>
      obtain rfl := hck2 rfl
      obtain rfl : nt = 0 := by omega
      obtain rfl : n6 = 0 := by omega
      clear hck2 hck1 hck3 kmin kc k0 k9
      have kmin : min (0 : Int) 6 = 0 := by decide
      refine wp_region_held_drew (S := (fun X : World => X.cell? ⟨b0, 0, none⟩ = some (.int .i64 kk) ∧ X.cell? ⟨b0, 1, none⟩ = some (.slice none 0 0))) (by kernel_rfl) hS (fun hHeld => ?_)
      (refine takeW (i := 0) (dst := some 5) (v := ?_) rfl rfl (by kernel_rfl) (by kernel_rfl) (by kernel_rfl) (fun _ _ _ h => h) (Or.inl ⟨by rfl, ?_⟩) hHeld ?_; rotate_left; focus (intro w hSw; (try dsimp only at hSw); go_simp; (try with_reducible rfl); done))
      try simp only [Act.put]
      try simp only [List.setIfInBounds_toArray]
      try simp only [List.set_cons_succ]
      try simp only [List.set_cons_zero]
      (refine takeW (i := 1) (dst := some 6) (v := ?_) rfl rfl (by kernel_rfl) (by kernel_rfl) (by kernel_rfl) (fun _ _ _ h => h) (Or.inl ⟨by rfl, ?_⟩) hHeld ?_; rotate_left; focus (intro w hSw; (try dsimp only at hSw); go_simp; (try with_reducible rfl); done))
      try simp only [Act.put]
      try simp only [List.setIfInBounds_toArray]
      try simp only [List.set_cons_succ]
      try simp only [List.set_cons_zero]
      (refine takeW (i := 3) (dst := some 8) (v := ?_) rfl rfl (by kernel_rfl) (by kernel_rfl) (by kernel_rfl) (fun _ _ _ h => h) (Or.inl ⟨by rfl, ?_⟩) hHeld ?_; rotate_left; focus (intro w hSw; (try dsimp only at hSw); go_simp; (try with_reducible rfl); done))
      try simp only [Act.put]
      try simp only [List.setIfInBounds_toArray]
      try simp only [List.set_cons_succ]
      try simp only [List.set_cons_zero]
      (refine takeW (i := 4) (dst := some 9) (v := ?_) rfl rfl (by kernel_rfl) (by kernel_rfl) (by kernel_rfl) (fun _ _ _ h => h) (Or.inl ⟨by rfl, ?_⟩) hHeld ?_; rotate_left; focus (intro w hSw; (try dsimp only at hSw); go_simp; (try with_reducible rfl); done))
      try simp only [Act.put]
      try simp only [List.setIfInBounds_toArray]
      try simp only [List.set_cons_succ]
      try simp only [List.set_cons_zero]
      (refine takeW (i := 5) (dst := some 10) (v := ?_) rfl rfl (by kernel_rfl) (by kernel_rfl) (by kernel_rfl) (fun _ _ _ h => h) (Or.inl ⟨by rfl, ?_⟩) hHeld ?_; rotate_left; focus (intro w hSw; (try dsimp only at hSw); go_simp; (try with_reducible rfl); done))
      try simp only [Act.put]
      try simp only [List.setIfInBounds_toArray]
      try simp only [List.set_cons_succ]
      try simp only [List.set_cons_zero]
      (refine takeW (i := 6) (dst := some 11) (v := ?_) rfl rfl (by kernel_rfl) (by kernel_rfl) (by kernel_rfl) (fun _ _ _ h => h) (Or.inl ⟨by rfl, ?_⟩) hHeld ?_; rotate_left; focus (intro w hSw; (try dsimp only at hSw); go_simp; (try with_reducible rfl); done))
      try simp only [Act.put]
      try simp only [List.setIfInBounds_toArray]
      try simp only [List.set_cons_succ]
      try simp only [List.set_cons_zero]
      (refine takeW (i := 7) (dst := some 12) (v := ?_) rfl rfl (by kernel_rfl) (by kernel_rfl) (by kernel_rfl) (fun _ _ _ h => h) (Or.inl ⟨by rfl, ?_⟩) hHeld ?_; rotate_left; focus (intro w hSw; (try dsimp only at hSw); go_simp; (try with_reducible rfl); done))
      try simp only [Act.put]
      try simp only [List.setIfInBounds_toArray]
      try simp only [List.set_cons_succ]
      try simp only [List.set_cons_zero]
      (refine takeW (i := 8) (dst := some 13) (v := ?_) rfl rfl (by kernel_rfl) (by kernel_rfl) (by kernel_rfl) (fun _ _ _ h => h) (Or.inl ⟨by rfl, ?_⟩) hHeld ?_; rotate_left; focus (intro w hSw; (try dsimp only at hSw); go_simp; (try with_reducible rfl); done))
      try simp only [Act.put]
      try simp only [List.setIfInBounds_toArray]
      try simp only [List.set_cons_succ]
      try simp only [List.set_cons_zero]
      (refine takeW (i := 9) (dst := some 14) (v := ?_) rfl rfl (by kernel_rfl) (by kernel_rfl) (by kernel_rfl) (fun _ _ _ h => h) (Or.inl ⟨by rfl, ?_⟩) hHeld ?_; rotate_left; focus (intro w hSw; (try dsimp only at hSw); go_simp; (try with_reducible rfl); done))
      try simp only [Act.put]
      try simp only [List.setIfInBounds_toArray]
      try simp only [List.set_cons_succ]
      try simp only [List.set_cons_zero]
      refine wpAnyH_ready (rs := [2, 12]) (by kernel_rfl) (by simp) ?_
      refine AllReadyH.cons (o := _) rfl (fun KK hK => ?_) (AllReadyH.cons (o := _) rfl (fun KK hK => ?_) AllReadyH.nil)
      next =>
       go_simp
       refine hK.out _ _ (HSB.out _ HBE.out) (fun hHeld => ?_)
       clear hK KK
       try simp only [Act.put]
       try simp only [List.setIfInBounds_toArray]
       try simp only [List.set_cons_succ]
       try simp only [List.set_cons_zero]
       refine wpAnyH_ready (rs := [10, 12]) (by kernel_rfl) (by simp) ?_
       refine AllReadyH.cons (o := _) rfl (fun KK hK => ?_) (AllReadyH.cons (o := _) rfl (fun KK hK => ?_) AllReadyH.nil)
       next =>
        rw [if_pos (by rfl)]
        refine wp_append_any _ (.tmp 7) (.tmp 14) 25 rfl W.heap.size 3 i0 _ 1 8 Try.underlying25 hi0 hz0 hz1 hz2 rfl (by decide) (.slice (some ⟨W.heap.size, 0, none⟩) 0 0) 0 [] (by simp [Act.eval]) HOE.out none 0 0 (T6.map (Value.int .i64)) (by simp [Act.eval]) (fun _ => ⟨rfl, rfl⟩) HLN.out (HNW.out _ HBE.out) HON.out H63.out (by omega) (by first | (have := HBE.out.size; have := HBB.out; omega) | (simp; done) | (simp; omega)) ?_
        intro v4 w4 hown4 hgrow4 hat4
        obtain ⟨va, vc, rfl, _⟩ := sl_own hown4
        rw [Nat.zero_add] at hown4
        rw [List.nil_append] at hown4
        have HB4 : Hid (Below W.heap.size W w4) := Below.grown HBE.out hgrow4 (by first | (have := HBE.out.size; have := HBB.out; omega) | (simp; done) | (simp; omega)) (fun j hj => (HOE.out.lt j hj).1)
        have HGE4 : Hid (∀ g off, va = some ⟨g, off, none⟩ → W.heap.size ≤ g) := fun g off e => own_ge hown4 g off e
        have hown4' := hown4
        rw [HN6.out] at hown4'
        have HI4 : Hid (IAt w4 va T6) := by
          obtain ⟨a7, c7, e7, hI7⟩ := own_form hown4'
          simp only [Value.slice.injEq, true_and] at e7
          rw [← e7.1] at hI7
          exact hI7
        clear hown4 hown4' hgrow4 hat4
        refine hK.out _ _ (HSB.out _ HB4.out) (fun hHeld => ?_)
        clear hK KK
        try simp only [Act.put]
        try simp only [List.setIfInBounds_toArray]
        try simp only [List.set_cons_succ]
        try simp only [List.set_cons_zero]
        (refine takeW (i := 11) (dst := some 16) (v := ?_) rfl rfl (by kernel_rfl) (by kernel_rfl) (by kernel_rfl) (fun _ _ _ h => h) (Or.inl ⟨by rfl, ?_⟩) hHeld ?_; rotate_left; focus (intro w hSw; (try dsimp only at hSw); go_simp; (try with_reducible rfl); done))
        try simp only [Act.put]
        try simp only [List.setIfInBounds_toArray]
        try simp only [List.set_cons_succ]
        try simp only [List.set_cons_zero]
        refine wpAnyH_ready (rs := [12]) (by kernel_rfl) (by simp) ?_
        refine AllReadyH.cons (o := _) rfl (fun KK hK => ?_) AllReadyH.nil
        go_simp
        obtain ⟨X5, hX5⟩ := ex_eq (w4.alloc (.cells #[.int .i64 0, .slice none 0 0, .slice none 0 0] 32))
        obtain ⟨O5, hO5⟩ := ex_eq w4.heap.size
        have hz5 := heap_alloc_new w4 (.cells #[.int .i64 0, .slice none 0 0, .slice none 0 0] 32)
        rw [← hX5, ← hO5] at hz5
        have hbO5 : W.heap.size ≤ O5 := by rw [hO5]; exact HB4.out.size
        have HB5 : Hid (Below W.heap.size W X5) := by show Below _ _ _; rw [hX5]; exact HB4.out.alloc (by have := HB4.out.size; have := HBB.out; omega) _
        have HI5 : Hid (IAt X5 va T6) := by show IAt _ _ _; rw [hX5]; exact HI4.out.below (below_one _ _)
        have HFX := hid (st9_fin (kk := kk) (vc := vc) hz5 HI5.out (fun g off e h0 => by obtain ⟨g', o', e', hg', _⟩ := HI4.out h0; rw [e] at e'; cases e'; exact ⟨by omega, HGE4.out g off e⟩) HB5.out hbO5)
        rw [← HN6.out] at HFX
        obtain ⟨⟨z0, zf0⟩, ⟨z1, zf1⟩, ⟨z2, zf2⟩⟩ := zero_three hz5
        rw [← hX5, ← hO5]
        clear hX5 hO5 hz5
        have HBO5 := hid hbO5
        clear hbO5
        refine hK.out _ _ (HSB.out _ HB5.out) (fun hHeld => ?_)
        clear hK KK
        try simp only [Act.put]
        try simp only [List.setIfInBounds_toArray]
        try simp only [List.set_cons_succ]
        try simp only [List.set_cons_zero]
        refine wpAnyH_ready (rs := [13]) (by kernel_rfl) (by simp) ?_
        refine AllReadyH.cons (o := _) rfl (fun KK hK => ?_) AllReadyH.nil
        have hSF := HSB.out (((X5.setCell ⟨O5, 0, none⟩ (.int .i64 kk)).setCell ⟨O5, 1, none⟩ (.slice va 0 vc)).setCell ⟨O5, 2, none⟩ (.slice none 0 0)) (below_three HB5.out (by first | omega | exact HBO5.out) _ _ _)
        go_simp
        refine hK.out _ _ hSF (fun hHeld => ?_)
        clear hK KK
        try simp only [Act.put]
        try simp only [List.setIfInBounds_toArray]
        try simp only [List.set_cons_succ]
        try simp only [List.set_cons_zero]
        refine wpAnyH_done (by kernel_rfl) ?_ _
        clear hHeld hS z0 zf0 z1 zf1 z2 zf2
        go_wp2_with fail
        go_meet
        case rel => exact ⟨O5, rfl, HFX.out⟩
       next =>
        go_simp
        refine hK.out _ _ (HSB.out _ HBEA.out) (fun hHeld => ?_)
        clear hK KK
        try simp only [Act.put]
        try simp only [List.setIfInBounds_toArray]
        try simp only [List.set_cons_succ]
        try simp only [List.set_cons_zero]
        refine wpAnyH_ready (rs := [10]) (by kernel_rfl) (by simp) ?_
        refine AllReadyH.cons (o := _) rfl (fun KK hK => ?_) AllReadyH.nil
        rw [if_pos (by rfl)]
        refine wp_append_any _ (.tmp 7) (.tmp 14) 25 rfl W.heap.size 3 i0 _ 1 8 Try.underlying25 hi0 hz0 hz1 hz2 rfl (by decide) (.slice (some ⟨W.heap.size, 0, none⟩) 0 0) 0 [] (by simp [Act.eval]) HOEA.out none 0 0 (T6.map (Value.int .i64)) (by simp [Act.eval]) (fun _ => ⟨rfl, rfl⟩) HLN.out (HNW.out _ HBEA.out) HON.out H63.out (by omega) (by first | (have := HBEA.out.size; have := HBB.out; omega) | (simp; done) | (simp; omega)) ?_
        intro v4 w4 hown4 hgrow4 hat4
        obtain ⟨va, vc, rfl, _⟩ := sl_own hown4
        rw [Nat.zero_add] at hown4
        rw [List.nil_append] at hown4
        have HB4 : Hid (Below W.heap.size W w4) := Below.grown HBEA.out hgrow4 (by first | (have := HBEA.out.size; have := HBB.out; omega) | (simp; done) | (simp; omega)) (fun j hj => (HOEA.out.lt j hj).1)
        have HGE4 : Hid (∀ g off, va = some ⟨g, off, none⟩ → W.heap.size ≤ g) := fun g off e => own_ge hown4 g off e
        have hown4' := hown4
        rw [HN6.out] at hown4'
        have HI4 : Hid (IAt w4 va T6) := by
          obtain ⟨a7, c7, e7, hI7⟩ := own_form hown4'
          simp only [Value.slice.injEq, true_and] at e7
          rw [← e7.1] at hI7
          exact hI7
        have hz4 : w4.heap[W.heap.size + 1]? = some (.cells #[.int .i64 0, .slice none 0 0, .slice none 0 0] 32 (0, 0)) := (hgrow4.block _ (by first | (rw [HSZ.out.2.2.1]; omega) | (simp; done) | (simp; omega)) (by simp [Value.ownBlock])).trans HZA.out.2
        have hne4 : ∀ g off, va = some ⟨g, off, none⟩ → 0 < T6.length → g ≠ W.heap.size + 1 ∧ W.heap.size ≤ g := fun g off e h0 => by
          refine ⟨?_, HGE4.out g off e⟩
          subst e
          rcases hat4 with h | h
          · simp [Value.ownBlock] at h; omega
          · simp [Value.ownBlock] at h; omega
        have HFX := hid (st9_fin (kk := kk) (vc := vc) hz4 HI4.out hne4 HB4.out (by omega))
        rw [← HN6.out] at HFX
        obtain ⟨⟨z0, zf0⟩, ⟨z1, zf1⟩, ⟨z2, zf2⟩⟩ := zero_three hz4
        clear hz4 hne4
        clear hown4 hown4' hgrow4 hat4
        refine hK.out _ _ (HSB.out _ HB4.out) (fun hHeld => ?_)
        clear hK KK
        try simp only [Act.put]
        try simp only [List.setIfInBounds_toArray]
        try simp only [List.set_cons_succ]
        try simp only [List.set_cons_zero]
        (refine takeW (i := 11) (dst := some 16) (v := ?_) rfl rfl (by kernel_rfl) (by kernel_rfl) (by kernel_rfl) (fun _ _ _ h => h) (Or.inl ⟨by rfl, ?_⟩) hHeld ?_; rotate_left; focus (intro w hSw; (try dsimp only at hSw); go_simp; (try with_reducible rfl); done))
        try simp only [Act.put]
        try simp only [List.setIfInBounds_toArray]
        try simp only [List.set_cons_succ]
        try simp only [List.set_cons_zero]
        refine wpAnyH_ready (rs := [13]) (by kernel_rfl) (by simp) ?_
        refine AllReadyH.cons (o := _) rfl (fun KK hK => ?_) AllReadyH.nil
        have hSF := HSB.out (((w4.setCell ⟨W.heap.size + 1, 0, none⟩ (.int .i64 kk)).setCell ⟨W.heap.size + 1, 1, none⟩ (.slice va 0 vc)).setCell ⟨W.heap.size + 1, 2, none⟩ (.slice none 0 0)) (below_three HB4.out (by first | omega | exact HBO5.out) _ _ _)
        go_simp
        refine hK.out _ _ hSF (fun hHeld => ?_)
        clear hK KK
        try simp only [Act.put]
        try simp only [List.setIfInBounds_toArray]
        try simp only [List.set_cons_succ]
        try simp only [List.set_cons_zero]
        refine wpAnyH_done (by kernel_rfl) ?_ _
        clear hHeld hS z0 zf0 z1 zf1 z2 zf2
        go_wp2_with fail
        go_meet
        case rel => exact ⟨W.heap.size + 1, rfl, HFX.out⟩
      next =>
       go_simp
       refine hK.out _ _ (HSB.out _ HBA.out) (fun hHeld => ?_)
       clear hK KK
       try simp only [Act.put]
       try simp only [List.setIfInBounds_toArray]
       try simp only [List.set_cons_succ]
       try simp only [List.set_cons_zero]
       refine wpAnyH_ready (rs := [2]) (by kernel_rfl) (by simp) ?_
       refine AllReadyH.cons (o := _) rfl (fun KK hK => ?_) AllReadyH.nil
       go_simp
       refine hK.out _ _ (HSB.out _ HBAE.out) (fun hHeld => ?_)
       clear hK KK
       try simp only [Act.put]
       try simp only [List.setIfInBounds_toArray]
       try simp only [List.set_cons_succ]
       try simp only [List.set_cons_zero]
       refine wpAnyH_ready (rs := [10]) (by kernel_rfl) (by simp) ?_
       refine AllReadyH.cons (o := _) rfl (fun KK hK => ?_) AllReadyH.nil
       rw [if_pos (by rfl)]
       refine wp_append_any _ (.tmp 7) (.tmp 14) 25 rfl W.heap.size 3 i0 _ 1 8 Try.underlying25 hi0 hz0 hz1 hz2 rfl (by decide) (.slice (some ⟨W.heap.size + 1, 0, none⟩) 0 0) 0 [] (by simp [Act.eval]) HOAE.out none 0 0 (T6.map (Value.int .i64)) (by simp [Act.eval]) (fun _ => ⟨rfl, rfl⟩) HLN.out (HNW.out _ HBAE.out) HON.out H63.out (by omega) (by first | (have := HBAE.out.size; have := HBB.out; omega) | (simp; done) | (simp; omega)) ?_
       intro v4 w4 hown4 hgrow4 hat4
       obtain ⟨va, vc, rfl, _⟩ := sl_own hown4
       rw [Nat.zero_add] at hown4
       rw [List.nil_append] at hown4
       have HB4 : Hid (Below W.heap.size W w4) := Below.grown HBAE.out hgrow4 (by first | (have := HBAE.out.size; have := HBB.out; omega) | (simp; done) | (simp; omega)) (fun j hj => (HOAE.out.lt j hj).1)
       have HGE4 : Hid (∀ g off, va = some ⟨g, off, none⟩ → W.heap.size ≤ g) := fun g off e => own_ge hown4 g off e
       have hown4' := hown4
       rw [HN6.out] at hown4'
       have HI4 : Hid (IAt w4 va T6) := by
         obtain ⟨a7, c7, e7, hI7⟩ := own_form hown4'
         simp only [Value.slice.injEq, true_and] at e7
         rw [← e7.1] at hI7
         exact hI7
       have hz4 : w4.heap[W.heap.size]? = some (.cells #[.int .i64 0, .slice none 0 0, .slice none 0 0] 32 (0, 0)) := (hgrow4.block _ (by first | (rw [HSZ.out.2.2.2]; omega) | (simp; done) | (simp; omega)) (by simp [Value.ownBlock])).trans HZA.out.1
       have hne4 : ∀ g off, va = some ⟨g, off, none⟩ → 0 < T6.length → g ≠ W.heap.size ∧ W.heap.size ≤ g := fun g off e h0 => by
         refine ⟨?_, HGE4.out g off e⟩
         subst e
         rcases hat4 with h | h
         · simp [Value.ownBlock] at h; omega
         · simp [Value.ownBlock] at h; omega
       have HFX := hid (st9_fin (kk := kk) (vc := vc) hz4 HI4.out hne4 HB4.out (by omega))
       rw [← HN6.out] at HFX
       obtain ⟨⟨z0, zf0⟩, ⟨z1, zf1⟩, ⟨z2, zf2⟩⟩ := zero_three hz4
       clear hz4 hne4
       clear hown4 hown4' hgrow4 hat4
       refine hK.out _ _ (HSB.out _ HB4.out) (fun hHeld => ?_)
       clear hK KK
       try simp only [Act.put]
       try simp only [List.setIfInBounds_toArray]
       try simp only [List.set_cons_succ]
       try simp only [List.set_cons_zero]
       (refine takeW (i := 11) (dst := some 16) (v := ?_) rfl rfl (by kernel_rfl) (by kernel_rfl) (by kernel_rfl) (fun _ _ _ h => h) (Or.inl ⟨by rfl, ?_⟩) hHeld ?_; rotate_left; focus (intro w hSw; (try dsimp only at hSw); go_simp; (try with_reducible rfl); done))
       try simp only [Act.put]
       try simp only [List.setIfInBounds_toArray]
       try simp only [List.set_cons_succ]
       try simp only [List.set_cons_zero]
       refine wpAnyH_ready (rs := [13]) (by kernel_rfl) (by simp) ?_
       refine AllReadyH.cons (o := _) rfl (fun KK hK => ?_) AllReadyH.nil
       have hSF := HSB.out (((w4.setCell ⟨W.heap.size, 0, none⟩ (.int .i64 kk)).setCell ⟨W.heap.size, 1, none⟩ (.slice va 0 vc)).setCell ⟨W.heap.size, 2, none⟩ (.slice none 0 0)) (below_three HB4.out (by first | omega | exact HBO5.out) _ _ _)
       go_simp
       refine hK.out _ _ hSF (fun hHeld => ?_)
       clear hK KK
       try simp only [Act.put]
       try simp only [List.setIfInBounds_toArray]
       try simp only [List.set_cons_succ]
       try simp only [List.set_cons_zero]
       refine wpAnyH_done (by kernel_rfl) ?_ _
       clear hHeld hS z0 zf0 z1 zf1 z2 zf2
       go_wp2_with fail
       go_meet
       case rel => exact ⟨W.heap.size, rfl, HFX.out⟩
    | some ad =>
      clear hck2
      refine wp_region_held_drew (S := (fun X : World => X.cell? ⟨b0, 0, none⟩ = some (.int .i64 kk) ∧ X.cell? ⟨b0, 1, none⟩ = some (.slice (some ad) nt tc))) (by kernel_rfl) hS (fun hHeld => ?_)
      (refine takeW (i := 0) (dst := some 5) (v := ?_) rfl rfl (by kernel_rfl) (by kernel_rfl) (by kernel_rfl) (fun _ _ _ h => h) (Or.inl ⟨by rfl, ?_⟩) hHeld ?_; rotate_left; focus (intro w hSw; (try dsimp only at hSw); go_simp; (try with_reducible rfl); done))
      try simp only [Act.put]
      try simp only [List.setIfInBounds_toArray]
      try simp only [List.set_cons_succ]
      try simp only [List.set_cons_zero]
      (refine takeW (i := 1) (dst := some 6) (v := ?_) rfl rfl (by kernel_rfl) (by kernel_rfl) (by kernel_rfl) (fun _ _ _ h => h) (Or.inl ⟨by rfl, ?_⟩) hHeld ?_; rotate_left; focus (intro w hSw; (try dsimp only at hSw); go_simp; (try with_reducible rfl); done))
      try simp only [Act.put]
      try simp only [List.setIfInBounds_toArray]
      try simp only [List.set_cons_succ]
      try simp only [List.set_cons_zero]
      (refine takeW (i := 3) (dst := some 8) (v := ?_) rfl rfl (by kernel_rfl) (by kernel_rfl) (by kernel_rfl) (fun _ _ _ h => h) (Or.inl ⟨by rfl, ?_⟩) hHeld ?_; rotate_left; focus (intro w hSw; (try dsimp only at hSw); go_simp; (try with_reducible rfl); done))
      try simp only [Act.put]
      try simp only [List.setIfInBounds_toArray]
      try simp only [List.set_cons_succ]
      try simp only [List.set_cons_zero]
      (refine takeW (i := 4) (dst := some 9) (v := ?_) rfl rfl (by kernel_rfl) (by kernel_rfl) (by kernel_rfl) (fun _ _ _ h => h) (Or.inl ⟨by rfl, ?_⟩) hHeld ?_; rotate_left; focus (intro w hSw; (try dsimp only at hSw); go_simp; (try with_reducible rfl); done))
      try simp only [Act.put]
      try simp only [List.setIfInBounds_toArray]
      try simp only [List.set_cons_succ]
      try simp only [List.set_cons_zero]
      (refine takeW (i := 5) (dst := some 10) (v := ?_) rfl rfl (by kernel_rfl) (by kernel_rfl) (by kernel_rfl) (fun _ _ _ h => h) (Or.inl ⟨by rfl, ?_⟩) hHeld ?_; rotate_left; focus (intro w hSw; (try dsimp only at hSw); go_simp; (try with_reducible rfl); done))
      try simp only [Act.put]
      try simp only [List.setIfInBounds_toArray]
      try simp only [List.set_cons_succ]
      try simp only [List.set_cons_zero]
      (refine takeW (i := 6) (dst := some 11) (v := ?_) rfl rfl (by kernel_rfl) (by kernel_rfl) (by kernel_rfl) (fun _ _ _ h => h) (Or.inl ⟨by rfl, ?_⟩) hHeld ?_; rotate_left; focus (intro w hSw; (try dsimp only at hSw); go_simp; (try with_reducible rfl); done))
      try simp only [Act.put]
      try simp only [List.setIfInBounds_toArray]
      try simp only [List.set_cons_succ]
      try simp only [List.set_cons_zero]
      (refine takeW (i := 7) (dst := some 12) (v := ?_) rfl rfl (by kernel_rfl) (by kernel_rfl) (by kernel_rfl) (fun _ _ _ h => h) (Or.inl ⟨by rfl, ?_⟩) hHeld ?_; rotate_left; focus (intro w hSw; (try dsimp only at hSw); go_simp; (try with_reducible rfl); done))
      try simp only [Act.put]
      try simp only [List.setIfInBounds_toArray]
      try simp only [List.set_cons_succ]
      try simp only [List.set_cons_zero]
      (refine takeW (i := 8) (dst := some 13) (v := ?_) rfl rfl (by kernel_rfl) (by kernel_rfl) (by kernel_rfl) (fun _ _ _ h => h) (Or.inl ⟨by rfl, ?_⟩) hHeld ?_; rotate_left; focus (intro w hSw; (try dsimp only at hSw); go_simp; (try with_reducible rfl); done))
      try simp only [Act.put]
      try simp only [List.setIfInBounds_toArray]
      try simp only [List.set_cons_succ]
      try simp only [List.set_cons_zero]
      (refine takeW (i := 9) (dst := some 14) (v := ?_) rfl rfl (by kernel_rfl) (by kernel_rfl) (by kernel_rfl) (fun _ _ _ h => h) (Or.inl ⟨by rfl, ?_⟩) hHeld ?_; rotate_left; focus (intro w hSw; (try dsimp only at hSw); go_simp; (try with_reducible rfl); done))
      try simp only [Act.put]
      try simp only [List.setIfInBounds_toArray]
      try simp only [List.set_cons_succ]
      try simp only [List.set_cons_zero]
      refine wpAnyH_ready (rs := [2, 12]) (by kernel_rfl) (by simp) ?_
      refine AllReadyH.cons (o := _) rfl (fun KK hK => ?_) (AllReadyH.cons (o := _) rfl (fun KK hK => ?_) AllReadyH.nil)
      next =>
       go_simp
       refine hK.out _ _ (HSB.out _ HBE.out) (fun hHeld => ?_)
       clear hK KK
       try simp only [Act.put]
       try simp only [List.setIfInBounds_toArray]
       try simp only [List.set_cons_succ]
       try simp only [List.set_cons_zero]
       refine wpAnyH_ready (rs := [10, 12]) (by kernel_rfl) (by simp) ?_
       refine AllReadyH.cons (o := _) rfl (fun KK hK => ?_) (AllReadyH.cons (o := _) rfl (fun KK hK => ?_) AllReadyH.nil)
       next =>
        rw [if_pos (by rfl)]
        refine wp_append_any _ (.tmp 7) (.tmp 14) 25 rfl W.heap.size 3 i0 _ 1 8 Try.underlying25 hi0 hz0 hz1 hz2 rfl (by decide) (.slice (some ⟨W.heap.size, 0, none⟩) 0 0) 0 [] (by simp [Act.eval]) HOE.out (some ad) n6 tc (T6.map (Value.int .i64)) (by simp [Act.eval]) HNIL.out HLN.out (HNW.out _ HBE.out) HON.out H63.out (by omega) (by first | (have := HBE.out.size; have := HBB.out; omega) | (simp; done) | (simp; omega)) ?_
        intro v4 w4 hown4 hgrow4 hat4
        obtain ⟨va, vc, rfl, _⟩ := sl_own hown4
        rw [Nat.zero_add] at hown4
        rw [List.nil_append] at hown4
        have HB4 : Hid (Below W.heap.size W w4) := Below.grown HBE.out hgrow4 (by first | (have := HBE.out.size; have := HBB.out; omega) | (simp; done) | (simp; omega)) (fun j hj => (HOE.out.lt j hj).1)
        have HGE4 : Hid (∀ g off, va = some ⟨g, off, none⟩ → W.heap.size ≤ g) := fun g off e => own_ge hown4 g off e
        have hown4' := hown4
        rw [HN6.out] at hown4'
        have HI4 : Hid (IAt w4 va T6) := by
          obtain ⟨a7, c7, e7, hI7⟩ := own_form hown4'
          simp only [Value.slice.injEq, true_and] at e7
          rw [← e7.1] at hI7
          exact hI7
        clear hown4 hown4' hgrow4 hat4
        refine hK.out _ _ (HSB.out _ HB4.out) (fun hHeld => ?_)
        clear hK KK
        try simp only [Act.put]
        try simp only [List.setIfInBounds_toArray]
        try simp only [List.set_cons_succ]
        try simp only [List.set_cons_zero]
        (refine takeW (i := 11) (dst := some 16) (v := ?_) rfl rfl (by kernel_rfl) (by kernel_rfl) (by kernel_rfl) (fun _ _ _ h => h) (Or.inl ⟨by rfl, ?_⟩) hHeld ?_; rotate_left; focus (intro w hSw; (try dsimp only at hSw); go_simp; (try with_reducible rfl); done))
        try simp only [Act.put]
        try simp only [List.setIfInBounds_toArray]
        try simp only [List.set_cons_succ]
        try simp only [List.set_cons_zero]
        refine wpAnyH_ready (rs := [12]) (by kernel_rfl) (by simp) ?_
        refine AllReadyH.cons (o := _) rfl (fun KK hK => ?_) AllReadyH.nil
        go_simp
        obtain ⟨X5, hX5⟩ := ex_eq (w4.alloc (.cells #[.int .i64 0, .slice none 0 0, .slice none 0 0] 32))
        obtain ⟨O5, hO5⟩ := ex_eq w4.heap.size
        have hz5 := heap_alloc_new w4 (.cells #[.int .i64 0, .slice none 0 0, .slice none 0 0] 32)
        rw [← hX5, ← hO5] at hz5
        have hbO5 : W.heap.size ≤ O5 := by rw [hO5]; exact HB4.out.size
        have HB5 : Hid (Below W.heap.size W X5) := by show Below _ _ _; rw [hX5]; exact HB4.out.alloc (by have := HB4.out.size; have := HBB.out; omega) _
        have HI5 : Hid (IAt X5 va T6) := by show IAt _ _ _; rw [hX5]; exact HI4.out.below (below_one _ _)
        have HFX := hid (st9_fin (kk := kk) (vc := vc) hz5 HI5.out (fun g off e h0 => by obtain ⟨g', o', e', hg', _⟩ := HI4.out h0; rw [e] at e'; cases e'; exact ⟨by omega, HGE4.out g off e⟩) HB5.out hbO5)
        rw [← HN6.out] at HFX
        obtain ⟨⟨z0, zf0⟩, ⟨z1, zf1⟩, ⟨z2, zf2⟩⟩ := zero_three hz5
        rw [← hX5, ← hO5]
        clear hX5 hO5 hz5
        have HBO5 := hid hbO5
        clear hbO5
        refine hK.out _ _ (HSB.out _ HB5.out) (fun hHeld => ?_)
        clear hK KK
        try simp only [Act.put]
        try simp only [List.setIfInBounds_toArray]
        try simp only [List.set_cons_succ]
        try simp only [List.set_cons_zero]
        refine wpAnyH_ready (rs := [13]) (by kernel_rfl) (by simp) ?_
        refine AllReadyH.cons (o := _) rfl (fun KK hK => ?_) AllReadyH.nil
        have hSF := HSB.out (((X5.setCell ⟨O5, 0, none⟩ (.int .i64 kk)).setCell ⟨O5, 1, none⟩ (.slice va n6 vc)).setCell ⟨O5, 2, none⟩ (.slice none 0 0)) (below_three HB5.out (by first | omega | exact HBO5.out) _ _ _)
        go_simp
        refine hK.out _ _ hSF (fun hHeld => ?_)
        clear hK KK
        try simp only [Act.put]
        try simp only [List.setIfInBounds_toArray]
        try simp only [List.set_cons_succ]
        try simp only [List.set_cons_zero]
        refine wpAnyH_done (by kernel_rfl) ?_ _
        clear hHeld hS z0 zf0 z1 zf1 z2 zf2
        go_wp2_with fail
        go_meet
        case rel => exact ⟨O5, rfl, HFX.out⟩
       next =>
        go_simp
        refine hK.out _ _ (HSB.out _ HBEA.out) (fun hHeld => ?_)
        clear hK KK
        try simp only [Act.put]
        try simp only [List.setIfInBounds_toArray]
        try simp only [List.set_cons_succ]
        try simp only [List.set_cons_zero]
        refine wpAnyH_ready (rs := [10]) (by kernel_rfl) (by simp) ?_
        refine AllReadyH.cons (o := _) rfl (fun KK hK => ?_) AllReadyH.nil
        rw [if_pos (by rfl)]
        refine wp_append_any _ (.tmp 7) (.tmp 14) 25 rfl W.heap.size 3 i0 _ 1 8 Try.underlying25 hi0 hz0 hz1 hz2 rfl (by decide) (.slice (some ⟨W.heap.size, 0, none⟩) 0 0) 0 [] (by simp [Act.eval]) HOEA.out (some ad) n6 tc (T6.map (Value.int .i64)) (by simp [Act.eval]) HNIL.out HLN.out (HNW.out _ HBEA.out) HON.out H63.out (by omega) (by first | (have := HBEA.out.size; have := HBB.out; omega) | (simp; done) | (simp; omega)) ?_
        intro v4 w4 hown4 hgrow4 hat4
        obtain ⟨va, vc, rfl, _⟩ := sl_own hown4
        rw [Nat.zero_add] at hown4
        rw [List.nil_append] at hown4
        have HB4 : Hid (Below W.heap.size W w4) := Below.grown HBEA.out hgrow4 (by first | (have := HBEA.out.size; have := HBB.out; omega) | (simp; done) | (simp; omega)) (fun j hj => (HOEA.out.lt j hj).1)
        have HGE4 : Hid (∀ g off, va = some ⟨g, off, none⟩ → W.heap.size ≤ g) := fun g off e => own_ge hown4 g off e
        have hown4' := hown4
        rw [HN6.out] at hown4'
        have HI4 : Hid (IAt w4 va T6) := by
          obtain ⟨a7, c7, e7, hI7⟩ := own_form hown4'
          simp only [Value.slice.injEq, true_and] at e7
          rw [← e7.1] at hI7
          exact hI7
        have hz4 : w4.heap[W.heap.size + 1]? = some (.cells #[.int .i64 0, .slice none 0 0, .slice none 0 0] 32 (0, 0)) := (hgrow4.block _ (by first | (rw [HSZ.out.2.2.1]; omega) | (simp; done) | (simp; omega)) (by simp [Value.ownBlock])).trans HZA.out.2
        have hne4 : ∀ g off, va = some ⟨g, off, none⟩ → 0 < T6.length → g ≠ W.heap.size + 1 ∧ W.heap.size ≤ g := fun g off e h0 => by
          refine ⟨?_, HGE4.out g off e⟩
          subst e
          rcases hat4 with h | h
          · simp [Value.ownBlock] at h; omega
          · simp [Value.ownBlock] at h; omega
        have HFX := hid (st9_fin (kk := kk) (vc := vc) hz4 HI4.out hne4 HB4.out (by omega))
        rw [← HN6.out] at HFX
        obtain ⟨⟨z0, zf0⟩, ⟨z1, zf1⟩, ⟨z2, zf2⟩⟩ := zero_three hz4
        clear hz4 hne4
        clear hown4 hown4' hgrow4 hat4
        refine hK.out _ _ (HSB.out _ HB4.out) (fun hHeld => ?_)
        clear hK KK
        try simp only [Act.put]
        try simp only [List.setIfInBounds_toArray]
        try simp only [List.set_cons_succ]
        try simp only [List.set_cons_zero]
        (refine takeW (i := 11) (dst := some 16) (v := ?_) rfl rfl (by kernel_rfl) (by kernel_rfl) (by kernel_rfl) (fun _ _ _ h => h) (Or.inl ⟨by rfl, ?_⟩) hHeld ?_; rotate_left; focus (intro w hSw; (try dsimp only at hSw); go_simp; (try with_reducible rfl); done))
        try simp only [Act.put]
        try simp only [List.setIfInBounds_toArray]
        try simp only [List.set_cons_succ]
        try simp only [List.set_cons_zero]
        refine wpAnyH_ready (rs := [13]) (by kernel_rfl) (by simp) ?_
        refine AllReadyH.cons (o := _) rfl (fun KK hK => ?_) AllReadyH.nil
        have hSF := HSB.out (((w4.setCell ⟨W.heap.size + 1, 0, none⟩ (.int .i64 kk)).setCell ⟨W.heap.size + 1, 1, none⟩ (.slice va n6 vc)).setCell ⟨W.heap.size + 1, 2, none⟩ (.slice none 0 0)) (below_three HB4.out (by first | omega | exact HBO5.out) _ _ _)
        go_simp
        refine hK.out _ _ hSF (fun hHeld => ?_)
        clear hK KK
        try simp only [Act.put]
        try simp only [List.setIfInBounds_toArray]
        try simp only [List.set_cons_succ]
        try simp only [List.set_cons_zero]
        refine wpAnyH_done (by kernel_rfl) ?_ _
        clear hHeld hS z0 zf0 z1 zf1 z2 zf2
        go_wp2_with fail
        go_meet
        case rel => exact ⟨W.heap.size + 1, rfl, HFX.out⟩
      next =>
       go_simp
       refine hK.out _ _ (HSB.out _ HBA.out) (fun hHeld => ?_)
       clear hK KK
       try simp only [Act.put]
       try simp only [List.setIfInBounds_toArray]
       try simp only [List.set_cons_succ]
       try simp only [List.set_cons_zero]
       refine wpAnyH_ready (rs := [2]) (by kernel_rfl) (by simp) ?_
       refine AllReadyH.cons (o := _) rfl (fun KK hK => ?_) AllReadyH.nil
       go_simp
       refine hK.out _ _ (HSB.out _ HBAE.out) (fun hHeld => ?_)
       clear hK KK
       try simp only [Act.put]
       try simp only [List.setIfInBounds_toArray]
       try simp only [List.set_cons_succ]
       try simp only [List.set_cons_zero]
       refine wpAnyH_ready (rs := [10]) (by kernel_rfl) (by simp) ?_
       refine AllReadyH.cons (o := _) rfl (fun KK hK => ?_) AllReadyH.nil
       rw [if_pos (by rfl)]
       refine wp_append_any _ (.tmp 7) (.tmp 14) 25 rfl W.heap.size 3 i0 _ 1 8 Try.underlying25 hi0 hz0 hz1 hz2 rfl (by decide) (.slice (some ⟨W.heap.size + 1, 0, none⟩) 0 0) 0 [] (by simp [Act.eval]) HOAE.out (some ad) n6 tc (T6.map (Value.int .i64)) (by simp [Act.eval]) HNIL.out HLN.out (HNW.out _ HBAE.out) HON.out H63.out (by omega) (by first | (have := HBAE.out.size; have := HBB.out; omega) | (simp; done) | (simp; omega)) ?_
       intro v4 w4 hown4 hgrow4 hat4
       obtain ⟨va, vc, rfl, _⟩ := sl_own hown4
       rw [Nat.zero_add] at hown4
       rw [List.nil_append] at hown4
       have HB4 : Hid (Below W.heap.size W w4) := Below.grown HBAE.out hgrow4 (by first | (have := HBAE.out.size; have := HBB.out; omega) | (simp; done) | (simp; omega)) (fun j hj => (HOAE.out.lt j hj).1)
       have HGE4 : Hid (∀ g off, va = some ⟨g, off, none⟩ → W.heap.size ≤ g) := fun g off e => own_ge hown4 g off e
       have hown4' := hown4
       rw [HN6.out] at hown4'
       have HI4 : Hid (IAt w4 va T6) := by
         obtain ⟨a7, c7, e7, hI7⟩ := own_form hown4'
         simp only [Value.slice.injEq, true_and] at e7
         rw [← e7.1] at hI7
         exact hI7
       have hz4 : w4.heap[W.heap.size]? = some (.cells #[.int .i64 0, .slice none 0 0, .slice none 0 0] 32 (0, 0)) := (hgrow4.block _ (by first | (rw [HSZ.out.2.2.2]; omega) | (simp; done) | (simp; omega)) (by simp [Value.ownBlock])).trans HZA.out.1
       have hne4 : ∀ g off, va = some ⟨g, off, none⟩ → 0 < T6.length → g ≠ W.heap.size ∧ W.heap.size ≤ g := fun g off e h0 => by
         refine ⟨?_, HGE4.out g off e⟩
         subst e
         rcases hat4 with h | h
         · simp [Value.ownBlock] at h; omega
         · simp [Value.ownBlock] at h; omega
       have HFX := hid (st9_fin (kk := kk) (vc := vc) hz4 HI4.out hne4 HB4.out (by omega))
       rw [← HN6.out] at HFX
       obtain ⟨⟨z0, zf0⟩, ⟨z1, zf1⟩, ⟨z2, zf2⟩⟩ := zero_three hz4
       clear hz4 hne4
       clear hown4 hown4' hgrow4 hat4
       refine hK.out _ _ (HSB.out _ HB4.out) (fun hHeld => ?_)
       clear hK KK
       try simp only [Act.put]
       try simp only [List.setIfInBounds_toArray]
       try simp only [List.set_cons_succ]
       try simp only [List.set_cons_zero]
       (refine takeW (i := 11) (dst := some 16) (v := ?_) rfl rfl (by kernel_rfl) (by kernel_rfl) (by kernel_rfl) (fun _ _ _ h => h) (Or.inl ⟨by rfl, ?_⟩) hHeld ?_; rotate_left; focus (intro w hSw; (try dsimp only at hSw); go_simp; (try with_reducible rfl); done))
       try simp only [Act.put]
       try simp only [List.setIfInBounds_toArray]
       try simp only [List.set_cons_succ]
       try simp only [List.set_cons_zero]
       refine wpAnyH_ready (rs := [13]) (by kernel_rfl) (by simp) ?_
       refine AllReadyH.cons (o := _) rfl (fun KK hK => ?_) AllReadyH.nil
       have hSF := HSB.out (((w4.setCell ⟨W.heap.size, 0, none⟩ (.int .i64 kk)).setCell ⟨W.heap.size, 1, none⟩ (.slice va n6 vc)).setCell ⟨W.heap.size, 2, none⟩ (.slice none 0 0)) (below_three HB4.out (by first | omega | exact HBO5.out) _ _ _)
       go_simp
       refine hK.out _ _ hSF (fun hHeld => ?_)
       clear hK KK
       try simp only [Act.put]
       try simp only [List.setIfInBounds_toArray]
       try simp only [List.set_cons_succ]
       try simp only [List.set_cons_zero]
       refine wpAnyH_done (by kernel_rfl) ?_ _
       clear hHeld hS z0 zf0 z1 zf1 z2 zf2
       go_wp2_with fail
       go_meet
       case rel => exact ⟨W.heap.size, rfl, HFX.out⟩
  case rest =>
    obtain ⟨O, rfl, hst9⟩ := hcut
    obtain ⟨W1, hW1⟩ : ∃ x, x = wc := ⟨_, rfl⟩
    subst hW1
    obtain ⟨a1, c1, ⟨q0, q1, q2, qf2⟩, hI1, hne1, hb1, hbO, hO1⟩ := hst9.out
    rw [← HN6.out] at q1
    have HP : Hid (W1.cell? ⟨O, 0, none⟩ = some (.int .i64 kk) ∧ W1.cell? ⟨O, 1, none⟩ = some (.slice a1 n6 c1)) := ⟨q0, q1⟩
    have HIT1 := hid hI1
    have HNE1 := hid hne1
    have HST : Hid (∃ v us, SuSt W1 W1 O v us (cutL LL 0)) := ⟨.slice none 0 0, [], q2, qf2, rfl, rfl, ⟨⟨rfl, Or.inl ⟨rfl, rfl⟩⟩, rfl, fun k hk => by simp [cutL] at hk⟩, KeptBut.refl _ _, hO1⟩
    have HKX : Hid (∀ X, KeptBut (fun q => q = O) W1 X → Below W.heap.size W X) := fun X hX => hb1.trans (hX.below hb1.size (fun k _ e => by omega))
    have hs1 : W.heap.size ≤ W1.heap.size := hb1.size
    have HB1 := hid hb1
    clear hst9 hI1 hne1 hb1 q0 q1 q2 qf2 hS hck1 hck2 hck3 kmin kc k0 k9 HOE HOEA HOAE HZA HSZ HBD HBE HBA HBAE HBEA HNW HON HLN H63 HNIL HSB
    go_wp2
    go_loopg [4] 8 (fun G i wz => ∃ t : Nat, t ≤ 8 ∧ t ≤ N ∧ 8 - t ≤ G ∧ i = .int .i64 t ∧ Hid (∃ v us, SuSt W1 wz O v us (cutL LL t)))
    case atStart => exact ⟨0, Nat.zero_le _, Nat.zero_le _, by omega, rfl, HST.out⟩
    case round =>
      clear HST
      obtain ⟨t, ht, htN, hG, rfl, hst⟩ := hrel
      obtain ⟨u4, us, hSt⟩ := hst.out
      obtain ⟨⟨x0, x1, x2⟩, _, hbz⟩ := HBX.out wr (HKX.out wr hSt.kp)
      go_upto_region 3 with fail
      go_cut [25] from 17 to 47 (fun c wx => c = .bool (decide (t < N ∧ t < 8)) ∧ wx = wr)
      case first =>
        have hway : ((t : Int) < (N : Int) ∧ (t : Int) < 8) ∨ ¬ (t : Int) < (N : Int) ∨ ((t : Int) < (N : Int) ∧ ¬ (t : Int) < 8) := by omega
        clear hst hSt hbz
        rcases hway with ⟨v1, v2⟩ | v1 | ⟨v1, v2⟩
        all_goals
          go_wp2_with fail
          go_meet
        all_goals first | exact ⟨congrArg Value.bool (decide_eq_decide.2 (by omega)), rfl⟩ | exact ⟨congrArg Value.bool (decide_eq_false (p := t < N ∧ t < 8) (by omega)).symm, rfl⟩ | exact ⟨congrArg Value.bool (decide_eq_true (p := t < N ∧ t < 8) (by omega)).symm, rfl⟩
      case rest =>
        obtain ⟨rfl, hwc⟩ := hcut
        rw [hwc]
        clear hwc
        by_cases hgo : t < N ∧ t < 8
        · rw [decide_eq_true hgo]
          obtain ⟨hlt, ht6⟩ := hgo
          have htr : t < LL.length := by rw [← HL.out]; exact hlt
          obtain ⟨g, off, ha', hg, hrow⟩ := HAT.out (by omega)
          subst ha'
          obtain ⟨ak, ck, c0, hck⟩ := hrow t htr
          obtain ⟨R, hR⟩ := ex_eq LL[t].length
          rw [← hR] at c0 hck
          obtain ⟨Kr, hKr⟩ := ex_eq (min R 20)
          obtain ⟨L, hLr⟩ := ex_eq (LL[t].take 20)
          have hLl : L.length = Kr := by rw [hLr, List.length_take]; omega
          have HLr := hid hLr
          have HSB : Hid (∀ X, Below W.heap.size W X → X.cell? ⟨b0, 2, none⟩ = some (.slice (some ⟨g, off, none⟩) N cap) ∧ X.cell? ⟨g, off + t, none⟩ = some (.slice ak R ck)) := fun X hX => by
            obtain ⟨⟨_, _, y1⟩, _, y2⟩ := HBX.out X hX
            exact ⟨y1, (y2.cell (p := ⟨g, off + t, none⟩) (by rw [HB0.out]; exact hg)).trans c0⟩
          have HIR : Hid (∀ X, Below b0 w X → IAt X ak L) := fun X hX => by
            rw [hLr]; exact iat_take6 (hck.at_.below (by rw [← HB0.out]; exact hX)) 20
          have hsz : W1.heap.size ≤ wr.heap.size := hSt.kp.size
          have HBZ2 : Hid (∀ X, Below wr.heap.size wr.drew X → Below W.heap.size W X) := fun X hX => (HKX.out wr hSt.kp).drew.trans (hX.mono (by omega))
          have HBA : Hid (Below wr.heap.size wr.drew (wr.drew.alloc (.cells #[] 3))) := (Below.refl wr.heap.size wr.drew).alloc (Nat.le_refl _) _
          have HOW : Hid ((wr.drew.alloc (.cells #[] 3)).ownsRow wr.heap.size 3 1 (.slice (some ⟨wr.heap.size, 0, none⟩) 0 0) 0 []) := own_emptyI (w := wr.drew) _ rfl
          have hck1 := hck.le
          have hck2 := hck.nil
          have hck3 := hck.max
          have kmin : min (R : Int) 20 = (Kr : Int) := by omega
          have kc : (Kr : Int) ≤ (ck : Int) := by omega
          have k0 : (0 : Int) ≤ (Kr : Int) := by omega
          have k9 : (Kr : Int) ≤ (R : Int) := by omega
          have hKr20 : Kr ≤ 20 := by omega
          have HNIL : Hid (ak = none → Kr = 0 ∧ ck = 0) := fun e => by have := hck2 e; exact ⟨by omega, this⟩
          have HNW : Hid (∀ q, ak = some q → ∀ j u, (L.map (Value.int .i64))[j]? = some u → (wr.drew.alloc (.cells #[] 3)).cell? (q.add j) = some u) := fun q hq j u hu' => by
            subst hq
            rw [List.getElem?_map] at hu'
            have hjl : j < L.length := by
              by_cases hh : j < L.length
              · exact hh
              · rw [List.getElem?_eq_none (by omega)] at hu'; cases hu'
            rw [List.getElem?_eq_getElem hjl] at hu'
            cases hu'
            obtain ⟨g', off', hg', _, hc'⟩ := HIR.out (wr.drew.alloc (.cells #[] 3)) (HBX.out _ (HBZ2.out _ HBA.out)).2.2 (by omega)
            cases hg'
            rw [add_at]
            exact hc' j hjl
          have HON : Hid (∀ v ∈ L.map (Value.int .i64), v.oneCell' = true) := fun v hv => by obtain ⟨z, _, rfl⟩ := List.mem_map.1 hv; rfl
          have HLN : Hid ((L.map (Value.int .i64)).length = Kr * 1) := by show _ = _; rw [List.length_map, hLl, Nat.mul_one]
          have H63 : Hid (0 + Kr ≤ maxLen) := by show 0 + Kr ≤ maxLen; unfold maxLen; omega
          have HBS : Hid (wr.heap.size ≤ (wr.drew.alloc (.cells #[] 3)).heap.size) := by show wr.heap.size ≤ _; simp
          have HPUT : Hid (∀ v4 w4, w4.ownsRow wr.heap.size 3 1 v4 Kr (L.map (Value.int .i64)) → (wr.drew.alloc (.cells #[] 3)).grownBy w4 (Value.slice (some ⟨wr.heap.size, 0, none⟩) 0 0).ownBlock → ∃ ar cr, v4 = .slice ar Kr cr ∧ (w4.ownsRow wr.heap.size 3 1 (.slice ar Kr cr) Kr (L.map (Value.int .i64))) ∧ Below wr.heap.size wr.drew w4) := fun v4 w4 h1 h2 => by
            obtain ⟨a3, c3, hv3, _⟩ := sl_own h1
            subst hv3
            exact ⟨a3, c3, rfl, h1, Below.grown ((Below.refl wr.heap.size wr.drew).alloc (Nat.le_refl _) _) h2 (by simp) (fun j hj => (HOW.out.lt j hj).1)⟩
          have hct : (cutL LL t).length = t := cutL_len (by omega)
          have hSd := hSt.drew
          have hOz : O < wr.heap.size := by have := hSt.lt; omega
          have HV : Hid (∀ X, Below wr.heap.size wr.drew X → X.cell? ⟨O, 2, none⟩ = some u4) := fun X hX => (hX.cell (p := ⟨O, 2, none⟩) hOz).trans hSd.c2
          have HO2 : Hid (∀ w4 ar cr, Below wr.heap.size wr.drew w4 → (w4.alloc (.cells #[.slice ar Kr cr] 25)).ownsRow W1.heap.size 25 1 u4 t us) := fun w4 ar cr h4 => by
            have h := (hSd.rw.below h4).own
            rw [hct] at h
            exact h.alloc _
          have HBZ : Hid (∀ (w4 : World) (ar : Option Addr) (cr : Nat), Below wr.heap.size wr.drew w4 → W1.heap.size ≤ (w4.alloc (.cells #[.slice ar Kr cr] 25)).heap.size) := fun w4 ar cr h4 => by
            have h5 : wr.heap.size ≤ w4.heap.size := h4.size
            simp
            omega
          have HALW : Hid (∀ (w4 : World) (ar : Option Addr) (cr : Nat), Below wr.heap.size wr.drew w4 → Below wr.heap.size wr.drew (w4.alloc (.cells #[.slice ar Kr cr] 25))) := fun w4 ar cr h4 => h4.alloc h4.size _
          have H632 : Hid (t + 1 ≤ maxLen) := by show t + 1 ≤ maxLen; unfold maxLen; omega
          have HF : Hid (∀ w4 ar cr, Below wr.heap.size wr.drew w4 → w4.ownsRow wr.heap.size 3 1 (.slice ar Kr cr) Kr (L.map (Value.int .i64)) → ∀ v6 w6, w6.ownsRow W1.heap.size 25 1 v6 (t + 1) (us ++ [.slice ar Kr cr]) → (w4.alloc (.cells #[.slice ar Kr cr] 25)).grownBy w6 u4.ownBlock → (v6.ownBlock = u4.ownBlock ∨ v6.ownBlock = some (w4.alloc (.cells #[.slice ar Kr cr] 25)).heap.size) → (w6.cell? ⟨O, 2, none⟩ = some u4 ∧ w6.frozen? ⟨O, 2, none⟩ = false) ∧ Below W.heap.size W w6 ∧ ∃ us', SuSt W1 (w6.setCell ⟨O, 2, none⟩ v6) O v6 us' (cutL LL (t + 1))) := fun w4 ar cr h4 ho4 v6 w6 h1 h2 h3 => by
            rw [← hLl] at ho4 h1 h2 h3
            obtain ⟨r1, r2, r3⟩ := hSd.put (L := L) h4 ho4 (by rw [hct]; exact h1) h2 h3
            refine ⟨r1, HKX.out _ r2, us ++ [.slice ar L.length cr], ?_⟩
            rw [cutL_next htr, ← HLr.out]
            exact r3
          have q1 : (t : Int) < (N : Int) := by omega
          have q2 : (0 : Int) ≤ (t : Int) := by omega
          have q5 : (t : Int) < 8 := by omega
          have hS := HSB.out wr.drew (HBZ2.out _ (Below.refl _ _))
          clear hrow hck hR hKr hLr hLl hst hSt hSd hct c0 x0 x1 x2 hbz
          cases ak with
          | none =>
            obtain rfl := hck2 rfl
            obtain rfl : R = 0 := by omega
            obtain rfl : Kr = 0 := by omega
            clear hck2 hck1 hck3 kmin kc k0 k9
            have kmin : min (0 : Int) 20 = 0 := by decide
            go_wp2_with fail
            refine wp_region_held_drew (S := (fun X : World => X.cell? ⟨b0, 2, none⟩ = some (.slice (some ⟨g, off, none⟩) N cap) ∧ X.cell? ⟨g, off + t, none⟩ = some (.slice none 0 0))) (by kernel_rfl) hS (fun hHeld => ?_)
            (refine takeW (i := 0) (dst := some 28) (v := ?_) rfl rfl (by kernel_rfl) (by kernel_rfl) (by kernel_rfl) (fun _ _ _ h => h) (Or.inl ⟨by rfl, ?_⟩) hHeld ?_; rotate_left; focus (intro w hSw; (try dsimp only at hSw); go_simp; (try with_reducible rfl); done))
            try simp only [Act.put]
            try simp only [List.setIfInBounds_toArray]
            try simp only [List.set_cons_succ]
            try simp only [List.set_cons_zero]
            (refine takeW (i := 3) (dst := some 31) (v := ?_) rfl rfl (by kernel_rfl) (by kernel_rfl) (by kernel_rfl) (fun _ _ _ h => h) (Or.inl ⟨by rfl, ?_⟩) hHeld ?_; rotate_left; focus (intro w hSw; (try dsimp only at hSw); go_simp; (try with_reducible rfl); done))
            try simp only [Act.put]
            try simp only [List.setIfInBounds_toArray]
            try simp only [List.set_cons_succ]
            try simp only [List.set_cons_zero]
            (refine takeW (i := 4) (dst := some 32) (v := ?_) rfl rfl (by kernel_rfl) (by kernel_rfl) (by kernel_rfl) (fun _ _ _ h => h) (Or.inl ⟨by rfl, ?_⟩) hHeld ?_; rotate_left; focus (intro w hSw; (try dsimp only at hSw); go_simp; (try with_reducible rfl); done))
            try simp only [Act.put]
            try simp only [List.setIfInBounds_toArray]
            try simp only [List.set_cons_succ]
            try simp only [List.set_cons_zero]
            (refine takeW (i := 5) (dst := some 33) (v := ?_) rfl rfl (by kernel_rfl) (by kernel_rfl) (by kernel_rfl) (fun _ _ _ h => h) (Or.inl ⟨by rfl, ?_⟩) hHeld ?_; rotate_left; focus (intro w hSw; (try dsimp only at hSw); go_simp; (try with_reducible rfl); done))
            try simp only [Act.put]
            try simp only [List.setIfInBounds_toArray]
            try simp only [List.set_cons_succ]
            try simp only [List.set_cons_zero]
            (refine takeW (i := 6) (dst := some 34) (v := ?_) rfl rfl (by kernel_rfl) (by kernel_rfl) (by kernel_rfl) (fun _ _ _ h => h) (Or.inl ⟨by rfl, ?_⟩) hHeld ?_; rotate_left; focus (intro w hSw; (try dsimp only at hSw); go_simp; (try with_reducible rfl); done))
            try simp only [Act.put]
            try simp only [List.setIfInBounds_toArray]
            try simp only [List.set_cons_succ]
            try simp only [List.set_cons_zero]
            (refine takeW (i := 7) (dst := some 35) (v := ?_) rfl rfl (by kernel_rfl) (by kernel_rfl) (by kernel_rfl) (fun _ _ _ h => h) (Or.inl ⟨by rfl, ?_⟩) hHeld ?_; rotate_left; focus (intro w hSw; (try dsimp only at hSw); go_simp; (try with_reducible rfl); done))
            try simp only [Act.put]
            try simp only [List.setIfInBounds_toArray]
            try simp only [List.set_cons_succ]
            try simp only [List.set_cons_zero]
            (refine takeW (i := 8) (dst := some 36) (v := ?_) rfl rfl (by kernel_rfl) (by kernel_rfl) (by kernel_rfl) (fun _ _ _ h => h) (Or.inl ⟨by rfl, ?_⟩) hHeld ?_; rotate_left; focus (intro w hSw; (try dsimp only at hSw); go_simp; (try with_reducible rfl); done))
            try simp only [Act.put]
            try simp only [List.setIfInBounds_toArray]
            try simp only [List.set_cons_succ]
            try simp only [List.set_cons_zero]
            (refine takeW (i := 9) (dst := some 37) (v := ?_) rfl rfl (by kernel_rfl) (by kernel_rfl) (by kernel_rfl) (fun _ _ _ h => h) (Or.inl ⟨by rfl, ?_⟩) hHeld ?_; rotate_left; focus (intro w hSw; (try dsimp only at hSw); go_simp; (try with_reducible rfl); done))
            try simp only [Act.put]
            try simp only [List.setIfInBounds_toArray]
            try simp only [List.set_cons_succ]
            try simp only [List.set_cons_zero]
            (refine takeW (i := 10) (dst := some 38) (v := ?_) rfl rfl (by kernel_rfl) (by kernel_rfl) (by kernel_rfl) (fun _ _ _ h => h) (Or.inl ⟨by rfl, ?_⟩) hHeld ?_; rotate_left; focus (intro w hSw; (try dsimp only at hSw); go_simp; (try with_reducible rfl); done))
            try simp only [Act.put]
            try simp only [List.setIfInBounds_toArray]
            try simp only [List.set_cons_succ]
            try simp only [List.set_cons_zero]
            (refine takeW (i := 11) (dst := some 39) (v := ?_) rfl rfl (by kernel_rfl) (by kernel_rfl) (by kernel_rfl) (fun _ _ _ h => h) (Or.inl ⟨by rfl, ?_⟩) hHeld ?_; rotate_left; focus (intro w hSw; (try dsimp only at hSw); go_simp; (try with_reducible rfl); done))
            try simp only [Act.put]
            try simp only [List.setIfInBounds_toArray]
            try simp only [List.set_cons_succ]
            try simp only [List.set_cons_zero]
            (refine takeW (i := 12) (dst := some 40) (v := ?_) rfl rfl (by kernel_rfl) (by kernel_rfl) (by kernel_rfl) (fun _ _ _ h => h) (Or.inl ⟨by rfl, ?_⟩) hHeld ?_; rotate_left; focus (intro w hSw; (try dsimp only at hSw); go_simp; (try with_reducible rfl); done))
            try simp only [Act.put]
            try simp only [List.setIfInBounds_toArray]
            try simp only [List.set_cons_succ]
            try simp only [List.set_cons_zero]
            (refine takeW (i := 13) (dst := some 41) (v := ?_) rfl rfl (by kernel_rfl) (by kernel_rfl) (by kernel_rfl) (fun _ _ _ h => h) (Or.inl ⟨by rfl, ?_⟩) hHeld ?_; rotate_left; focus (intro w hSw; (try dsimp only at hSw); go_simp; (try with_reducible rfl); done))
            try simp only [Act.put]
            try simp only [List.setIfInBounds_toArray]
            try simp only [List.set_cons_succ]
            try simp only [List.set_cons_zero]
            (refine takeW (i := 14) (dst := some 42) (v := ?_) rfl rfl (by kernel_rfl) (by kernel_rfl) (by kernel_rfl) (fun _ _ _ h => h) (Or.inl ⟨by rfl, ?_⟩) hHeld ?_; rotate_left; focus (intro w hSw; (try dsimp only at hSw); go_simp; (try with_reducible rfl); done))
            try simp only [Act.put]
            try simp only [List.setIfInBounds_toArray]
            try simp only [List.set_cons_succ]
            try simp only [List.set_cons_zero]
            (refine takeW (i := 15) (dst := some 43) (v := ?_) rfl rfl (by kernel_rfl) (by kernel_rfl) (by kernel_rfl) (fun _ _ _ h => h) (Or.inl ⟨by rfl, ?_⟩) hHeld ?_; rotate_left; focus (intro w hSw; (try dsimp only at hSw); go_simp; (try with_reducible rfl); done))
            try simp only [Act.put]
            try simp only [List.setIfInBounds_toArray]
            try simp only [List.set_cons_succ]
            try simp only [List.set_cons_zero]
            refine wpAnyH_ready (rs := [1, 2]) (by kernel_rfl) (by simp) ?_
            refine AllReadyH.cons (o := _) rfl (fun KK hK => ?_) (AllReadyH.cons (o := _) rfl (fun KK hK => ?_) AllReadyH.nil)
            next =>
             have k1 : wr.cell? ⟨O, 2, none⟩ = some u4 := HV.out wr.drew (Below.refl _ _)
             go_simp
             refine hK.out _ _ (HSB.out _ (HBZ2.out _ (Below.refl _ _))) (fun hHeld => ?_)
             clear k1
             clear hK KK
             try simp only [Act.put]
             try simp only [List.setIfInBounds_toArray]
             try simp only [List.set_cons_succ]
             try simp only [List.set_cons_zero]
             refine wpAnyH_ready (rs := [2]) (by kernel_rfl) (by simp) ?_
             refine AllReadyH.cons (o := _) rfl (fun KK hK => ?_) AllReadyH.nil
             go_simp
             refine hK.out _ _ (HSB.out _ (HBZ2.out _ HBA.out)) (fun hHeld => ?_)
             clear hK KK
             try simp only [Act.put]
             try simp only [List.setIfInBounds_toArray]
             try simp only [List.set_cons_succ]
             try simp only [List.set_cons_zero]
             refine wpAnyH_ready (rs := [16]) (by kernel_rfl) (by simp) ?_
             refine AllReadyH.cons (o := _) rfl (fun KK hK => ?_) AllReadyH.nil
             rw [if_pos (by rfl)]
             refine wp_append_any _ (.tmp 30) (.tmp 43) 25 rfl wr.heap.size 3 i0 _ 1 8 Try.underlying25 hi0 hz0 hz1 hz2 rfl (by decide) (.slice (some ⟨wr.heap.size, 0, none⟩) 0 0) 0 [] (by simp [Act.eval]) HOW.out none 0 0 (L.map (Value.int .i64)) (by simp [Act.eval]) (fun _ => ⟨rfl, rfl⟩) HLN.out HNW.out HON.out H63.out (by omega) HBS.out ?_
             intro v4 w4 hown4 hgrow4 _
             obtain ⟨ar, cr, hv4, hI4, hb4⟩ := HPUT.out v4 w4 (by simpa using hown4) hgrow4
             subst hv4
             have HI4 := hid hI4
             have HB4 := hid hb4
             have HOW2 := hid (HO2.out w4 ar cr hb4)
             have HNW2 : Hid (∀ p, some (⟨w4.heap.size, 0, none⟩ : Addr) = some p → ∀ j u, [Value.slice ar 0 cr][j]? = some u → (w4.alloc (.cells #[.slice ar 0 cr] 25)).cell? (p.add j) = some u) := news_one _
             have HON2 : Hid (∀ v ∈ [Value.slice ar 0 cr], v.oneCell' = true) := fun v hv => by simp at hv; rw [hv]; rfl
             have HFIN := hid (HF.out w4 ar cr hb4 hI4)
             have HBS2 : Hid (W1.heap.size ≤ (w4.alloc (.cells #[.slice ar 0 cr] 25)).heap.size) := HBZ.out w4 ar cr hb4
             clear hown4 hgrow4 hI4 hb4
             refine hK.out _ _ (HSB.out w4 (HBZ2.out _ HB4.out)) (fun hHeld => ?_)
             clear hK KK
             try simp only [Act.put]
             try simp only [List.setIfInBounds_toArray]
             try simp only [List.set_cons_succ]
             try simp only [List.set_cons_zero]
             refine wpAnyH_ready (rs := [17]) (by kernel_rfl) (by simp) ?_
             refine AllReadyH.cons (o := _) rfl (fun KK hK => ?_) AllReadyH.nil
             go_simp
             refine hK.out _ _ (HSB.out _ (HBZ2.out _ (HALW.out w4 ar cr HB4.out))) (fun hHeld => ?_)
             clear hK KK
             try simp only [Act.put]
             try simp only [List.setIfInBounds_toArray]
             try simp only [List.set_cons_succ]
             try simp only [List.set_cons_zero]
             refine wpAnyH_ready (rs := [18]) (by kernel_rfl) (by simp) ?_
             refine AllReadyH.cons (o := _) rfl (fun KK hK => ?_) AllReadyH.nil
             rw [if_pos (by rfl)]
             refine wp_append_any _ (.tmp 29) (.tmp 45) 26 rfl W1.heap.size 25 i1 _ 1 24 Try.underlying26 hj hy0 hy1 hy2 rfl (by decide) u4 t us (by simp [Act.eval]) HOW2.out (some ⟨w4.heap.size, 0, none⟩) 1 1 [.slice ar 0 cr] (by simp [Act.eval]) (fun h => by cases h) rfl HNW2.out HON2.out H632.out (by omega) HBS2.out ?_
             intro v6 w6 hown6 hgrow6 hat6
             obtain ⟨va6, vc6, rfl, _⟩ := sl_own hown6
             obtain ⟨⟨k1, k2⟩, hb6, us6, hst6⟩ := HFIN.out _ w6 hown6 hgrow6 (hat6.imp id (fun h => by rw [h]))
             have k3 : w6.cell? ⟨O, 2, none⟩ = some u4 := k1
             have k4 : w6.frozen? ⟨O, 2, none⟩ = false := k2
             have HB6 := hid hb6
             have HS6 := hid hst6
             have HBN : Hid (Below W.heap.size W (w6.setCell ⟨O, 2, none⟩ (.slice va6 (t + 1) vc6))) := HKX.out _ hst6.kp
             clear hown6 hgrow6 hat6 hb6 hst6
             refine hK.out _ _ (HSB.out w6 HB6.out) (fun hHeld => ?_)
             clear hK KK
             try simp only [Act.put]
             try simp only [List.setIfInBounds_toArray]
             try simp only [List.set_cons_succ]
             try simp only [List.set_cons_zero]
             (refine takeW (i := 19) (dst := some 47) (v := ?_) rfl rfl (by kernel_rfl) (by kernel_rfl) (by kernel_rfl) (fun _ _ _ h => h) (Or.inl ⟨by rfl, ?_⟩) hHeld ?_; rotate_left; focus (intro w hSw; (try dsimp only at hSw); go_simp; (try with_reducible rfl); done))
             try simp only [Act.put]
             try simp only [List.setIfInBounds_toArray]
             try simp only [List.set_cons_succ]
             try simp only [List.set_cons_zero]
             refine wpAnyH_ready (rs := [20]) (by kernel_rfl) (by simp) ?_
             refine AllReadyH.cons (o := _) rfl (fun KK hK => ?_) AllReadyH.nil
             go_simp
             refine hK.out _ _ (HSB.out _ HBN.out) (fun hHeld => ?_)
             clear hK KK
             try simp only [Act.put]
             try simp only [List.setIfInBounds_toArray]
             try simp only [List.set_cons_succ]
             try simp only [List.set_cons_zero]
             refine wpAnyH_done (by kernel_rfl) ?_ _
             have HNX : Hid (∃ v us, SuSt W1 (w6.setCell ⟨O, 2, none⟩ (.slice va6 (t + 1) vc6)) O v us (cutL LL (t + 1))) := ⟨_, _, HS6.out⟩
             clear HS6 hHeld hS HSB HF HO2 HBZ HPUT HIR HFIN HV HBN k1 k2 k3 k4 HALW
             go_wp2
             go_roundg (8 - (t + 1))
             case measure => omega
             case rel => exact ⟨t + 1, by omega, by omega, Nat.le_refl _, by go_num, HNX⟩
            next =>
             go_simp
             refine hK.out _ _ (HSB.out _ (HBZ2.out _ HBA.out)) (fun hHeld => ?_)
             clear hK KK
             try simp only [Act.put]
             try simp only [List.setIfInBounds_toArray]
             try simp only [List.set_cons_succ]
             try simp only [List.set_cons_zero]
             refine wpAnyH_ready (rs := [1, 16]) (by kernel_rfl) (by simp) ?_
             refine AllReadyH.cons (o := _) rfl (fun KK hK => ?_) (AllReadyH.cons (o := _) rfl (fun KK hK => ?_) AllReadyH.nil)
             next =>
              have k1 : (wr.alloc (.cells #[] 3)).cell? ⟨O, 2, none⟩ = some u4 := HV.out (wr.drew.alloc (.cells #[] 3)) HBA.out
              go_simp
              refine hK.out _ _ (HSB.out _ (HBZ2.out _ HBA.out)) (fun hHeld => ?_)
              clear k1
              clear hK KK
              try simp only [Act.put]
              try simp only [List.setIfInBounds_toArray]
              try simp only [List.set_cons_succ]
              try simp only [List.set_cons_zero]
              refine wpAnyH_ready (rs := [16]) (by kernel_rfl) (by simp) ?_
              refine AllReadyH.cons (o := _) rfl (fun KK hK => ?_) AllReadyH.nil
              rw [if_pos (by rfl)]
              refine wp_append_any _ (.tmp 30) (.tmp 43) 25 rfl wr.heap.size 3 i0 _ 1 8 Try.underlying25 hi0 hz0 hz1 hz2 rfl (by decide) (.slice (some ⟨wr.heap.size, 0, none⟩) 0 0) 0 [] (by simp [Act.eval]) HOW.out none 0 0 (L.map (Value.int .i64)) (by simp [Act.eval]) (fun _ => ⟨rfl, rfl⟩) HLN.out HNW.out HON.out H63.out (by omega) HBS.out ?_
              intro v4 w4 hown4 hgrow4 _
              obtain ⟨ar, cr, hv4, hI4, hb4⟩ := HPUT.out v4 w4 (by simpa using hown4) hgrow4
              subst hv4
              have HI4 := hid hI4
              have HB4 := hid hb4
              have HOW2 := hid (HO2.out w4 ar cr hb4)
              have HNW2 : Hid (∀ p, some (⟨w4.heap.size, 0, none⟩ : Addr) = some p → ∀ j u, [Value.slice ar 0 cr][j]? = some u → (w4.alloc (.cells #[.slice ar 0 cr] 25)).cell? (p.add j) = some u) := news_one _
              have HON2 : Hid (∀ v ∈ [Value.slice ar 0 cr], v.oneCell' = true) := fun v hv => by simp at hv; rw [hv]; rfl
              have HFIN := hid (HF.out w4 ar cr hb4 hI4)
              have HBS2 : Hid (W1.heap.size ≤ (w4.alloc (.cells #[.slice ar 0 cr] 25)).heap.size) := HBZ.out w4 ar cr hb4
              clear hown4 hgrow4 hI4 hb4
              refine hK.out _ _ (HSB.out w4 (HBZ2.out _ HB4.out)) (fun hHeld => ?_)
              clear hK KK
              try simp only [Act.put]
              try simp only [List.setIfInBounds_toArray]
              try simp only [List.set_cons_succ]
              try simp only [List.set_cons_zero]
              refine wpAnyH_ready (rs := [17]) (by kernel_rfl) (by simp) ?_
              refine AllReadyH.cons (o := _) rfl (fun KK hK => ?_) AllReadyH.nil
              go_simp
              refine hK.out _ _ (HSB.out _ (HBZ2.out _ (HALW.out w4 ar cr HB4.out))) (fun hHeld => ?_)
              clear hK KK
              try simp only [Act.put]
              try simp only [List.setIfInBounds_toArray]
              try simp only [List.set_cons_succ]
              try simp only [List.set_cons_zero]
              refine wpAnyH_ready (rs := [18]) (by kernel_rfl) (by simp) ?_
              refine AllReadyH.cons (o := _) rfl (fun KK hK => ?_) AllReadyH.nil
              rw [if_pos (by rfl)]
              refine wp_append_any _ (.tmp 29) (.tmp 45) 26 rfl W1.heap.size 25 i1 _ 1 24 Try.underlying26 hj hy0 hy1 hy2 rfl (by decide) u4 t us (by simp [Act.eval]) HOW2.out (some ⟨w4.heap.size, 0, none⟩) 1 1 [.slice ar 0 cr] (by simp [Act.eval]) (fun h => by cases h) rfl HNW2.out HON2.out H632.out (by omega) HBS2.out ?_
              intro v6 w6 hown6 hgrow6 hat6
              obtain ⟨va6, vc6, rfl, _⟩ := sl_own hown6
              obtain ⟨⟨k1, k2⟩, hb6, us6, hst6⟩ := HFIN.out _ w6 hown6 hgrow6 (hat6.imp id (fun h => by rw [h]))
              have k3 : w6.cell? ⟨O, 2, none⟩ = some u4 := k1
              have k4 : w6.frozen? ⟨O, 2, none⟩ = false := k2
              have HB6 := hid hb6
              have HS6 := hid hst6
              have HBN : Hid (Below W.heap.size W (w6.setCell ⟨O, 2, none⟩ (.slice va6 (t + 1) vc6))) := HKX.out _ hst6.kp
              clear hown6 hgrow6 hat6 hb6 hst6
              refine hK.out _ _ (HSB.out w6 HB6.out) (fun hHeld => ?_)
              clear hK KK
              try simp only [Act.put]
              try simp only [List.setIfInBounds_toArray]
              try simp only [List.set_cons_succ]
              try simp only [List.set_cons_zero]
              (refine takeW (i := 19) (dst := some 47) (v := ?_) rfl rfl (by kernel_rfl) (by kernel_rfl) (by kernel_rfl) (fun _ _ _ h => h) (Or.inl ⟨by rfl, ?_⟩) hHeld ?_; rotate_left; focus (intro w hSw; (try dsimp only at hSw); go_simp; (try with_reducible rfl); done))
              try simp only [Act.put]
              try simp only [List.setIfInBounds_toArray]
              try simp only [List.set_cons_succ]
              try simp only [List.set_cons_zero]
              refine wpAnyH_ready (rs := [20]) (by kernel_rfl) (by simp) ?_
              refine AllReadyH.cons (o := _) rfl (fun KK hK => ?_) AllReadyH.nil
              go_simp
              refine hK.out _ _ (HSB.out _ HBN.out) (fun hHeld => ?_)
              clear hK KK
              try simp only [Act.put]
              try simp only [List.setIfInBounds_toArray]
              try simp only [List.set_cons_succ]
              try simp only [List.set_cons_zero]
              refine wpAnyH_done (by kernel_rfl) ?_ _
              have HNX : Hid (∃ v us, SuSt W1 (w6.setCell ⟨O, 2, none⟩ (.slice va6 (t + 1) vc6)) O v us (cutL LL (t + 1))) := ⟨_, _, HS6.out⟩
              clear HS6 hHeld hS HSB HF HO2 HBZ HPUT HIR HFIN HV HBN k1 k2 k3 k4 HALW
              go_wp2
              go_roundg (8 - (t + 1))
              case measure => omega
              case rel => exact ⟨t + 1, by omega, by omega, Nat.le_refl _, by go_num, HNX⟩
             next =>
              rw [if_pos (by rfl)]
              refine wp_append_any _ (.tmp 30) (.tmp 43) 25 rfl wr.heap.size 3 i0 _ 1 8 Try.underlying25 hi0 hz0 hz1 hz2 rfl (by decide) (.slice (some ⟨wr.heap.size, 0, none⟩) 0 0) 0 [] (by simp [Act.eval]) HOW.out none 0 0 (L.map (Value.int .i64)) (by simp [Act.eval]) (fun _ => ⟨rfl, rfl⟩) HLN.out HNW.out HON.out H63.out (by omega) HBS.out ?_
              intro v4 w4 hown4 hgrow4 _
              obtain ⟨ar, cr, hv4, hI4, hb4⟩ := HPUT.out v4 w4 (by simpa using hown4) hgrow4
              subst hv4
              have HI4 := hid hI4
              have HB4 := hid hb4
              have HOW2 := hid (HO2.out w4 ar cr hb4)
              have HNW2 : Hid (∀ p, some (⟨w4.heap.size, 0, none⟩ : Addr) = some p → ∀ j u, [Value.slice ar 0 cr][j]? = some u → (w4.alloc (.cells #[.slice ar 0 cr] 25)).cell? (p.add j) = some u) := news_one _
              have HON2 : Hid (∀ v ∈ [Value.slice ar 0 cr], v.oneCell' = true) := fun v hv => by simp at hv; rw [hv]; rfl
              have HFIN := hid (HF.out w4 ar cr hb4 hI4)
              have HBS2 : Hid (W1.heap.size ≤ (w4.alloc (.cells #[.slice ar 0 cr] 25)).heap.size) := HBZ.out w4 ar cr hb4
              clear hown4 hgrow4 hI4 hb4
              refine hK.out _ _ (HSB.out w4 (HBZ2.out _ HB4.out)) (fun hHeld => ?_)
              clear hK KK
              try simp only [Act.put]
              try simp only [List.setIfInBounds_toArray]
              try simp only [List.set_cons_succ]
              try simp only [List.set_cons_zero]
              refine wpAnyH_ready (rs := [1, 17]) (by kernel_rfl) (by simp) ?_
              refine AllReadyH.cons (o := _) rfl (fun KK hK => ?_) (AllReadyH.cons (o := _) rfl (fun KK hK => ?_) AllReadyH.nil)
              next =>
               have k1 : w4.cell? ⟨O, 2, none⟩ = some u4 := HV.out w4 HB4.out
               go_simp
               refine hK.out _ _ (HSB.out _ (HBZ2.out _ HB4.out)) (fun hHeld => ?_)
               clear k1
               clear hK KK
               try simp only [Act.put]
               try simp only [List.setIfInBounds_toArray]
               try simp only [List.set_cons_succ]
               try simp only [List.set_cons_zero]
               refine wpAnyH_ready (rs := [17]) (by kernel_rfl) (by simp) ?_
               refine AllReadyH.cons (o := _) rfl (fun KK hK => ?_) AllReadyH.nil
               go_simp
               refine hK.out _ _ (HSB.out _ (HBZ2.out _ (HALW.out w4 ar cr HB4.out))) (fun hHeld => ?_)
               clear hK KK
               try simp only [Act.put]
               try simp only [List.setIfInBounds_toArray]
               try simp only [List.set_cons_succ]
               try simp only [List.set_cons_zero]
               refine wpAnyH_ready (rs := [18]) (by kernel_rfl) (by simp) ?_
               refine AllReadyH.cons (o := _) rfl (fun KK hK => ?_) AllReadyH.nil
               rw [if_pos (by rfl)]
               refine wp_append_any _ (.tmp 29) (.tmp 45) 26 rfl W1.heap.size 25 i1 _ 1 24 Try.underlying26 hj hy0 hy1 hy2 rfl (by decide) u4 t us (by simp [Act.eval]) HOW2.out (some ⟨w4.heap.size, 0, none⟩) 1 1 [.slice ar 0 cr] (by simp [Act.eval]) (fun h => by cases h) rfl HNW2.out HON2.out H632.out (by omega) HBS2.out ?_
               intro v6 w6 hown6 hgrow6 hat6
               obtain ⟨va6, vc6, rfl, _⟩ := sl_own hown6
               obtain ⟨⟨k1, k2⟩, hb6, us6, hst6⟩ := HFIN.out _ w6 hown6 hgrow6 (hat6.imp id (fun h => by rw [h]))
               have k3 : w6.cell? ⟨O, 2, none⟩ = some u4 := k1
               have k4 : w6.frozen? ⟨O, 2, none⟩ = false := k2
               have HB6 := hid hb6
               have HS6 := hid hst6
               have HBN : Hid (Below W.heap.size W (w6.setCell ⟨O, 2, none⟩ (.slice va6 (t + 1) vc6))) := HKX.out _ hst6.kp
               clear hown6 hgrow6 hat6 hb6 hst6
               refine hK.out _ _ (HSB.out w6 HB6.out) (fun hHeld => ?_)
               clear hK KK
               try simp only [Act.put]
               try simp only [List.setIfInBounds_toArray]
               try simp only [List.set_cons_succ]
               try simp only [List.set_cons_zero]
               (refine takeW (i := 19) (dst := some 47) (v := ?_) rfl rfl (by kernel_rfl) (by kernel_rfl) (by kernel_rfl) (fun _ _ _ h => h) (Or.inl ⟨by rfl, ?_⟩) hHeld ?_; rotate_left; focus (intro w hSw; (try dsimp only at hSw); go_simp; (try with_reducible rfl); done))
               try simp only [Act.put]
               try simp only [List.setIfInBounds_toArray]
               try simp only [List.set_cons_succ]
               try simp only [List.set_cons_zero]
               refine wpAnyH_ready (rs := [20]) (by kernel_rfl) (by simp) ?_
               refine AllReadyH.cons (o := _) rfl (fun KK hK => ?_) AllReadyH.nil
               go_simp
               refine hK.out _ _ (HSB.out _ HBN.out) (fun hHeld => ?_)
               clear hK KK
               try simp only [Act.put]
               try simp only [List.setIfInBounds_toArray]
               try simp only [List.set_cons_succ]
               try simp only [List.set_cons_zero]
               refine wpAnyH_done (by kernel_rfl) ?_ _
               have HNX : Hid (∃ v us, SuSt W1 (w6.setCell ⟨O, 2, none⟩ (.slice va6 (t + 1) vc6)) O v us (cutL LL (t + 1))) := ⟨_, _, HS6.out⟩
               clear HS6 hHeld hS HSB HF HO2 HBZ HPUT HIR HFIN HV HBN k1 k2 k3 k4 HALW
               go_wp2
               go_roundg (8 - (t + 1))
               case measure => omega
               case rel => exact ⟨t + 1, by omega, by omega, Nat.le_refl _, by go_num, HNX⟩
              next =>
               go_simp
               refine hK.out _ _ (HSB.out _ (HBZ2.out _ (HALW.out w4 ar cr HB4.out))) (fun hHeld => ?_)
               clear hK KK
               try simp only [Act.put]
               try simp only [List.setIfInBounds_toArray]
               try simp only [List.set_cons_succ]
               try simp only [List.set_cons_zero]
               refine wpAnyH_ready (rs := [1]) (by kernel_rfl) (by simp) ?_
               refine AllReadyH.cons (o := _) rfl (fun KK hK => ?_) AllReadyH.nil
               have k1 : (w4.alloc (.cells #[.slice ar 0 cr] 25)).cell? ⟨O, 2, none⟩ = some u4 := HV.out (w4.alloc (.cells #[.slice ar 0 cr] 25)) (HALW.out w4 ar cr HB4.out)
               have k0 : w4.cell? ⟨O, 2, none⟩ = some u4 := HV.out w4 HB4.out
               go_simp
               refine hK.out _ _ (HSB.out _ (HBZ2.out _ (HALW.out w4 ar cr HB4.out))) (fun hHeld => ?_)
               clear k1 k0
               clear hK KK
               try simp only [Act.put]
               try simp only [List.setIfInBounds_toArray]
               try simp only [List.set_cons_succ]
               try simp only [List.set_cons_zero]
               refine wpAnyH_ready (rs := [18]) (by kernel_rfl) (by simp) ?_
               refine AllReadyH.cons (o := _) rfl (fun KK hK => ?_) AllReadyH.nil
               rw [if_pos (by rfl)]
               refine wp_append_any _ (.tmp 29) (.tmp 45) 26 rfl W1.heap.size 25 i1 _ 1 24 Try.underlying26 hj hy0 hy1 hy2 rfl (by decide) u4 t us (by simp [Act.eval]) HOW2.out (some ⟨w4.heap.size, 0, none⟩) 1 1 [.slice ar 0 cr] (by simp [Act.eval]) (fun h => by cases h) rfl HNW2.out HON2.out H632.out (by omega) HBS2.out ?_
               intro v6 w6 hown6 hgrow6 hat6
               obtain ⟨va6, vc6, rfl, _⟩ := sl_own hown6
               obtain ⟨⟨k1, k2⟩, hb6, us6, hst6⟩ := HFIN.out _ w6 hown6 hgrow6 (hat6.imp id (fun h => by rw [h]))
               have k3 : w6.cell? ⟨O, 2, none⟩ = some u4 := k1
               have k4 : w6.frozen? ⟨O, 2, none⟩ = false := k2
               have HB6 := hid hb6
               have HS6 := hid hst6
               have HBN : Hid (Below W.heap.size W (w6.setCell ⟨O, 2, none⟩ (.slice va6 (t + 1) vc6))) := HKX.out _ hst6.kp
               clear hown6 hgrow6 hat6 hb6 hst6
               refine hK.out _ _ (HSB.out w6 HB6.out) (fun hHeld => ?_)
               clear hK KK
               try simp only [Act.put]
               try simp only [List.setIfInBounds_toArray]
               try simp only [List.set_cons_succ]
               try simp only [List.set_cons_zero]
               (refine takeW (i := 19) (dst := some 47) (v := ?_) rfl rfl (by kernel_rfl) (by kernel_rfl) (by kernel_rfl) (fun _ _ _ h => h) (Or.inl ⟨by rfl, ?_⟩) hHeld ?_; rotate_left; focus (intro w hSw; (try dsimp only at hSw); go_simp; (try with_reducible rfl); done))
               try simp only [Act.put]
               try simp only [List.setIfInBounds_toArray]
               try simp only [List.set_cons_succ]
               try simp only [List.set_cons_zero]
               refine wpAnyH_ready (rs := [20]) (by kernel_rfl) (by simp) ?_
               refine AllReadyH.cons (o := _) rfl (fun KK hK => ?_) AllReadyH.nil
               go_simp
               refine hK.out _ _ (HSB.out _ HBN.out) (fun hHeld => ?_)
               clear hK KK
               try simp only [Act.put]
               try simp only [List.setIfInBounds_toArray]
               try simp only [List.set_cons_succ]
               try simp only [List.set_cons_zero]
               refine wpAnyH_done (by kernel_rfl) ?_ _
               have HNX : Hid (∃ v us, SuSt W1 (w6.setCell ⟨O, 2, none⟩ (.slice va6 (t + 1) vc6)) O v us (cutL LL (t + 1))) := ⟨_, _, HS6.out⟩
               clear HS6 hHeld hS HSB HF HO2 HBZ HPUT HIR HFIN HV HBN k1 k2 k3 k4 HALW
               go_wp2
               go_roundg (8 - (t + 1))
               case measure => omega
               case rel => exact ⟨t + 1, by omega, by omega, Nat.le_refl _, by go_num, HNX⟩
          | some ad =>
            clear hck2
            go_wp2_with fail
            refine wp_region_held_drew (S := (fun X : World => X.cell? ⟨b0, 2, none⟩ = some (.slice (some ⟨g, off, none⟩) N cap) ∧ X.cell? ⟨g, off + t, none⟩ = some (.slice (some ad) R ck))) (by kernel_rfl) hS (fun hHeld => ?_)
            (refine takeW (i := 0) (dst := some 28) (v := ?_) rfl rfl (by kernel_rfl) (by kernel_rfl) (by kernel_rfl) (fun _ _ _ h => h) (Or.inl ⟨by rfl, ?_⟩) hHeld ?_; rotate_left; focus (intro w hSw; (try dsimp only at hSw); go_simp; (try with_reducible rfl); done))
            try simp only [Act.put]
            try simp only [List.setIfInBounds_toArray]
            try simp only [List.set_cons_succ]
            try simp only [List.set_cons_zero]
            (refine takeW (i := 3) (dst := some 31) (v := ?_) rfl rfl (by kernel_rfl) (by kernel_rfl) (by kernel_rfl) (fun _ _ _ h => h) (Or.inl ⟨by rfl, ?_⟩) hHeld ?_; rotate_left; focus (intro w hSw; (try dsimp only at hSw); go_simp; (try with_reducible rfl); done))
            try simp only [Act.put]
            try simp only [List.setIfInBounds_toArray]
            try simp only [List.set_cons_succ]
            try simp only [List.set_cons_zero]
            (refine takeW (i := 4) (dst := some 32) (v := ?_) rfl rfl (by kernel_rfl) (by kernel_rfl) (by kernel_rfl) (fun _ _ _ h => h) (Or.inl ⟨by rfl, ?_⟩) hHeld ?_; rotate_left; focus (intro w hSw; (try dsimp only at hSw); go_simp; (try with_reducible rfl); done))
            try simp only [Act.put]
            try simp only [List.setIfInBounds_toArray]
            try simp only [List.set_cons_succ]
            try simp only [List.set_cons_zero]
            (refine takeW (i := 5) (dst := some 33) (v := ?_) rfl rfl (by kernel_rfl) (by kernel_rfl) (by kernel_rfl) (fun _ _ _ h => h) (Or.inl ⟨by rfl, ?_⟩) hHeld ?_; rotate_left; focus (intro w hSw; (try dsimp only at hSw); go_simp; (try with_reducible rfl); done))
            try simp only [Act.put]
            try simp only [List.setIfInBounds_toArray]
            try simp only [List.set_cons_succ]
            try simp only [List.set_cons_zero]
            (refine takeW (i := 6) (dst := some 34) (v := ?_) rfl rfl (by kernel_rfl) (by kernel_rfl) (by kernel_rfl) (fun _ _ _ h => h) (Or.inl ⟨by rfl, ?_⟩) hHeld ?_; rotate_left; focus (intro w hSw; (try dsimp only at hSw); go_simp; (try with_reducible rfl); done))
            try simp only [Act.put]
            try simp only [List.setIfInBounds_toArray]
            try simp only [List.set_cons_succ]
            try simp only [List.set_cons_zero]
            (refine takeW (i := 7) (dst := some 35) (v := ?_) rfl rfl (by kernel_rfl) (by kernel_rfl) (by kernel_rfl) (fun _ _ _ h => h) (Or.inl ⟨by rfl, ?_⟩) hHeld ?_; rotate_left; focus (intro w hSw; (try dsimp only at hSw); go_simp; (try with_reducible rfl); done))
            try simp only [Act.put]
            try simp only [List.setIfInBounds_toArray]
            try simp only [List.set_cons_succ]
            try simp only [List.set_cons_zero]
            (refine takeW (i := 8) (dst := some 36) (v := ?_) rfl rfl (by kernel_rfl) (by kernel_rfl) (by kernel_rfl) (fun _ _ _ h => h) (Or.inl ⟨by rfl, ?_⟩) hHeld ?_; rotate_left; focus (intro w hSw; (try dsimp only at hSw); go_simp; (try with_reducible rfl); done))
            try simp only [Act.put]
            try simp only [List.setIfInBounds_toArray]
            try simp only [List.set_cons_succ]
            try simp only [List.set_cons_zero]
            (refine takeW (i := 9) (dst := some 37) (v := ?_) rfl rfl (by kernel_rfl) (by kernel_rfl) (by kernel_rfl) (fun _ _ _ h => h) (Or.inl ⟨by rfl, ?_⟩) hHeld ?_; rotate_left; focus (intro w hSw; (try dsimp only at hSw); go_simp; (try with_reducible rfl); done))
            try simp only [Act.put]
            try simp only [List.setIfInBounds_toArray]
            try simp only [List.set_cons_succ]
            try simp only [List.set_cons_zero]
            (refine takeW (i := 10) (dst := some 38) (v := ?_) rfl rfl (by kernel_rfl) (by kernel_rfl) (by kernel_rfl) (fun _ _ _ h => h) (Or.inl ⟨by rfl, ?_⟩) hHeld ?_; rotate_left; focus (intro w hSw; (try dsimp only at hSw); go_simp; (try with_reducible rfl); done))
            try simp only [Act.put]
            try simp only [List.setIfInBounds_toArray]
            try simp only [List.set_cons_succ]
            try simp only [List.set_cons_zero]
            (refine takeW (i := 11) (dst := some 39) (v := ?_) rfl rfl (by kernel_rfl) (by kernel_rfl) (by kernel_rfl) (fun _ _ _ h => h) (Or.inl ⟨by rfl, ?_⟩) hHeld ?_; rotate_left; focus (intro w hSw; (try dsimp only at hSw); go_simp; (try with_reducible rfl); done))
            try simp only [Act.put]
            try simp only [List.setIfInBounds_toArray]
            try simp only [List.set_cons_succ]
            try simp only [List.set_cons_zero]
            (refine takeW (i := 12) (dst := some 40) (v := ?_) rfl rfl (by kernel_rfl) (by kernel_rfl) (by kernel_rfl) (fun _ _ _ h => h) (Or.inl ⟨by rfl, ?_⟩) hHeld ?_; rotate_left; focus (intro w hSw; (try dsimp only at hSw); go_simp; (try with_reducible rfl); done))
            try simp only [Act.put]
            try simp only [List.setIfInBounds_toArray]
            try simp only [List.set_cons_succ]
            try simp only [List.set_cons_zero]
            (refine takeW (i := 13) (dst := some 41) (v := ?_) rfl rfl (by kernel_rfl) (by kernel_rfl) (by kernel_rfl) (fun _ _ _ h => h) (Or.inl ⟨by rfl, ?_⟩) hHeld ?_; rotate_left; focus (intro w hSw; (try dsimp only at hSw); go_simp; (try with_reducible rfl); done))
            try simp only [Act.put]
            try simp only [List.setIfInBounds_toArray]
            try simp only [List.set_cons_succ]
            try simp only [List.set_cons_zero]
            (refine takeW (i := 14) (dst := some 42) (v := ?_) rfl rfl (by kernel_rfl) (by kernel_rfl) (by kernel_rfl) (fun _ _ _ h => h) (Or.inl ⟨by rfl, ?_⟩) hHeld ?_; rotate_left; focus (intro w hSw; (try dsimp only at hSw); go_simp; (try with_reducible rfl); done))
            try simp only [Act.put]
            try simp only [List.setIfInBounds_toArray]
            try simp only [List.set_cons_succ]
            try simp only [List.set_cons_zero]
            (refine takeW (i := 15) (dst := some 43) (v := ?_) rfl rfl (by kernel_rfl) (by kernel_rfl) (by kernel_rfl) (fun _ _ _ h => h) (Or.inl ⟨by rfl, ?_⟩) hHeld ?_; rotate_left; focus (intro w hSw; (try dsimp only at hSw); go_simp; (try with_reducible rfl); done))
            try simp only [Act.put]
            try simp only [List.setIfInBounds_toArray]
            try simp only [List.set_cons_succ]
            try simp only [List.set_cons_zero]
            refine wpAnyH_ready (rs := [1, 2]) (by kernel_rfl) (by simp) ?_
            refine AllReadyH.cons (o := _) rfl (fun KK hK => ?_) (AllReadyH.cons (o := _) rfl (fun KK hK => ?_) AllReadyH.nil)
            next =>
             have k1 : wr.cell? ⟨O, 2, none⟩ = some u4 := HV.out wr.drew (Below.refl _ _)
             go_simp
             refine hK.out _ _ (HSB.out _ (HBZ2.out _ (Below.refl _ _))) (fun hHeld => ?_)
             clear k1
             clear hK KK
             try simp only [Act.put]
             try simp only [List.setIfInBounds_toArray]
             try simp only [List.set_cons_succ]
             try simp only [List.set_cons_zero]
             refine wpAnyH_ready (rs := [2]) (by kernel_rfl) (by simp) ?_
             refine AllReadyH.cons (o := _) rfl (fun KK hK => ?_) AllReadyH.nil
             go_simp
             refine hK.out _ _ (HSB.out _ (HBZ2.out _ HBA.out)) (fun hHeld => ?_)
             clear hK KK
             try simp only [Act.put]
             try simp only [List.setIfInBounds_toArray]
             try simp only [List.set_cons_succ]
             try simp only [List.set_cons_zero]
             refine wpAnyH_ready (rs := [16]) (by kernel_rfl) (by simp) ?_
             refine AllReadyH.cons (o := _) rfl (fun KK hK => ?_) AllReadyH.nil
             rw [if_pos (by rfl)]
             refine wp_append_any _ (.tmp 30) (.tmp 43) 25 rfl wr.heap.size 3 i0 _ 1 8 Try.underlying25 hi0 hz0 hz1 hz2 rfl (by decide) (.slice (some ⟨wr.heap.size, 0, none⟩) 0 0) 0 [] (by simp [Act.eval]) HOW.out (some ad) Kr ck (L.map (Value.int .i64)) (by simp [Act.eval]) HNIL.out HLN.out HNW.out HON.out H63.out (by omega) HBS.out ?_
             intro v4 w4 hown4 hgrow4 _
             obtain ⟨ar, cr, hv4, hI4, hb4⟩ := HPUT.out v4 w4 (by simpa using hown4) hgrow4
             subst hv4
             have HI4 := hid hI4
             have HB4 := hid hb4
             have HOW2 := hid (HO2.out w4 ar cr hb4)
             have HNW2 : Hid (∀ p, some (⟨w4.heap.size, 0, none⟩ : Addr) = some p → ∀ j u, [Value.slice ar Kr cr][j]? = some u → (w4.alloc (.cells #[.slice ar Kr cr] 25)).cell? (p.add j) = some u) := news_one _
             have HON2 : Hid (∀ v ∈ [Value.slice ar Kr cr], v.oneCell' = true) := fun v hv => by simp at hv; rw [hv]; rfl
             have HFIN := hid (HF.out w4 ar cr hb4 hI4)
             have HBS2 : Hid (W1.heap.size ≤ (w4.alloc (.cells #[.slice ar Kr cr] 25)).heap.size) := HBZ.out w4 ar cr hb4
             clear hown4 hgrow4 hI4 hb4
             refine hK.out _ _ (HSB.out w4 (HBZ2.out _ HB4.out)) (fun hHeld => ?_)
             clear hK KK
             try simp only [Act.put]
             try simp only [List.setIfInBounds_toArray]
             try simp only [List.set_cons_succ]
             try simp only [List.set_cons_zero]
             refine wpAnyH_ready (rs := [17]) (by kernel_rfl) (by simp) ?_
             refine AllReadyH.cons (o := _) rfl (fun KK hK => ?_) AllReadyH.nil
             go_simp
             refine hK.out _ _ (HSB.out _ (HBZ2.out _ (HALW.out w4 ar cr HB4.out))) (fun hHeld => ?_)
             clear hK KK
             try simp only [Act.put]
             try simp only [List.setIfInBounds_toArray]
             try simp only [List.set_cons_succ]
             try simp only [List.set_cons_zero]
             refine wpAnyH_ready (rs := [18]) (by kernel_rfl) (by simp) ?_
             refine AllReadyH.cons (o := _) rfl (fun KK hK => ?_) AllReadyH.nil
             rw [if_pos (by rfl)]
             refine wp_append_any _ (.tmp 29) (.tmp 45) 26 rfl W1.heap.size 25 i1 _ 1 24 Try.underlying26 hj hy0 hy1 hy2 rfl (by decide) u4 t us (by simp [Act.eval]) HOW2.out (some ⟨w4.heap.size, 0, none⟩) 1 1 [.slice ar Kr cr] (by simp [Act.eval]) (fun h => by cases h) rfl HNW2.out HON2.out H632.out (by omega) HBS2.out ?_
             intro v6 w6 hown6 hgrow6 hat6
             obtain ⟨va6, vc6, rfl, _⟩ := sl_own hown6
             obtain ⟨⟨k1, k2⟩, hb6, us6, hst6⟩ := HFIN.out _ w6 hown6 hgrow6 (hat6.imp id (fun h => by rw [h]))
             have k3 : w6.cell? ⟨O, 2, none⟩ = some u4 := k1
             have k4 : w6.frozen? ⟨O, 2, none⟩ = false := k2
             have HB6 := hid hb6
             have HS6 := hid hst6
             have HBN : Hid (Below W.heap.size W (w6.setCell ⟨O, 2, none⟩ (.slice va6 (t + 1) vc6))) := HKX.out _ hst6.kp
             clear hown6 hgrow6 hat6 hb6 hst6
             refine hK.out _ _ (HSB.out w6 HB6.out) (fun hHeld => ?_)
             clear hK KK
             try simp only [Act.put]
             try simp only [List.setIfInBounds_toArray]
             try simp only [List.set_cons_succ]
             try simp only [List.set_cons_zero]
             (refine takeW (i := 19) (dst := some 47) (v := ?_) rfl rfl (by kernel_rfl) (by kernel_rfl) (by kernel_rfl) (fun _ _ _ h => h) (Or.inl ⟨by rfl, ?_⟩) hHeld ?_; rotate_left; focus (intro w hSw; (try dsimp only at hSw); go_simp; (try with_reducible rfl); done))
             try simp only [Act.put]
             try simp only [List.setIfInBounds_toArray]
             try simp only [List.set_cons_succ]
             try simp only [List.set_cons_zero]
             refine wpAnyH_ready (rs := [20]) (by kernel_rfl) (by simp) ?_
             refine AllReadyH.cons (o := _) rfl (fun KK hK => ?_) AllReadyH.nil
             go_simp
             refine hK.out _ _ (HSB.out _ HBN.out) (fun hHeld => ?_)
             clear hK KK
             try simp only [Act.put]
             try simp only [List.setIfInBounds_toArray]
             try simp only [List.set_cons_succ]
             try simp only [List.set_cons_zero]
             refine wpAnyH_done (by kernel_rfl) ?_ _
             have HNX : Hid (∃ v us, SuSt W1 (w6.setCell ⟨O, 2, none⟩ (.slice va6 (t + 1) vc6)) O v us (cutL LL (t + 1))) := ⟨_, _, HS6.out⟩
             clear HS6 hHeld hS HSB HF HO2 HBZ HPUT HIR HFIN HV HBN k1 k2 k3 k4 HALW
             go_wp2
             go_roundg (8 - (t + 1))
             case measure => omega
             case rel => exact ⟨t + 1, by omega, by omega, Nat.le_refl _, by go_num, HNX⟩
            next =>
             go_simp
             refine hK.out _ _ (HSB.out _ (HBZ2.out _ HBA.out)) (fun hHeld => ?_)
             clear hK KK
             try simp only [Act.put]
             try simp only [List.setIfInBounds_toArray]
             try simp only [List.set_cons_succ]
             try simp only [List.set_cons_zero]
             refine wpAnyH_ready (rs := [1, 16]) (by kernel_rfl) (by simp) ?_
             refine AllReadyH.cons (o := _) rfl (fun KK hK => ?_) (AllReadyH.cons (o := _) rfl (fun KK hK => ?_) AllReadyH.nil)
             next =>
              have k1 : (wr.alloc (.cells #[] 3)).cell? ⟨O, 2, none⟩ = some u4 := HV.out (wr.drew.alloc (.cells #[] 3)) HBA.out
              go_simp
              refine hK.out _ _ (HSB.out _ (HBZ2.out _ HBA.out)) (fun hHeld => ?_)
              clear k1
              clear hK KK
              try simp only [Act.put]
              try simp only [List.setIfInBounds_toArray]
              try simp only [List.set_cons_succ]
              try simp only [List.set_cons_zero]
              refine wpAnyH_ready (rs := [16]) (by kernel_rfl) (by simp) ?_
              refine AllReadyH.cons (o := _) rfl (fun KK hK => ?_) AllReadyH.nil
              rw [if_pos (by rfl)]
              refine wp_append_any _ (.tmp 30) (.tmp 43) 25 rfl wr.heap.size 3 i0 _ 1 8 Try.underlying25 hi0 hz0 hz1 hz2 rfl (by decide) (.slice (some ⟨wr.heap.size, 0, none⟩) 0 0) 0 [] (by simp [Act.eval]) HOW.out (some ad) Kr ck (L.map (Value.int .i64)) (by simp [Act.eval]) HNIL.out HLN.out HNW.out HON.out H63.out (by omega) HBS.out ?_
              intro v4 w4 hown4 hgrow4 _
              obtain ⟨ar, cr, hv4, hI4, hb4⟩ := HPUT.out v4 w4 (by simpa using hown4) hgrow4
              subst hv4
              have HI4 := hid hI4
              have HB4 := hid hb4
              have HOW2 := hid (HO2.out w4 ar cr hb4)
              have HNW2 : Hid (∀ p, some (⟨w4.heap.size, 0, none⟩ : Addr) = some p → ∀ j u, [Value.slice ar Kr cr][j]? = some u → (w4.alloc (.cells #[.slice ar Kr cr] 25)).cell? (p.add j) = some u) := news_one _
              have HON2 : Hid (∀ v ∈ [Value.slice ar Kr cr], v.oneCell' = true) := fun v hv => by simp at hv; rw [hv]; rfl
              have HFIN := hid (HF.out w4 ar cr hb4 hI4)
              have HBS2 : Hid (W1.heap.size ≤ (w4.alloc (.cells #[.slice ar Kr cr] 25)).heap.size) := HBZ.out w4 ar cr hb4
              clear hown4 hgrow4 hI4 hb4
              refine hK.out _ _ (HSB.out w4 (HBZ2.out _ HB4.out)) (fun hHeld => ?_)
              clear hK KK
              try simp only [Act.put]
              try simp only [List.setIfInBounds_toArray]
              try simp only [List.set_cons_succ]
              try simp only [List.set_cons_zero]
              refine wpAnyH_ready (rs := [17]) (by kernel_rfl) (by simp) ?_
              refine AllReadyH.cons (o := _) rfl (fun KK hK => ?_) AllReadyH.nil
              go_simp
              refine hK.out _ _ (HSB.out _ (HBZ2.out _ (HALW.out w4 ar cr HB4.out))) (fun hHeld => ?_)
              clear hK KK
              try simp only [Act.put]
              try simp only [List.setIfInBounds_toArray]
              try simp only [List.set_cons_succ]
              try simp only [List.set_cons_zero]
              refine wpAnyH_ready (rs := [18]) (by kernel_rfl) (by simp) ?_
              refine AllReadyH.cons (o := _) rfl (fun KK hK => ?_) AllReadyH.nil
              rw [if_pos (by rfl)]
              refine wp_append_any _ (.tmp 29) (.tmp 45) 26 rfl W1.heap.size 25 i1 _ 1 24 Try.underlying26 hj hy0 hy1 hy2 rfl (by decide) u4 t us (by simp [Act.eval]) HOW2.out (some ⟨w4.heap.size, 0, none⟩) 1 1 [.slice ar Kr cr] (by simp [Act.eval]) (fun h => by cases h) rfl HNW2.out HON2.out H632.out (by omega) HBS2.out ?_
              intro v6 w6 hown6 hgrow6 hat6
              obtain ⟨va6, vc6, rfl, _⟩ := sl_own hown6
              obtain ⟨⟨k1, k2⟩, hb6, us6, hst6⟩ := HFIN.out _ w6 hown6 hgrow6 (hat6.imp id (fun h => by rw [h]))
              have k3 : w6.cell? ⟨O, 2, none⟩ = some u4 := k1
              have k4 : w6.frozen? ⟨O, 2, none⟩ = false := k2
              have HB6 := hid hb6
              have HS6 := hid hst6
              have HBN : Hid (Below W.heap.size W (w6.setCell ⟨O, 2, none⟩ (.slice va6 (t + 1) vc6))) := HKX.out _ hst6.kp
              clear hown6 hgrow6 hat6 hb6 hst6
              refine hK.out _ _ (HSB.out w6 HB6.out) (fun hHeld => ?_)
              clear hK KK
              try simp only [Act.put]
              try simp only [List.setIfInBounds_toArray]
              try simp only [List.set_cons_succ]
              try simp only [List.set_cons_zero]
              (refine takeW (i := 19) (dst := some 47) (v := ?_) rfl rfl (by kernel_rfl) (by kernel_rfl) (by kernel_rfl) (fun _ _ _ h => h) (Or.inl ⟨by rfl, ?_⟩) hHeld ?_; rotate_left; focus (intro w hSw; (try dsimp only at hSw); go_simp; (try with_reducible rfl); done))
              try simp only [Act.put]
              try simp only [List.setIfInBounds_toArray]
              try simp only [List.set_cons_succ]
              try simp only [List.set_cons_zero]
              refine wpAnyH_ready (rs := [20]) (by kernel_rfl) (by simp) ?_
              refine AllReadyH.cons (o := _) rfl (fun KK hK => ?_) AllReadyH.nil
              go_simp
              refine hK.out _ _ (HSB.out _ HBN.out) (fun hHeld => ?_)
              clear hK KK
              try simp only [Act.put]
              try simp only [List.setIfInBounds_toArray]
              try simp only [List.set_cons_succ]
              try simp only [List.set_cons_zero]
              refine wpAnyH_done (by kernel_rfl) ?_ _
              have HNX : Hid (∃ v us, SuSt W1 (w6.setCell ⟨O, 2, none⟩ (.slice va6 (t + 1) vc6)) O v us (cutL LL (t + 1))) := ⟨_, _, HS6.out⟩
              clear HS6 hHeld hS HSB HF HO2 HBZ HPUT HIR HFIN HV HBN k1 k2 k3 k4 HALW
              go_wp2
              go_roundg (8 - (t + 1))
              case measure => omega
              case rel => exact ⟨t + 1, by omega, by omega, Nat.le_refl _, by go_num, HNX⟩
             next =>
              rw [if_pos (by rfl)]
              refine wp_append_any _ (.tmp 30) (.tmp 43) 25 rfl wr.heap.size 3 i0 _ 1 8 Try.underlying25 hi0 hz0 hz1 hz2 rfl (by decide) (.slice (some ⟨wr.heap.size, 0, none⟩) 0 0) 0 [] (by simp [Act.eval]) HOW.out (some ad) Kr ck (L.map (Value.int .i64)) (by simp [Act.eval]) HNIL.out HLN.out HNW.out HON.out H63.out (by omega) HBS.out ?_
              intro v4 w4 hown4 hgrow4 _
              obtain ⟨ar, cr, hv4, hI4, hb4⟩ := HPUT.out v4 w4 (by simpa using hown4) hgrow4
              subst hv4
              have HI4 := hid hI4
              have HB4 := hid hb4
              have HOW2 := hid (HO2.out w4 ar cr hb4)
              have HNW2 : Hid (∀ p, some (⟨w4.heap.size, 0, none⟩ : Addr) = some p → ∀ j u, [Value.slice ar Kr cr][j]? = some u → (w4.alloc (.cells #[.slice ar Kr cr] 25)).cell? (p.add j) = some u) := news_one _
              have HON2 : Hid (∀ v ∈ [Value.slice ar Kr cr], v.oneCell' = true) := fun v hv => by simp at hv; rw [hv]; rfl
              have HFIN := hid (HF.out w4 ar cr hb4 hI4)
              have HBS2 : Hid (W1.heap.size ≤ (w4.alloc (.cells #[.slice ar Kr cr] 25)).heap.size) := HBZ.out w4 ar cr hb4
              clear hown4 hgrow4 hI4 hb4
              refine hK.out _ _ (HSB.out w4 (HBZ2.out _ HB4.out)) (fun hHeld => ?_)
              clear hK KK
              try simp only [Act.put]
              try simp only [List.setIfInBounds_toArray]
              try simp only [List.set_cons_succ]
              try simp only [List.set_cons_zero]
              refine wpAnyH_ready (rs := [1, 17]) (by kernel_rfl) (by simp) ?_
              refine AllReadyH.cons (o := _) rfl (fun KK hK => ?_) (AllReadyH.cons (o := _) rfl (fun KK hK => ?_) AllReadyH.nil)
              next =>
               have k1 : w4.cell? ⟨O, 2, none⟩ = some u4 := HV.out w4 HB4.out
               go_simp
               refine hK.out _ _ (HSB.out _ (HBZ2.out _ HB4.out)) (fun hHeld => ?_)
               clear k1
               clear hK KK
               try simp only [Act.put]
               try simp only [List.setIfInBounds_toArray]
               try simp only [List.set_cons_succ]
               try simp only [List.set_cons_zero]
               refine wpAnyH_ready (rs := [17]) (by kernel_rfl) (by simp) ?_
               refine AllReadyH.cons (o := _) rfl (fun KK hK => ?_) AllReadyH.nil
               go_simp
               refine hK.out _ _ (HSB.out _ (HBZ2.out _ (HALW.out w4 ar cr HB4.out))) (fun hHeld => ?_)
               clear hK KK
               try simp only [Act.put]
               try simp only [List.setIfInBounds_toArray]
               try simp only [List.set_cons_succ]
               try simp only [List.set_cons_zero]
               refine wpAnyH_ready (rs := [18]) (by kernel_rfl) (by simp) ?_
               refine AllReadyH.cons (o := _) rfl (fun KK hK => ?_) AllReadyH.nil
               rw [if_pos (by rfl)]
               refine wp_append_any _ (.tmp 29) (.tmp 45) 26 rfl W1.heap.size 25 i1 _ 1 24 Try.underlying26 hj hy0 hy1 hy2 rfl (by decide) u4 t us (by simp [Act.eval]) HOW2.out (some ⟨w4.heap.size, 0, none⟩) 1 1 [.slice ar Kr cr] (by simp [Act.eval]) (fun h => by cases h) rfl HNW2.out HON2.out H632.out (by omega) HBS2.out ?_
               intro v6 w6 hown6 hgrow6 hat6
               obtain ⟨va6, vc6, rfl, _⟩ := sl_own hown6
               obtain ⟨⟨k1, k2⟩, hb6, us6, hst6⟩ := HFIN.out _ w6 hown6 hgrow6 (hat6.imp id (fun h => by rw [h]))
               have k3 : w6.cell? ⟨O, 2, none⟩ = some u4 := k1
               have k4 : w6.frozen? ⟨O, 2, none⟩ = false := k2
               have HB6 := hid hb6
               have HS6 := hid hst6
               have HBN : Hid (Below W.heap.size W (w6.setCell ⟨O, 2, none⟩ (.slice va6 (t + 1) vc6))) := HKX.out _ hst6.kp
               clear hown6 hgrow6 hat6 hb6 hst6
               refine hK.out _ _ (HSB.out w6 HB6.out) (fun hHeld => ?_)
               clear hK KK
               try simp only [Act.put]
               try simp only [List.setIfInBounds_toArray]
               try simp only [List.set_cons_succ]
               try simp only [List.set_cons_zero]
               (refine takeW (i := 19) (dst := some 47) (v := ?_) rfl rfl (by kernel_rfl) (by kernel_rfl) (by kernel_rfl) (fun _ _ _ h => h) (Or.inl ⟨by rfl, ?_⟩) hHeld ?_; rotate_left; focus (intro w hSw; (try dsimp only at hSw); go_simp; (try with_reducible rfl); done))
               try simp only [Act.put]
               try simp only [List.setIfInBounds_toArray]
               try simp only [List.set_cons_succ]
               try simp only [List.set_cons_zero]
               refine wpAnyH_ready (rs := [20]) (by kernel_rfl) (by simp) ?_
               refine AllReadyH.cons (o := _) rfl (fun KK hK => ?_) AllReadyH.nil
               go_simp
               refine hK.out _ _ (HSB.out _ HBN.out) (fun hHeld => ?_)
               clear hK KK
               try simp only [Act.put]
               try simp only [List.setIfInBounds_toArray]
               try simp only [List.set_cons_succ]
               try simp only [List.set_cons_zero]
               refine wpAnyH_done (by kernel_rfl) ?_ _
               have HNX : Hid (∃ v us, SuSt W1 (w6.setCell ⟨O, 2, none⟩ (.slice va6 (t + 1) vc6)) O v us (cutL LL (t + 1))) := ⟨_, _, HS6.out⟩
               clear HS6 hHeld hS HSB HF HO2 HBZ HPUT HIR HFIN HV HBN k1 k2 k3 k4 HALW
               go_wp2
               go_roundg (8 - (t + 1))
               case measure => omega
               case rel => exact ⟨t + 1, by omega, by omega, Nat.le_refl _, by go_num, HNX⟩
              next =>
               go_simp
               refine hK.out _ _ (HSB.out _ (HBZ2.out _ (HALW.out w4 ar cr HB4.out))) (fun hHeld => ?_)
               clear hK KK
               try simp only [Act.put]
               try simp only [List.setIfInBounds_toArray]
               try simp only [List.set_cons_succ]
               try simp only [List.set_cons_zero]
               refine wpAnyH_ready (rs := [1]) (by kernel_rfl) (by simp) ?_
               refine AllReadyH.cons (o := _) rfl (fun KK hK => ?_) AllReadyH.nil
               have k1 : (w4.alloc (.cells #[.slice ar Kr cr] 25)).cell? ⟨O, 2, none⟩ = some u4 := HV.out (w4.alloc (.cells #[.slice ar Kr cr] 25)) (HALW.out w4 ar cr HB4.out)
               have k0 : w4.cell? ⟨O, 2, none⟩ = some u4 := HV.out w4 HB4.out
               go_simp
               refine hK.out _ _ (HSB.out _ (HBZ2.out _ (HALW.out w4 ar cr HB4.out))) (fun hHeld => ?_)
               clear k1 k0
               clear hK KK
               try simp only [Act.put]
               try simp only [List.setIfInBounds_toArray]
               try simp only [List.set_cons_succ]
               try simp only [List.set_cons_zero]
               refine wpAnyH_ready (rs := [18]) (by kernel_rfl) (by simp) ?_
               refine AllReadyH.cons (o := _) rfl (fun KK hK => ?_) AllReadyH.nil
               rw [if_pos (by rfl)]
               refine wp_append_any _ (.tmp 29) (.tmp 45) 26 rfl W1.heap.size 25 i1 _ 1 24 Try.underlying26 hj hy0 hy1 hy2 rfl (by decide) u4 t us (by simp [Act.eval]) HOW2.out (some ⟨w4.heap.size, 0, none⟩) 1 1 [.slice ar Kr cr] (by simp [Act.eval]) (fun h => by cases h) rfl HNW2.out HON2.out H632.out (by omega) HBS2.out ?_
               intro v6 w6 hown6 hgrow6 hat6
               obtain ⟨va6, vc6, rfl, _⟩ := sl_own hown6
               obtain ⟨⟨k1, k2⟩, hb6, us6, hst6⟩ := HFIN.out _ w6 hown6 hgrow6 (hat6.imp id (fun h => by rw [h]))
               have k3 : w6.cell? ⟨O, 2, none⟩ = some u4 := k1
               have k4 : w6.frozen? ⟨O, 2, none⟩ = false := k2
               have HB6 := hid hb6
               have HS6 := hid hst6
               have HBN : Hid (Below W.heap.size W (w6.setCell ⟨O, 2, none⟩ (.slice va6 (t + 1) vc6))) := HKX.out _ hst6.kp
               clear hown6 hgrow6 hat6 hb6 hst6
               refine hK.out _ _ (HSB.out w6 HB6.out) (fun hHeld => ?_)
               clear hK KK
               try simp only [Act.put]
               try simp only [List.setIfInBounds_toArray]
               try simp only [List.set_cons_succ]
               try simp only [List.set_cons_zero]
               (refine takeW (i := 19) (dst := some 47) (v := ?_) rfl rfl (by kernel_rfl) (by kernel_rfl) (by kernel_rfl) (fun _ _ _ h => h) (Or.inl ⟨by rfl, ?_⟩) hHeld ?_; rotate_left; focus (intro w hSw; (try dsimp only at hSw); go_simp; (try with_reducible rfl); done))
               try simp only [Act.put]
               try simp only [List.setIfInBounds_toArray]
               try simp only [List.set_cons_succ]
               try simp only [List.set_cons_zero]
               refine wpAnyH_ready (rs := [20]) (by kernel_rfl) (by simp) ?_
               refine AllReadyH.cons (o := _) rfl (fun KK hK => ?_) AllReadyH.nil
               go_simp
               refine hK.out _ _ (HSB.out _ HBN.out) (fun hHeld => ?_)
               clear hK KK
               try simp only [Act.put]
               try simp only [List.setIfInBounds_toArray]
               try simp only [List.set_cons_succ]
               try simp only [List.set_cons_zero]
               refine wpAnyH_done (by kernel_rfl) ?_ _
               have HNX : Hid (∃ v us, SuSt W1 (w6.setCell ⟨O, 2, none⟩ (.slice va6 (t + 1) vc6)) O v us (cutL LL (t + 1))) := ⟨_, _, HS6.out⟩
               clear HS6 hHeld hS HSB HF HO2 HBZ HPUT HIR HFIN HV HBN k1 k2 k3 k4 HALW
               go_wp2
               go_roundg (8 - (t + 1))
               case measure => omega
               case rel => exact ⟨t + 1, by omega, by omega, Nat.le_refl _, by go_num, HNX⟩
        · rw [decide_eq_false hgo]
          have et : cutL LL t = cut8 LL := by
            unfold cut8
            rw [← HL.out, show min N 8 = t by omega]
          rw [et] at hSt
          obtain ⟨av, cv, hv, _⟩ := sl_own hSt.rw.own
          subst hv
          have d0 := hSt.k0.trans HP.out.1
          have d1 := hSt.k1.trans HP.out.2
          have d2 := hSt.c2
          obtain ⟨_, o1, hbw⟩ := HBX.out wr (HKX.out wr hSt.kp)
          obtain ⟨⟨z0, zf0⟩, ⟨z1, zf1⟩, ⟨z2, zf2⟩⟩ := zero_three o1
          obtain ⟨M, hM⟩ := ex_eq (cut8 LL).length
          have HM := hid hM
          have HFI : Hid (SmallS kk T6 (cut8 LL) w (((wr.setCell ⟨b0 + 1, 0, none⟩ (.int .i64 kk)).setCell ⟨b0 + 1, 1, none⟩ (.slice a1 n6 c1)).setCell ⟨b0 + 1, 2, none⟩ (.slice av M cv)) (.agg #[.int .i64 kk, .slice a1 n6 c1, .slice av M cv])) := by
            rw [hM]
            have hkk := kept_three wr (b0 + 1) (.int .i64 kk) (.slice a1 n6 c1) (.slice av (cut8 LL).length cv)
            refine ⟨a1, c1, av, cv, by rw [← HN6.out], ?_, (hSt.rw.kept hkk (fun q hq _ e => by omega)).lls, ?_⟩
            · refine (HIT1.out.kept hSt.kp (fun g off e h0 => (HNE1.out g off e h0).1)).kept hkk (fun g off e h0 e2 => ?_)
              have := (HNE1.out g off e h0).2
              omega
            · rw [← HB0.out]
              exact below_three hbw (Nat.le_succ _) _ _ _
          rw [← hM] at d2
          clear hst hSt hgo et o1 hM hbz x0 x1 x2 hbw
          go_wp2
          refine bodyPost_ret (v := .agg #[.int .i64 kk, .slice a1 n6 c1, .slice av M cv]) ?_ rfl ⟨_, rfl, HFI.out⟩
          rw [results_cell1 rfl]
          go_simp
end Go.Proofs.Ytckcbaegehfkoaa
