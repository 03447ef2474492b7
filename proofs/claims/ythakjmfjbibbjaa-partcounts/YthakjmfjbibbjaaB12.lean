/-
  The document's components (Of of layer 4).
  carcanetlaw04.PartCounts answers true, for any part that keeps the contracts.
-/
import Derived.Test.YthakjmfjbibbjaaB07
import Derived.Test.YthakjmfjbibbjaaB11
import Derived.Test.YthakjmfjbibbjaaLPOrder
namespace Go.Proofs.Ythakjmfjbibbjaa
open Go.RowKit Go.Lib

theorem LLOwn.weaken {A A' : Nat → Prop} {w : World} {base base' : Nat} {v : Value} {us : List Value} {LL : List (List Int)} (h : LLOwn w base A v us LL) (hb : base' ≤ base) (hA : ∀ k, A k → A' k) : LLOwn w base' A' v us LL :=
  ⟨own_lower h.1 hb, h.2.1, fun g hg => hA g (h.2.2.1 g hg), fun k hk => by
    obtain ⟨ak, ck, h1, h2, h3⟩ := h.2.2.2 k hk
    exact ⟨ak, ck, h1, h2, fun g off ha h0 => ⟨hA g (h3 g off ha h0).1, (h3 g off ha h0).2⟩⟩⟩
theorem RowB.kept {S : Nat → Prop} {w w' : World} {g n : Nat} {c : Nat → Bool} (h : RowB w g n c) (hk : KeptBut S w w') (hs : ¬ S g) : RowB w' g n c :=
  ⟨Nat.lt_of_lt_of_le h.1 hk.size, fun j hj => ⟨(hk.cell (p := ⟨g, j, none⟩) h.1 hs).trans (h.2 j hj).1, (hk.frozen (p := ⟨g, j, none⟩) h.1 hs).trans (h.2 j hj).2⟩⟩
theorem own_oneI (w : World) (x : Int) : (w.alloc (.cells #[.int .i64 x] 3 (0, 0))).ownsRow w.heap.size 3 1 (.slice (some ⟨w.heap.size, 0, none⟩) 1 1) 1 [.int .i64 x] :=
  ⟨rfl, Or.inr ⟨w.heap.size, 1, #[.int .i64 x], rfl, Nat.le_refl _, heap_alloc_new _ _, Nat.le_refl _, by unfold maxLen; omega, rfl, rfl⟩⟩
theorem own_cell {w : World} {base : Nat} {e : TypeId} {v : Value} {ls : List Int} (h : w.ownsRow base e 1 v ls.length (ls.map (Value.int .i64))) {i : Nat} (hi : i < ls.length) : ∃ g cap, v = .slice (some ⟨g, 0, none⟩) ls.length cap ∧ base ≤ g ∧ w.cell? ⟨g, i, none⟩ = some (.int .i64 ls[i]) := by
  obtain ⟨g, cap, hv, hb, hg, hc, hcs⟩ := own_row h (by omega)
  exact ⟨g, cap, hv, hb, hcs i _ (by simp [hi])⟩
/-- Who has been seen: the classes ahead of t, and what has been reached. -/
theorem seen_skip {n : Nat} {f : Nat → Nat} (h : Pt n f) {t : Nat} (ht : f t < t) : ∀ u, u < n → decide (f u < t) = decide (f u < t + 1) := fun u hu => by
  refine decide_eq_decide.2 ⟨fun h1 => by omega, fun h1 => ?_⟩
  by_cases e : f u = t
  · have := h.idem u hu
    rw [e] at this
    omega
  · omega
theorem seen_done {n : Nat} {f : Nat → Nat} {t : Nat} {ls : List Int} (hs : srt [] ls = classF n f t) : ∀ u, u < n → decide (f u < t ∨ (u : Int) ∈ ls) = decide (f u < t + 1) := fun u hu => by
  have h1 : (u : Int) ∈ ls ↔ f u = t := by
    have h2 : (u : Int) ∈ srt [] ls ↔ (u : Int) ∈ classF n f t := by rw [hs]
    rw [srt_mem, mem_class_nat] at h2
    simp only [List.not_mem_nil, false_or] at h2
    rw [h2]
    exact ⟨fun h => h.2, fun h => ⟨hu, h⟩⟩
  refine decide_eq_decide.2 ?_
  rw [h1]
  omega
theorem seen_one {n : Nat} {f : Nat → Nat} {t : Nat} : ∀ u, u < n → (if u = t then true else decide (f u < t)) = decide (f u < t ∨ (u : Int) ∈ [(t : Int)]) := fun u _ => by
  by_cases e : u = t
  · rw [if_pos e]; exact (decide_eq_true (Or.inr (by simp [e]))).symm
  · rw [if_neg e]
    refine decide_eq_decide.2 ⟨Or.inl, fun h => h.elim id (fun h => by simp at h; omega)⟩
theorem seen_put {n : Nat} {f : Nat → Nat} {t v : Nat} {ls : List Int} : ∀ u, u < n → (if u = v then true else decide (f u < t ∨ (u : Int) ∈ ls)) = decide (f u < t ∨ (u : Int) ∈ ls ++ [(v : Int)]) := fun u _ => by
  by_cases e : u = v
  · rw [if_pos e]; exact (decide_eq_true (Or.inr (by simp [e]))).symm
  · rw [if_neg e]
    refine decide_eq_decide.2 ⟨fun h => h.imp id (fun h => List.mem_append_left _ h), fun h => h.imp id (fun h => ?_)⟩
    rcases List.mem_append.1 h with h | h
    · exact h
    · simp at h; omega

theorem of_put {wo wr w4 : World} {Bi s m v : Nat} {c : Nat → Bool} {v6 v4 : Value} {ls L : List Int} {a8 : Option Addr} {X : Obj} (hown : wr.ownsRow Bi 3 1 v6 ls.length (ls.map (Value.int .i64))) (hrow : RowB wr s m c) (hI : IAt wr a8 L)
    (hne : ∀ g off, a8 = some ⟨g, off, none⟩ → 0 < L.length → g ≠ s ∧ v6.ownBlock ≠ some g) (hkp : KeptBut (fun k => k = s ∨ Bi ≤ k) wo wr) (hsB : s < Bi) (hv : v < m)
    (hg : ((wr.setCell ⟨s, v, none⟩ (.bool true)).alloc X).grownBy w4 v6.ownBlock) (hat : v4.ownBlock = v6.ownBlock ∨ v4.ownBlock = some ((wr.setCell ⟨s, v, none⟩ (.bool true)).alloc X).heap.size) :
    RowB w4 s m (fun j => if j = v then true else c j) ∧ IAt w4 a8 L ∧ (∀ g off, a8 = some ⟨g, off, none⟩ → 0 < L.length → g ≠ s ∧ v4.ownBlock ≠ some g) ∧ KeptBut (fun k => k = s ∨ Bi ≤ k) wo w4 := by
  have k1 : KeptBut (fun k => k = s) wr (wr.setCell ⟨s, v, none⟩ (.bool true)) := kept_set _ ⟨s, v, none⟩ _
  have k2 : KeptBut (fun k => some k = v6.ownBlock) (wr.setCell ⟨s, v, none⟩ (.bool true)) w4 := (kept_alloc _ X _).trans (KeptBut.of_grown hg)
  have hbl : ∀ g, v6.ownBlock = some g → Bi ≤ g := fun g e => (hown.lt g e).1
  refine ⟨(hrow.put hv true).kept k2 (fun e => by have := hbl s e.symm; omega), (hI.kept k1 (fun g off ha h0 => (hne g off ha h0).1)).kept k2 (fun g off ha h0 e => (hne g off ha h0).2 e.symm), fun g off ha h0 => ⟨(hne g off ha h0).1, fun e => ?_⟩, ?_⟩
  · rcases hat with h | h
    · exact (hne g off ha h0).2 (h.symm.trans e)
    · obtain ⟨g', off', ha', hg', _⟩ := hI h0
      rw [ha] at ha'
      cases ha'
      rw [h] at e
      simp at e
      omega
  · refine hkp.trans ((k1.mono (fun k _ e => Or.inl e)).trans (k2.mono (fun k _ e => Or.inr (hbl k e.symm))))

set_option maxHeartbeats 4000000 in
set_option maxRecDepth 100000 in
theorem rof_any (n : Int) (a : Option Addr) (cap : Nat) (es : List (Int × Int)) (b : Bool) (f : Nat → Nat) (w : World) (hN : es.length ≤ 1000000) (hE : EAt w a es) (hb : b = true ↔ RightG n es) (hP : b = true → Pt n.toNat f ∧ Tells n.toNat f (prsN es)) :
    Calls Try.prog 23 #[.agg #[.int .i64 n, .slice a es.length cap]] w fun e w' => ∃ v, e = .returned v ∧ LLIs w w' v (if b = true then classesF n.toNat f else []) := by
  obtain ⟨i0, hi, hz0, hz1, hz2⟩ := info_parts Try.info3
  obtain ⟨i1, hj, hy0, hy1, hy2⟩ := info_parts Try.info42
  obtain ⟨N, hNe⟩ := ex_eq es.length
  have HRI : Hid (∀ W, EAt W a es → Calls Try.prog 40 #[.agg #[.int .i64 n, .slice a N cap]] W fun e w' => e = .returned (.bool b) ∧ Below W.heap.size W w') := fun W h => by rw [hNe]; exact rright_any n a cap es b W hN h hb
  rw [← hNe] at hN ⊢
  have HN := hid hNe
  have HE := hid hE
  have HB := hid hb
  have HP := hid hP
  obtain ⟨b0, hb0⟩ := ex_eq w.heap.size
  have HB0 := hid hb0
  obtain ⟨W0, hW0, hsz, o1, o2, hB0⟩ := new_two w (.cells #[.int .i64 n, .slice a N cap] 38) (.cells #[] 42)
  have HG0 : Hid (GC W0 b0 n a N cap es) := by
    show GC W0 _ _ _ _ _ _
    rw [hb0]; exact ⟨cell_of_heap o1 0, cell_of_heap o1 1, hE.below hB0⟩
  have HL0 : Hid (∀ A : Nat → Prop, A (b0 + 1) → LLOwn W0 (b0 + 1) A (.slice (some ⟨b0 + 1, 0, none⟩) 0 0) [] []) := fun A hA => by
    refine ⟨⟨rfl, Or.inr ⟨b0 + 1, 0, #[], rfl, Nat.le_refl _, by rw [hb0]; exact o2, Nat.le_refl _, Nat.zero_le _, rfl, rfl⟩⟩, rfl, fun g hg => by cases hg; exact hA, fun k hk => absurd hk (by simp)⟩
  rw [← hb0] at hsz hB0
  have HW0 := hid hW0
  clear hNe hE hb hP hW0 o1 o2 hb0
  go_enter Try.func23, Try.ntmps23
  go_wp2_with fail
  rw [← HW0.out, ← HB0.out]
  refine (HRI.out _ HG0.out.at_).mono ?_
  rintro e w1 ⟨rfl, hb1⟩
  have HL1 : Hid (∀ A : Nat → Prop, A (b0 + 1) → LLOwn w1 (b0 + 1) A (.slice (some ⟨b0 + 1, 0, none⟩) 0 0) [] []) := fun A hA => (HL0.out A hA).below hb1
  have HG1 := hid (HG0.out.on hb1)
  have hbw : Below b0 w w1 := hB0.trans (hb1.mono (by omega))
  have hs1 : b0 + 2 ≤ w1.heap.size := by have := hb1.size; omega
  clear hb1 HL0 HG0 hB0 HW0 HRI
  cases b with
  | false =>
    go_wp2
    go_ret
    refine ⟨_, rfl, ⟨[], ?_⟩, ?_⟩
    · rw [← HB0.out]; exact (HL1.out (fun k => b0 ≤ k) (Nat.le_succ _)).weaken (Nat.le_succ _) (fun _ h => h)
    · rw [← HB0.out]; exact hbw
  | true =>
    have HR : Hid (RightG n es) := HB.out.1 rfl
    obtain ⟨m, rfl⟩ : ∃ m : Nat, n = m := ⟨n.toNat, by have := HR.out.1; omega⟩
    have hm : m ≤ 1000 := by have := HR.out.2.1; omega
    obtain ⟨hPt0, hT0⟩ := HP.out rfl
    have HPT : Hid (Pt m f) := hPt0
    have HT : Hid (Tells m f (prsN es)) := hT0
    obtain ⟨s, hs⟩ := ex_eq w1.heap.size
    have HS := hid hs
    obtain ⟨i2, hk, hx0, hx1, hx2⟩ := info_parts Try.info4
    obtain ⟨w2, hrun, hown, hgrow⟩ := run_make_full (P := Try.prog) w1 w1.heap.size 41 4 i2 (.bool false) 1 Try.underlying41 hk hx0 hx1 .i64 .i64 m (by rw [hx2]; omega) (by unfold maxLen; omega) (Nat.le_refl _)
    have HRW : Hid (RowB w2 s m (fun u => decide (f u < 0))) := by
      show RowB w2 s m _
      rw [hs]; exact (rowB_made hown).congr (fun j _ => by simp)
    have hb2 : Below w1.heap.size w1 w2 := Below.grown (Below.refl _ _) hgrow (Nat.le_refl _) (fun k hk => by cases hk)
    have HL2 : Hid (∃ us, LLOwn w2 (b0 + 1) (fun k => b0 < k ∧ k ≠ s) (.slice (some ⟨b0 + 1, 0, none⟩) 0 0) us (clsTo m f 0)) := ⟨[], (HL1.out _ ⟨by omega, by omega⟩).below hb2⟩
    have HGV : Hid (∀ X, Below (b0 + 1) w1 X → GC X b0 m a N cap es) := fun X hX => by
      obtain ⟨g0, g1⟩ := HG1.out.cells
      refine ⟨(hX.cell (p := ⟨b0, 0, none⟩) (Nat.lt_succ_self _)).trans g0, (hX.cell (p := ⟨b0, 1, none⟩) (Nat.lt_succ_self _)).trans g1, ?_⟩
      have h1 : Below b0 w X := hbw.trans (hX.mono (Nat.le_succ _))
      exact HE.out.below (by rw [← HB0.out]; exact h1)
    obtain ⟨g0, g1⟩ := HG1.out.cells
    have hb3 : Below (b0 + 1) w1 w2 := hb2.mono (by omega)
    rw [← hs] at hrun
    clear hown hgrow hk hx0 hx1 hx2 hs HL1 HP HB hb2
    go_wp2
    clear hrun g0 g1 hPt0 hT0 HG1
    have hs0 : b0 + 2 ≤ s := by rw [HS.out]; exact hs1
    go_loopg [3, 5] m (fun G v i wz => ∃ t : Nat, t ≤ m ∧ m - t ≤ G ∧ i = .int .i64 t ∧ Hid (∃ us, LLOwn wz (b0 + 1) (fun k => b0 < k ∧ k ≠ s) v us (clsTo m f t)) ∧ Hid (RowB wz s m (fun u => decide (f u < t))) ∧ Below (b0 + 1) w1 wz)
    case atStart => exact ⟨0, Nat.zero_le _, by omega, rfl, HL2, HRW, hb3⟩
    case round =>
      obtain ⟨t, ht, hG, rfl, hll, hrow, hbr⟩ := hrel
      obtain ⟨wo, hwo⟩ := ex_eq wr
      subst hwo
      obtain ⟨g0, g1⟩ := (HGV.out wo hbr).cells
      by_cases hlt : t < m
      · have q1 : (t : Int) < (m : Int) := by omega
        obtain ⟨st, sf⟩ := hrow.out.2 t hlt
        dsimp only at st
        by_cases hft : f t < t
        · rw [decide_eq_true hft] at st
          have HNX : Hid (∃ us, LLOwn wo (b0 + 1) (fun k => b0 < k ∧ k ≠ s) u3 us (clsTo m f (t + 1))) := by
            rw [clsTo_no (by omega)]; exact hll.out
          have HRX : Hid (RowB wo s m (fun u => decide (f u < t + 1))) := hrow.out.congr (seen_skip HPT.out hft)
          clear hll hrow hft hi hz0 hz1 hz2 hj hy0 hy1 hy2
          go_wp2
          go_roundg (m - (t + 1))
          case measure => omega
          case rel => exact ⟨t + 1, by omega, Nat.le_refl _, by go_num, HNX, HRX, hbr⟩
        · rw [decide_eq_false hft] at st
          have HFT : Hid (f t = t) := by have := HPT.out.le t hlt; show f t = t; omega
          obtain ⟨Bi, hBi⟩ := ex_eq wo.heap.size
          have HBI := hid hBi
          have hsB : s < Bi := by rw [hBi]; exact hrow.out.1
          obtain ⟨W1, hW1⟩ := ex_eq (wo.alloc (.cells #[.int .i64 t] 3))
          have HO1 : Hid (W1.ownsRow Bi 3 1 (.slice (some ⟨Bi, 0, none⟩) 1 1) 1 [.int .i64 t]) := by
            show World.ownsRow _ _ _ _ _ _ _
            rw [hW1, hBi]; exact own_oneI wo t
          have hrow1 : RowB W1 s m (fun u => decide (f u < t)) := by rw [hW1]; exact hrow.out.below ((Below.refl _ _).alloc (Nat.le_refl _) _)
          obtain ⟨st1, sf1⟩ := hrow1.2 t hlt
          dsimp only at st1
          rw [decide_eq_false hft] at st1
          obtain ⟨W2, hW2⟩ := ex_eq (W1.setCell ⟨s, t, none⟩ (.bool true))
          have hK2 : KeptBut (fun k => k = s ∨ Bi ≤ k) wo W2 := by
            rw [hW2, hW1]
            exact (kept_alloc wo _ _).trans ((kept_set _ ⟨s, t, none⟩ _).mono (fun k _ e => Or.inl e))
          have HO2 : Hid (W2.ownsRow Bi 3 1 (.slice (some ⟨Bi, 0, none⟩) 1 1) [(t : Int)].length ([(t : Int)].map (Value.int .i64))) := by
            show World.ownsRow _ _ _ _ _ _ _
            rw [hW2]
            exact own_kept HO1.out (kept_set _ ⟨s, t, none⟩ _) (fun g hg e => by cases hg; simp at e; omega)
          have HR2 : Hid (RowB W2 s m (fun u => decide (f u < t ∨ (u : Int) ∈ [(t : Int)]))) := by
            show RowB W2 s m _
            rw [hW2]; exact (hrow1.put hlt true).congr seen_one
          have HBF : Hid (Bfs m f t [(t : Int)] ∧ ClosedTo es [(t : Int)] 0) := ⟨bfs_one hlt HFT.out, closed_zero _ _⟩
          have HW1 := hid hW1
          have HW2 := hid hW2
          have HGK : Hid (∀ X, KeptBut (fun k => k = s ∨ Bi ≤ k) wo X → GC X b0 m a N cap es) := fun X hX => HGV.out X (hbr.trans (hX.below (by omega) (fun k _ e => by omega)))
          clear hW2 hrow1 hrow hft hBi
          rw [hW1] at st1 sf1
          clear hW1
          go_wp2
          rw [← HW1.out, ← HBI.out]
          rw [← HW2.out]
          clear HW1 HW2 st sf st1 sf1 g0 g1 HO1
          go_loopg [6, 7] m (fun G v i wz => ∃ (k : Nat) (ls : List Int), k ≤ ls.length ∧ m - k ≤ G ∧ i = .int .i64 k ∧ Hid (wz.ownsRow Bi 3 1 v ls.length (ls.map (Value.int .i64))) ∧ Hid (RowB wz s m (fun u => decide (f u < t ∨ (u : Int) ∈ ls))) ∧ Hid (Bfs m f t ls ∧ ClosedTo es ls k) ∧ KeptBut (fun k => k = s ∨ Bi ≤ k) wo wz)
          case atStart => exact ⟨0, _, Nat.zero_le _, by omega, rfl, HO2, HR2, HBF, hK2⟩
          case round =>
            obtain ⟨k, ls, hkl, hGk, rfl, hown, hrow, hbf, hkp⟩ := hrel
            have hlm := hbf.out.1.len
            obtain ⟨K, hK⟩ := ex_eq ls.length
            have HK := hid hK
            by_cases hlt2 : k < ls.length
            · obtain ⟨gl, cl, hv6, hgl, cx⟩ := own_cell hown.out hlt2
              obtain ⟨x, hx⟩ := ex_eq ls[k]
              rw [← hx] at cx
              have HXI : Hid (ls[k]? = some x) := by show ls[k]? = some x; rw [hx]; exact List.getElem?_eq_getElem hlt2
              obtain ⟨xu, hxu, hxm, hxf⟩ := hbf.out.1.all x (by rw [hx]; exact List.getElem_mem _)
              subst hxu
              subst hv6
              obtain ⟨g0, g1⟩ := (HGK.out wr hkp).cells
              have hszr : Bi ≤ wr.heap.size := by rw [HBI.out]; exact hkp.size
              obtain ⟨L, hLL⟩ := ex_eq (nbL (xu : Int) es)
              have HLL := hid hLL
              have hLlen : L.length ≤ 4000 := by rw [hLL]; exact Nat.le_trans (nbL_len _ _) HR.out.2.2.1
              have CN : Hid (Calls Try.prog 41 #[.agg #[.int .i64 m, .slice a N cap], .int .i64 xu] wr.drew fun e w' => ∃ v, e = .returned v ∧ w'.ownsRow wr.heap.size 3 1 v L.length (L.map (Value.int .i64)) ∧ Below wr.heap.size wr.drew w') := by
                show Calls _ _ _ _ _
                rw [HN.out]
                exact rnear_own m a cap es xu true L wr.drew (by rw [← HN.out]; exact hN) (HGK.out wr hkp).at_ ⟨fun _ => HR.out, fun _ => rfl⟩ hLL
              have hS : wr.drew.cell? ⟨b0, 0, none⟩ = some (.int .i64 m) ∧ wr.drew.cell? ⟨b0, 1, none⟩ = some (.slice a N cap) ∧ wr.drew.cell? ⟨gl, k, none⟩ = some (.int .i64 xu) := ⟨g0, g1, cx⟩
              have HKP : Hid (∀ W, Below wr.heap.size wr.drew W → W.cell? ⟨b0, 0, none⟩ = some (.int .i64 m) ∧ W.cell? ⟨b0, 1, none⟩ = some (.slice a N cap) ∧ W.cell? ⟨gl, k, none⟩ = some (.int .i64 xu)) := fun W h =>
                ⟨(h.cell (p := ⟨b0, 0, none⟩) (block_lt_of_cell g0)).trans g0, (h.cell (p := ⟨b0, 1, none⟩) (block_lt_of_cell g1)).trans g1, (h.cell (p := ⟨gl, k, none⟩) (block_lt_of_cell cx)).trans cx⟩
              rw [← hK]
              rw [← hK] at hlt2 hlm
              have q2 : (k : Int) < (K : Int) := by omega
              have q3 : (0 : Int) ≤ (k : Int) := by omega
              have HOW := hid (show wr.drew.ownsRow Bi 3 1 (.slice (some ⟨gl, 0, none⟩) K cl) ls.length (ls.map (Value.int .i64)) from by rw [hK]; exact hown.out)
              have HRO := hid (RowB.drew hrow.out)
              have hkd : KeptBut (fun k => k = s ∨ Bi ≤ k) wo wr.drew := ⟨hkp.os, hkp.tape, hkp.output, hkp.size, hkp.block⟩
              clear hx hLL hown hrow hK
              go_wp2_with fail
              go_region_held3 (fun X => X.cell? ⟨b0, 0, none⟩ = some (.int .i64 m) ∧ X.cell? ⟨b0, 1, none⟩ = some (.slice a N cap) ∧ X.cell? ⟨gl, k, none⟩ = some (.int .i64 xu)) (first | exact hS | exact hS7)
                (first | (go_at_call 41; refine CN.out.mono ?_; rintro e w7 ⟨v8, rfl, hown8, hb7⟩; have hS7 := HKP.out w7 hb7))
              all_goals
                obtain ⟨a8, c8, hv8, hI8⟩ := iat_own hown8
                have hge8 : ∀ g off, a8 = some ⟨g, off, none⟩ → wr.heap.size ≤ g := fun g off e => own_ge (by rw [← hv8]; exact hown8) g off e
                subst hv8
                have hlt6 : gl < wr.heap.size := (HOW.out.lt gl rfl).2
                have HI7 : Hid (IAt w7 a8 L ∧ ∀ g off, a8 = some ⟨g, off, none⟩ → 0 < L.length → g ≠ s ∧ (Value.slice (some ⟨gl, 0, none⟩) K cl).ownBlock ≠ some g) := ⟨hI8, fun g off e _ => ⟨by have := hge8 g off e; omega, fun e2 => by
                  have h1 := hge8 g off e
                  simp only [Value.ownBlock, Option.some.injEq] at e2
                  omega⟩⟩
                have HO7 : Hid (w7.ownsRow Bi 3 1 (.slice (some ⟨gl, 0, none⟩) K cl) ls.length (ls.map (Value.int .i64))) := own_below HOW.out hb7
                have HR7 := hid (HRO.out.below hb7)
                have hk7 : KeptBut (fun k => k = s ∨ Bi ≤ k) wo w7 := hkd.trans (KeptBut.of_whole _ hb7)
                have HBX : Hid (Bfs m f t ls ∧ ClosedTo es ls k ∧ k < ls.length ∧ ls[k]? = some (xu : Int) ∧ ∀ r (h : r < L.length), r < 0 → L[r] ∈ ls) := ⟨hbf.out.1, hbf.out.2, by rw [← HK.out]; exact hlt2, HXI.out, fun r _ h => absurd h (by omega)⟩
                obtain ⟨M, hM⟩ := ex_eq L.length
                have HM := hid hM
                rw [← hM] at hLlen ⊢
                clear hown8 hI8 hge8 hM hS hS7 hb7 HKP CN HOW HRO hkd hkp g0 g1 cx hbf HXI hlt6
                go_wp2
                go_loopg [6, 9] M (fun G v i wz => ∃ (j : Nat) (l2 : List Int), j ≤ M ∧ M - j ≤ G ∧ i = .int .i64 j ∧ Hid (wz.ownsRow Bi 3 1 v l2.length (l2.map (Value.int .i64))) ∧ Hid (RowB wz s m (fun u => decide (f u < t ∨ (u : Int) ∈ l2))) ∧ Hid (Bfs m f t l2 ∧ ClosedTo es l2 k ∧ k < l2.length ∧ l2[k]? = some (xu : Int) ∧ ∀ r (h : r < L.length), r < j → L[r] ∈ l2) ∧ Hid (IAt wz a8 L ∧ ∀ g off, a8 = some ⟨g, off, none⟩ → 0 < L.length → g ≠ s ∧ v.ownBlock ≠ some g) ∧ KeptBut (fun k => k = s ∨ Bi ≤ k) wo wz)
                case atStart => exact ⟨0, ls, Nat.zero_le _, by omega, rfl, HO7, HR7, HBX, HI7, hk7⟩
                case round =>
                  obtain ⟨j, l2, hjM, hGj, rfl, hown2, hrow2, hbf2, hI2, hkp2⟩ := hrel
                  have hl2 := hbf2.out.1.len
                  by_cases hlt3 : j < M
                  · have hjL : j < L.length := by rw [← HM.out]; exact hlt3
                    obtain ⟨g8, o8, ha8, hg8, hc8⟩ := hI2.out.1 (by omega)
                    subst ha8
                    have cy := hc8 j hjL
                    obtain ⟨v, hyv, hvm, hvf⟩ := nb_same HR.out HT.out hxm (y := L[j]) (by rw [← HLL.out]; exact List.getElem_mem _)
                    have HYV := hid hyv
                    rw [hyv] at cy
                    obtain ⟨sv, sfv⟩ := hrow2.out.2 v hvm
                    dsimp only at sv
                    have q3 : (j : Int) < (M : Int) := by omega
                    have q4 : (0 : Int) ≤ (j : Int) := by omega
                    have q5 : (v : Int) < (m : Int) := by omega
                    have q6 : (0 : Int) ≤ (v : Int) := by omega
                    have hft : f v = t := hvf.trans hxf
                    by_cases hin : (v : Int) ∈ l2
                    · rw [decide_eq_true (Or.inr hin)] at sv
                      have HBX : Hid (Bfs m f t l2 ∧ ClosedTo es l2 k ∧ k < l2.length ∧ l2[k]? = some (xu : Int) ∧ ∀ r (h : r < L.length), r < j + 1 → L[r] ∈ l2) := ⟨hbf2.out.1, hbf2.out.2.1, hbf2.out.2.2.1, hbf2.out.2.2.2.1, fun r h hr => by
                        by_cases e : r < j
                        · exact hbf2.out.2.2.2.2 r h e
                        · obtain rfl : r = j := by omega
                          rw [HYV.out]; exact hin⟩
                      clear hyv hc8 hg8 hbf2 hin hvf hft hxf hj hy0 hy1 hy2 hi hz0 hz1 hz2
                      go_wp2
                      go_roundg (M - (j + 1))
                      case measure => omega
                      case rel => exact ⟨j + 1, l2, by omega, Nat.le_refl _, by go_num, hown2, hrow2, HBX, hI2, hkp2⟩
                    · rw [decide_eq_false (fun h => h.elim (fun h => by omega) hin)] at sv
                      have HBX : Hid (Bfs m f t (l2 ++ [(v : Int)]) ∧ ClosedTo es (l2 ++ [(v : Int)]) k ∧ k < (l2 ++ [(v : Int)]).length ∧ (l2 ++ [(v : Int)])[k]? = some (xu : Int) ∧ ∀ r (h : r < L.length), r < j + 1 → L[r] ∈ l2 ++ [(v : Int)]) := ⟨hbf2.out.1.put hvm hft hin, hbf2.out.2.1.put (Nat.le_of_lt hbf2.out.2.2.1) _, by have := hbf2.out.2.2.1; simp; omega, by rw [List.getElem?_append_left hbf2.out.2.2.1]; exact hbf2.out.2.2.2.1, fun r h hr => by
                        by_cases e : r < j
                        · exact List.mem_append_left _ (hbf2.out.2.2.2.2 r h e)
                        · obtain rfl : r = j := by omega
                          rw [HYV.out]; simp⟩
                      have cy2 : (wr.setCell ⟨s, v, none⟩ (.bool true)).cell? ⟨g8, o8 + j, none⟩ = some (.int .i64 v) := by
                        have hne := (hI2.out.2 g8 o8 rfl (by omega)).1
                        rw [World.cell?_setCell_other _ _ _ _ (fun e => hne (congrArg Addr.block e).symm)]
                        exact cy
                      obtain ⟨W2, hW2⟩ := ex_eq (wr.setCell ⟨s, v, none⟩ (.bool true))
                      obtain ⟨K2, hK2⟩ := ex_eq l2.length
                      have HK2 := hid hK2
                      rw [← hK2] at hl2
                      have HOW : Hid ((W2.alloc (.cells #[.int .i64 v] 3)).ownsRow Bi 3 1 u6 K2 (l2.map (Value.int .i64))) := by
                        show World.ownsRow _ _ _ _ _ _ _
                        rw [hK2, hW2]
                        exact (own_kept hown2.out (kept_set _ ⟨s, v, none⟩ _) (fun g hg e => by have := (hown2.out.lt g hg).1; simp at e; omega)).alloc _
                      have HNW : Hid (∀ p, some (⟨W2.heap.size, 0, none⟩ : Addr) = some p → ∀ j u, [Value.int .i64 (v : Int)][j]? = some u → (W2.alloc (.cells #[.int .i64 v] 3)).cell? (p.add j) = some u) := news_one _
                      have HON : Hid (∀ v' ∈ [Value.int .i64 (v : Int)], v'.oneCell' = true) := fun v' hv => by simp at hv; rw [hv]; rfl
                      have H63 : Hid (K2 + 1 ≤ maxLen) := by show K2 + 1 ≤ maxLen; unfold maxLen; omega
                      have hszW : W2.heap.size = wr.heap.size := by rw [hW2]; simp
                      have HBS : Hid (Bi ≤ (W2.alloc (.cells #[.int .i64 v] 3)).heap.size) := by
                        have h1 := hkp2.size
                        have h2 := HBI.out
                        show Bi ≤ _; simp; omega
                      have HST : Hid (∀ v4 w4, w4.ownsRow Bi 3 1 v4 (K2 + 1) (l2.map (Value.int .i64) ++ [.int .i64 v]) → (W2.alloc (.cells #[.int .i64 v] 3)).grownBy w4 u6.ownBlock → (v4.ownBlock = u6.ownBlock ∨ v4.ownBlock = some (W2.heap.size + 1)) → w4.ownsRow Bi 3 1 v4 (l2 ++ [(v : Int)]).length ((l2 ++ [(v : Int)]).map (Value.int .i64)) ∧ RowB w4 s m (fun u => decide (f u < t ∨ (u : Int) ∈ l2 ++ [(v : Int)])) ∧ (IAt w4 (some ⟨g8, o8, none⟩) L ∧ ∀ g off, some (⟨g8, o8, none⟩ : Addr) = some ⟨g, off, none⟩ → 0 < L.length → g ≠ s ∧ v4.ownBlock ≠ some g) ∧ KeptBut (fun k => k = s ∨ Bi ≤ k) wo w4) := fun v4 w4 h1 h2 h3 => by
                        rw [hW2] at h2
                        have h3' : v4.ownBlock = u6.ownBlock ∨ v4.ownBlock = some ((wr.setCell ⟨s, v, none⟩ (.bool true)).alloc (.cells #[.int .i64 v] 3)).heap.size := h3.imp id (fun h => by rw [h, hszW]; simp)
                        obtain ⟨z1, z2, z3, z4⟩ := of_put hown2.out hrow2.out hI2.out.1 hI2.out.2 hkp2 hsB hvm h2 h3'
                        exact ⟨by rw [List.length_append, List.map_append, ← hK2]; exact h1, z1.congr seen_put, ⟨z2, z3⟩, z4⟩
                      have HW2 := hid hW2
                      rw [hW2] at hszW
                      clear hyv hc8 hg8 hbf2 hin hvf hft hxf hown2 hrow2 hI2 hkp2 hW2 hK2 hszW hj hy0 hy1 hy2
                      go_upto_region 20 with fail
                      rw [← HW2.out]
                      rw [← HW2.out] at cy2
                      clear HW2 cy sv sfv
                      go_wp2_with (at_builtin; refine wpList_append_any _ rfl _ _ 42 rfl Bi 3 i0 _ 1 8 Try.underlying42 hi hz0 hz1 hz2 rfl (by decide) _ _ _ rfl HOW.out (some ⟨W2.heap.size, 0, none⟩) 1 1 [.int .i64 v] rfl (fun h => by cases h) rfl HNW.out HON.out H63.out ?c4 HBS.out ?_)
                      case c4 => omega
                      intro v4 w4 hown4 hgrow hat4
                      obtain ⟨z1, z2, z3, z4⟩ := HST.out v4 w4 hown4 hgrow (hat4.imp id (fun h => by rw [h]; try simp))
                      have HZ1 := hid z1
                      have HZ2 := hid z2
                      have HZ3 := hid z3
                      clear hown4 hgrow hat4 z1 z2 z3 HST HBS H63 HON HNW HOW cy2 hi hz0 hz1 hz2
                      go_wp2
                      go_roundg (M - (j + 1))
                      case measure => omega
                      case rel => exact ⟨j + 1, _, by omega, Nat.le_refl _, by go_num, HZ1, HZ2, HBX, HZ3, z4⟩
                  · obtain rfl : j = M := by omega
                    have HBX : Hid (Bfs m f t l2 ∧ ClosedTo es l2 (k + 1)) := ⟨hbf2.out.1, hbf2.out.2.1.next hbf2.out.2.2.2.1 (fun y hy => by
                      rw [← HLL.out] at hy
                      obtain ⟨r, hr, e⟩ := List.getElem_of_mem hy
                      rw [← e]
                      exact hbf2.out.2.2.2.2 r hr (by rw [HM.out]; exact hr))⟩
                    have hk2 := hbf2.out.2.2.1
                    clear hi hz0 hz1 hz2 hj hy0 hy1 hy2 hbf2
                    go_wp2
                    go_roundg (m - (k + 1))
                    case measure => omega
                    case rel => exact ⟨k + 1, l2, hk2, Nat.le_refl _, by go_num, hown2, hrow2, HBX, hkp2⟩
            · obtain rfl : k = ls.length := by omega
              have hsrt := bfs_done HR.out HT.out hlt HFT.out hbf.out.1 hbf.out.2
              have HRX : Hid (∀ X, RowB X s m (fun u => decide (f u < t ∨ (u : Int) ∈ ls)) → RowB X s m (fun u => decide (f u < t + 1))) := fun X h => h.congr (seen_done hsrt)
              obtain ⟨a6, c6, hv6, hI6⟩ := iat_own hown.out
              subst hv6
              have CS : Hid (Calls Try.prog 42 #[.slice a6 ls.length c6] wr fun e w' => ∃ v, e = .returned v ∧ w'.ownsRow wr.heap.size 3 1 v (classF m f t).length ((classF m f t).map (Value.int .i64)) ∧ Below wr.heap.size wr w') := by
                have := sorted_any a6 c6 ls wr (by omega) hI6
                rwa [hsrt] at this
              have hszr : Bi ≤ wr.heap.size := by rw [HBI.out]; exact hkp.size
              clear hsrt hI6 hown hbf hK
              obtain ⟨k, hk⟩ := ex_eq ls.length
              rw [← hk] at CS ⊢
              rw [← hk] at hlm hGk
              clear hk hkl hlt2
              go_wp2_with fail
              refine CS.out.mono ?_
              rintro e w8 ⟨v8, rfl, hown8, hb8⟩
              obtain ⟨ar, cr, hv8, hI8⟩ := iat_own hown8
              have hge : ∀ g off, ar = some ⟨g, off, none⟩ → wr.heap.size ≤ g := fun g off e => own_ge (by rw [← hv8]; exact hown8) g off e
              subst hv8
              obtain ⟨us, hL⟩ := hll.out
              have hk8 : KeptBut (fun k => k = s ∨ Bi ≤ k) wo w8 := hkp.trans (KeptBut.of_whole _ hb8)
              have hL2 := hL.kept hk8 (fun k hA hk e => by have := HBI.out; omega)
              have hrow8 := HRX.out _ (hrow.out.below hb8)
              obtain ⟨R, hR⟩ := ex_eq (classF m f t).length
              obtain ⟨C, hC⟩ := ex_eq (clsTo m f t).length
              have hlen := clsTo_len m f t
              rw [← hC] at hlen
              rw [← hR]
              have HOW : Hid ((w8.alloc (.cells #[.slice ar R cr] 42)).ownsRow (b0 + 1) 42 1 u3 C us) := by
                show World.ownsRow _ _ _ _ _ _ _
                rw [hC]; exact hL2.1.alloc _
              have HNW : Hid (∀ p, some (⟨w8.heap.size, 0, none⟩ : Addr) = some p → ∀ j u, [Value.slice ar R cr][j]? = some u → (w8.alloc (.cells #[.slice ar R cr] 42)).cell? (p.add j) = some u) := news_one _
              have HON : Hid (∀ v ∈ [Value.slice ar R cr], v.oneCell' = true) := fun v hv => by simp at hv; rw [hv]; rfl
              have H63 : Hid (C + 1 ≤ maxLen) := by show C + 1 ≤ maxLen; unfold maxLen; omega
              have hsz8 := hb8.size
              have HBS : Hid (b0 + 1 ≤ (w8.alloc (.cells #[.slice ar R cr] 42)).heap.size) := by show b0 + 1 ≤ _; simp; omega
              have HST : Hid (∀ v4 w4, w4.ownsRow (b0 + 1) 42 1 v4 (C + 1) (us ++ [.slice ar R cr]) → (w8.alloc (.cells #[.slice ar R cr] 42)).grownBy w4 u3.ownBlock → (v4.ownBlock = u3.ownBlock ∨ v4.ownBlock = some (w8.heap.size + 1)) → (∃ us, LLOwn w4 (b0 + 1) (fun k => b0 < k ∧ k ≠ s) v4 us (clsTo m f (t + 1))) ∧ RowB w4 s m (fun u => decide (f u < t + 1)) ∧ Below (b0 + 1) w1 w4) := fun v4 w4 h1 h2 h3 => by
                have h3' : v4.ownBlock = u3.ownBlock ∨ v4.ownBlock = some (w8.alloc (.cells #[.slice ar R cr] 42)).heap.size := h3.imp id (fun h => by rw [h]; simp)
                have hA3 : ∀ g, u3.ownBlock = some g → (b0 < g ∧ g ≠ s) ∧ g < Bi := fun g e => ⟨hL.2.2.1 g e, by rw [HBI.out]; exact (hL.1.lt g e).2⟩
                refine ⟨⟨us ++ [.slice ar R cr], ?_⟩, ?_, ?_⟩
                · rw [clsTo_yes HFT.out, hR]
                  rw [hC, hR] at h1
                  rw [hR] at h2 h3'
                  refine hL2.put hI8 (fun g off e h0 => ⟨by have := hge g off e; omega, fun e2 => ?_⟩) (by simp; omega) h1 h2 h3'
                  have h9 := (hA3 g e2).2
                  have := hge g off e
                  omega
                · exact (hrow8.kept (kept_alloc w8 _ (fun _ => False)) (fun e => e)).kept (KeptBut.of_grown h2) (fun e => (hA3 s e.symm).1.2 rfl)
                · have hbw8 : Below (b0 + 1) w1 w8 := hbr.trans (hk8.below (by rw [← HBI.out]; omega) (fun k _ e => by omega))
                  exact Below.grown (hbw8.alloc (by omega) _) h2 HBS.out (fun j hj => by have := (hA3 j hj).1.1; omega)
              clear hL hL2 hI8 hge hown8 hll hR hC hrow8 hrow hk8 hkp hb8 CS HRX
              go_wp2_with (at_builtin; refine wpList_append_any _ rfl _ _ 33 rfl (b0 + 1) 42 i1 _ 1 24 Try.underlying33 hj hy0 hy1 hy2 rfl (by decide) _ _ _ rfl HOW.out (some ⟨w8.heap.size, 0, none⟩) 1 1 [.slice ar R cr] rfl (fun h => by cases h) rfl HNW.out HON.out H63.out ?c5 HBS.out ?_)
              case c5 => omega
              intro v4 w4 hown4 hgrow hat4
              obtain ⟨z1, z2, z3⟩ := HST.out v4 w4 hown4 hgrow (hat4.imp id (fun h => by rw [h]; try simp))
              have HZ1 := hid z1
              have HZ2 := hid z2
              clear z1 z2 hown4 hgrow hat4 HST HBS H63 HON HNW HOW hi hz0 hz1 hz2 hj hy0 hy1 hy2
              go_wp2
              go_roundg (m - (t + 1))
              case measure => omega
              case rel => exact ⟨t + 1, by omega, Nat.le_refl _, by go_num, HZ1, HZ2, z3⟩
      · obtain rfl : t = m := by omega
        go_wp2
        go_ret
        refine ⟨_, rfl, ?_, ?_⟩
        · obtain ⟨us, hL⟩ := hll.out
          rw [← HB0.out]
          exact ⟨us, hL.weaken (Nat.le_succ _) (fun k h => by omega)⟩
        · rw [← HB0.out]; exact hbw.trans (hbr.mono (Nat.le_succ _))
end Go.Proofs.Ythakjmfjbibbjaa
namespace Go.Proofs.Ythakjmfjbibbjaa
open Go.RowKit Go.Lib

theorem classesF_len (n : Nat) (f : Nat → Nat) : (classesF n f).length = (repsF n f).length := by unfold classesF; rw [List.length_map]
theorem classesF_at {n : Nat} {f : Nat → Nat} {i : Nat} (h : i < (classesF n f).length) (h' : i < (repsF n f).length) : (classesF n f)[i] = classF n f (repsF n f)[i] := by
  simp [classesF]
/-- All numbers stand in one class each. -/
theorem classes_all {n : Nat} {f : Nat → Nat} (h : Pt n f) : (classesF n f).flatten.length = n := by
  have hnd : (classesF n f).flatten.Nodup := by
    unfold List.Nodup
    rw [List.pairwise_flatten]
    refine ⟨fun L hL => ?_, ?_⟩
    · unfold classesF at hL
      obtain ⟨i, _, rfl⟩ := List.mem_map.1 hL
      exact class_nodup n f i
    · unfold classesF
      rw [List.pairwise_map]
      refine List.Pairwise.imp ?_ (reps_rises n f)
      intro a b hab x hx y hy hxy
      subst hxy
      obtain ⟨k, rfl, hk, hfk⟩ := mem_class.1 hx
      obtain ⟨k2, e, hk2, hfk2⟩ := mem_class.1 hy
      obtain rfl : k = k2 := by omega
      omega
  have h1 := len_le_of_subI (b := upto n) hnd (fun x hx => by
    obtain ⟨L, hL, hxL⟩ := List.mem_flatten.1 hx
    unfold classesF at hL
    obtain ⟨i, _, rfl⟩ := List.mem_map.1 hL
    obtain ⟨k, rfl, hk, _⟩ := mem_class.1 hxL
    unfold upto
    exact List.mem_map.2 ⟨k, by simpa using hk, rfl⟩)
  have h2 := len_le_of_subI (a := upto n) (b := (classesF n f).flatten) (by
    unfold upto
    refine (List.pairwise_map.2 (List.Pairwise.imp (fun {a b} (h : a < b) => ?_) List.pairwise_lt_range))
    omega) (fun x hx => by
    unfold upto at hx
    obtain ⟨k, hk, rfl⟩ := List.mem_map.1 hx
    have hk' : k < n := by simpa using hk
    refine List.mem_flatten.2 ⟨classF n f (f k), List.mem_map.2 ⟨f k, mem_reps.2 ⟨h.lt hk', h.idem k hk'⟩, rfl⟩, mem_class_nat.2 ⟨hk', rfl⟩⟩)
  rw [upto_len] at h1 h2
  omega
/-- How many numbers stand in the first i classes. -/
def sumTo (n : Nat) (f : Nat → Nat) (i : Nat) : Nat := ((classesF n f).take i).flatten.length
theorem sumTo_succ {n : Nat} {f : Nat → Nat} {i : Nat} (h : i < (classesF n f).length) : sumTo n f (i + 1) = sumTo n f i + (classesF n f)[i].length := by
  unfold sumTo
  rw [List.take_succ_eq_append_getElem h, List.flatten_append, List.length_append]
  simp
theorem sumTo_all {n : Nat} {f : Nat → Nat} (h : Pt n f) : sumTo n f (classesF n f).length = n := by
  unfold sumTo
  rw [List.take_length]; exact classes_all h
theorem sumTo_le {n : Nat} {f : Nat → Nat} (h : Pt n f) (i : Nat) : sumTo n f i ≤ n := by
  have h1 := classes_all h
  rw [← List.take_append_drop i (classesF n f), List.flatten_append, List.length_append] at h1
  unfold sumTo
  omega
/-- Who has been seen: the classes ahead of that of r, and the first k of it. -/
def seenTo (n : Nat) (f : Nat → Nat) (r k u : Nat) : Bool := decide (f u < r ∨ (f u = r ∧ (u : Int) ∈ (classF n f r).take k))
theorem reps_at_lt {n : Nat} {f : Nat → Nat} {i j : Nat} (hij : i < j) (hj : j < (repsF n f).length) : (repsF n f)[i]'(by omega) < (repsF n f)[j] := List.pairwise_iff_getElem.1 (reps_rises n f) i j (by omega) hj hij
theorem reps_at_is {n : Nat} {f : Nat → Nat} {i : Nat} (h : i < (repsF n f).length) : (repsF n f)[i] < n ∧ f (repsF n f)[i] = (repsF n f)[i] := mem_reps.1 (List.getElem_mem h)
theorem rep_place {n : Nat} {f : Nat → Nat} (hP : Pt n f) {u : Nat} (hu : u < n) : ∃ j, ∃ h : j < (repsF n f).length, (repsF n f)[j] = f u :=
  List.getElem_of_mem (mem_reps.2 ⟨hP.lt hu, hP.idem u hu⟩)
theorem seenTo_start {n : Nat} {f : Nat → Nat} (hP : Pt n f) (h : 0 < (repsF n f).length) : ∀ u, u < n → false = seenTo n f (repsF n f)[0] 0 u := fun u hu => by
  unfold seenTo
  refine (decide_eq_false ?_).symm
  rintro (h1 | ⟨_, h1⟩)
  · obtain ⟨j, hj, e⟩ := rep_place hP hu
    by_cases e0 : j = 0
    · subst e0; omega
    · have := reps_at_lt (f := f) (show 0 < j by omega) hj
      omega
  · simp at h1
theorem seenTo_put {n : Nat} {f : Nat → Nat} {r k v : Nat} (hk : k < (classF n f r).length) (hv : (classF n f r)[k] = (v : Int)) : ∀ u, u < n → (if u = v then true else seenTo n f r k u) = seenTo n f r (k + 1) u := fun u _ => by
  have hvm : (v : Int) ∈ classF n f r := by rw [← hv]; exact List.getElem_mem hk
  have hvf := (mem_class_nat.1 hvm).2
  unfold seenTo
  rw [List.take_succ_eq_append_getElem hk, hv]
  by_cases e : u = v
  · subst e
    rw [if_pos rfl]
    exact (decide_eq_true (Or.inr ⟨hvf, by simp⟩)).symm
  · rw [if_neg e]
    refine decide_eq_decide.2 ⟨fun h1 => h1.imp id (fun h1 => ⟨h1.1, List.mem_append_left _ h1.2⟩), fun h1 => h1.imp id (fun h1 => ⟨h1.1, ?_⟩)⟩
    rcases List.mem_append.1 h1.2 with h2 | h2
    · exact h2
    · simp at h2; omega
theorem seenTo_new {n : Nat} {f : Nat → Nat} {r k v : Nat} (hk : k < (classF n f r).length) (hv : (classF n f r)[k] = (v : Int)) : seenTo n f r k v = false := by
  have hvm : (v : Int) ∈ classF n f r := by rw [← hv]; exact List.getElem_mem hk
  have hvf := (mem_class_nat.1 hvm).2
  unfold seenTo
  refine decide_eq_false ?_
  rintro (h1 | ⟨_, h1⟩)
  · omega
  · obtain ⟨j, hj, e⟩ := List.getElem_of_mem h1
    rw [List.length_take] at hj
    rw [List.getElem_take] at e
    have := List.pairwise_iff_getElem.1 (class_rises n f r) j k (by omega) hk (by omega)
    omega
theorem seenTo_next {n : Nat} {f : Nat → Nat} (hP : Pt n f) {i : Nat} (h : i + 1 < (repsF n f).length) (hi : i < (repsF n f).length) : ∀ u, u < n → seenTo n f (repsF n f)[i] (classF n f (repsF n f)[i]).length u = seenTo n f (repsF n f)[i + 1] 0 u := fun u hu => by
  unfold seenTo
  rw [List.take_length]
  have hlt := reps_at_lt (f := f) (show i < i + 1 by omega) h
  refine decide_eq_decide.2 ⟨fun h1 => Or.inl ?_, fun h1 => ?_⟩
  · rcases h1 with h1 | h1
    · omega
    · have := h1.1; omega
  · rcases h1 with h1 | ⟨_, h1⟩
    · obtain ⟨j, hj, e⟩ := rep_place hP hu
      by_cases e0 : j ≤ i
      · by_cases e1 : j = i
        · subst e1
          exact Or.inr ⟨e.symm, mem_class_nat.2 ⟨hu, e.symm⟩⟩
        · have := reps_at_lt (f := f) (show j < i by omega) hi
          exact Or.inl (by omega)
      · by_cases e1 : j = i + 1
        · subst e1; omega
        · have := reps_at_lt (f := f) (show i + 1 < j by omega) hj
          omega
    · simp at h1
end Go.Proofs.Ythakjmfjbibbjaa
