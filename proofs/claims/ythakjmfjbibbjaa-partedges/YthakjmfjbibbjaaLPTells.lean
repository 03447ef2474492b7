/-
  carcanetlaw04.PartTells answers true, for any part that keeps the contracts.
-/
import Derived.Test.YthakjmfjbibbjaaB10
namespace Go.Proofs.Ythakjmfjbibbjaa
open Go.RowKit Go.Lib

theorem EAt.at2 {w : World} {a : Option Addr} {l : List (Int × Int)} (h : EAt w a l) {k : Nat} (hk : k < l.length) : ∃ g off, a = some ⟨g, off, none⟩ ∧ g < w.heap.size ∧ w.cell? ⟨g, off + k * 2, none⟩ = some (.int .i64 l[k].1) ∧ w.cell? ⟨g, off + k * 2 + 1, none⟩ = some (.int .i64 l[k].2) := by
  obtain ⟨g, off, ha, hg, hc⟩ := h (by omega)
  exact ⟨g, off, ha, hg, (hc k hk).1, (hc k hk).2⟩
/-- Both parts, side by side. -/
structure TwoP (PA : World → Addr → Nat → (Nat → Nat) → (Nat → Prop) → Prop) (u w : World) (b0 : Nat) (p : Addr) (b g : Nat) (a : Option Addr) (n cap : Nat) (f : Nat → Nat) (S : Nat → Prop) : Prop where
  pa : PA w p n f S
  ge : ∀ k, S k → b0 ≤ k
  nb : ¬ S b
  ng : 0 < n → ¬ S g
  qa : QAt w b g a n cap f
  qb : b0 ≤ b
  qg : b0 ≤ g
  bel : Below b0 u w
theorem TwoP.next {PA : World → Addr → Nat → (Nat → Nat) → (Nat → Prop) → Prop} {u w w' : World} {b0 : Nat} {p : Addr} {b g : Nat} {a : Option Addr} {n cap : Nat} {f f' : Nat → Nat} {S : Nat → Prop} (h : TwoP PA u w b0 p b g a n cap f S) (hN : PNext PA S w w' p n f') (h0 : b0 ≤ u.heap.size) :
    ∃ S', PA w' p n f' S' ∧ (∀ k, S' k → b0 ≤ k) ∧ ¬ S' b ∧ (0 < n → ¬ S' g) ∧ QAt w' b g a n cap f ∧ Below b0 u w' := by
  obtain ⟨S', h1, h2, h3, h4, h5⟩ := hN.step h.ge h.bel (Nat.le_trans h0 h.bel.size)
  have hbl := block_lt_of_cell h.qa.box
  refine ⟨S', h1, h2, fun e => (h5 b e).elim h.nb (fun e => by simp at hbl; omega), fun hn e => (h5 g e).elim (h.ng hn) (fun e => by have := (h.qa.row hn).2.1; omega), h.qa.kept h4 h.nb h.ng, h3⟩
theorem TwoP.same {PA : World → Addr → Nat → (Nat → Nat) → (Nat → Prop) → Prop} {u w w' : World} {b0 : Nat} {p : Addr} {b g : Nat} {a : Option Addr} {n cap : Nat} {f : Nat → Nat} {S : Nat → Prop} (h : TwoP PA u w b0 p b g a n cap f S) (hN : PNext PA S w w' p n f) (h0 : b0 ≤ u.heap.size) : ∃ S', TwoP PA u w' b0 p b g a n cap f S' := by
  obtain ⟨S', h1, h2, h3, h4, h5, h6⟩ := h.next hN h0
  exact ⟨S', h1, h2, h3, h4, h5, h.qb, h.qg, h6⟩
theorem TwoP.quiet {PA : World → Addr → Nat → (Nat → Nat) → (Nat → Prop) → Prop} (O : PartOps PA) {u w w' : World} {b0 : Nat} {p : Addr} {b g : Nat} {a : Option Addr} {n cap : Nat} {f : Nat → Nat} {S : Nat → Prop} (h : TwoP PA u w b0 p b g a n cap f S) (hb : Below w.heap.size w w') (h0 : b0 ≤ u.heap.size) : TwoP PA u w' b0 p b g a n cap f S :=
  ⟨O.keep h.pa (KeptBut.of_whole (fun _ => False) hb) (fun _ _ e => e), h.ge, h.nb, h.ng, h.qa.below hb, h.qb, h.qg, h.bel.trans (hb.mono (Nat.le_trans h0 h.bel.size))⟩

set_option maxHeartbeats 4000000 in
set_option maxRecDepth 100000 in
theorem partTells_law {PA : World → Addr → Nat → (Nat → Nat) → (Nat → Prop) → Prop} (O : PartOps PA) (n : Int) (a : Option Addr) (N cap : Nat) (l : List (Int × Int)) (w : World) (hl : N = l.length) (hE : EAt w a l) :
    Calls Try.prog 3 #[.int .i64 n, .slice a N cap] w fun e w' => e = .returned (.bool true) ∧ Below w.heap.size w w' := by
  have HO := hid O
  have HL := hid hl
  obtain ⟨b0, hb0⟩ := ex_eq w.heap.size
  have HB0 := hid hb0
  have HEB : Hid (∀ X, Below b0 w X → EAt X a l) := fun X h => hE.below (by rw [← hb0]; exact h)
  clear O hl hE hb0
  go_enter Try.func3, Try.ntmps3
  go_wp2_with fail
  refine (pshown_any HO.out w).mono ?_
  rintro e w1 ⟨rfl, hb1⟩
  rw [← HB0.out] at hb1
  have hs1 : b0 ≤ w1.heap.size := by rw [HB0.out]; exact hb1.size
  go_wp2_with fail
  refine (HO.out.new n w1).mono ?_
  rintro e w2 ⟨p, rfl, m, S1, hm, hP1, hS1, hb2⟩
  have HM := hid hm
  have HP1 := hid hP1
  have HS1 := hid hS1
  have hb2' := hb2
  have hs2 := hb2.size
  have hb3 : Below b0 w w2 := hb1.trans (hb2.mono hs1)
  clear hm hP1 hS1 hb2 hb2'
  go_wp2_with fail
  refine (rnew_any n w2).mono ?_
  rintro e w3 ⟨rfl, m', g, aq, cq, hm', hg, hq, hsz, hb4⟩
  obtain rfl : m' = m := by have := HM.out; omega
  have hm1000 : m' ≤ 1000 := by have := HM.out; omega
  obtain ⟨b, hb⟩ := ex_eq w2.heap.size
  rw [← hb]
  rw [← hb] at hg hq hb4
  have HT : Hid (∃ f S, TwoP PA w w3 b0 p b g aq m' cq f S) := by
    have hSl := (HO.out.own HP1.out).2.2
    refine ⟨_, S1, HO.out.keep HP1.out (KeptBut.of_below hb4) (fun k hk e => by have := hSl k hk; omega), fun k hk => by have := HS1.out k hk; omega, fun e => by have := hSl b e; omega, fun _ e => by have := hSl g e; omega, hq, by omega, by omega, hb3.trans (hb4.mono (by omega))⟩
  clear hm' hq hb4 HP1 HS1 HM hb hg hsz hb3 hb1
  go_wp2
  go_loopg [8] 60 (fun G i wz => ∃ k : Nat, k ≤ 60 ∧ 60 - k ≤ G ∧ i = .int .i64 k ∧ Hid (∃ f S, TwoP PA w wz b0 p b g aq m' cq f S))
  case atStart => exact ⟨0, Nat.zero_le _, by omega, rfl, HT⟩
  case round =>
    obtain ⟨k, hk, hG, rfl, hT⟩ := hrel
    obtain ⟨f, S, hTw⟩ := hT.out
    have HT1 := hid hTw
    have h00 : b0 ≤ w.heap.size := by rw [HB0.out]; exact Nat.le_refl _
    by_cases hgo : k < N ∧ k < 60
    · obtain ⟨hlt, hk6⟩ := hgo
      have hkr : k < l.length := by rw [← HL.out]; exact hlt
      obtain ⟨gl, off, rfl, hgl, d0, d1⟩ := (HEB.out _ hTw.bel).at2 hkr
      obtain ⟨e1, he1⟩ := ex_eq l[k].1
      obtain ⟨e2, he2⟩ := ex_eq l[k].2
      rw [← he1] at d0
      rw [← he2] at d1
      have HC : Hid (∀ X, Below b0 w X → X.cell? ⟨gl, off + k * 2, none⟩ = some (.int .i64 e1) ∧ X.cell? ⟨gl, off + k * 2 + 1, none⟩ = some (.int .i64 e2)) := fun X hX => by
        obtain ⟨g', off', ha', _, z0, z1⟩ := (HEB.out X hX).at2 hkr
        cases ha'
        rw [he1, he2]; exact ⟨z0, z1⟩
      have q1 : (k : Int) < (N : Int) := by omega
      have q2 : (k : Int) < 60 := by omega
      have q5 : (0 : Int) ≤ (k : Int) := by omega
      obtain ⟨r1, hr1⟩ := boolR_of (sameI m' f e1 e2)
      obtain ⟨r2, hr2⟩ := boolR_of (joinI m' f e1 e2)
      have HR1 := hid hr1
      have HR2 := hid hr2
      have hS := hid2 (show wr.drew.cell? ⟨gl, off + k * 2, none⟩ = some (.int .i64 e1) from d0) (show wr.drew.cell? ⟨gl, off + k * 2 + 1, none⟩ = some (.int .i64 e2) from d1)
      have HTd : Hid (TwoP PA w wr.drew b0 p b g aq m' cq f S) := HT1.out.quiet HO.out ((Below.refl _ _).drew) h00
      clear he1 he2 hr1 hr2 hTw hT HT1 hgl
      go_wp2_with fail
      go_region_held3 (fun X => X.cell? ⟨gl, off + k * 2, none⟩ = some (.int .i64 e1) ∧ X.cell? ⟨gl, off + k * 2 + 1, none⟩ = some (.int .i64 e2)) (first | exact hS | exact hS7)
        (first | (go_at_call 13; refine (HO.out.same _ p m' f S e1 e2 r1 HTd.out.pa HR1.out).mono ?_; rintro e w7 ⟨rfl, hN7⟩; obtain ⟨S7, hT7⟩ := HTd.out.same hN7 h00; have hS7 := HC.out w7 hT7.bel))
      all_goals
        have HT7 := hid hT7
        have hS := hid2 (show w7.drew.cell? ⟨gl, off + k * 2, none⟩ = some (.int .i64 e1) from hS7.1) (show w7.drew.cell? ⟨gl, off + k * 2 + 1, none⟩ = some (.int .i64 e2) from hS7.2)
        have HTd : Hid (TwoP PA w w7.drew b0 p b g aq m' cq f S7) := HT7.out.quiet HO.out ((Below.refl _ _).drew) h00
        clear hT7 hN7 hS7 HT7
        go_wp2_with fail
        go_region_held3 (fun X => X.cell? ⟨gl, off + k * 2, none⟩ = some (.int .i64 e1) ∧ X.cell? ⟨gl, off + k * 2 + 1, none⟩ = some (.int .i64 e2)) (first | exact hS | exact hS8)
          (first | (go_at_call 14; refine (rsame_any b g aq m' cq f e1 e2 r1 _ HTd.out.qa HR1.out).mono ?_; rintro e w8 ⟨rfl, hb8⟩; have hT8 := HTd.out.quiet HO.out hb8 h00; have hS8 := HC.out w8 hT8.bel))
        all_goals
          have hS := hid2 (show w8.drew.cell? ⟨gl, off + k * 2, none⟩ = some (.int .i64 e1) from hS8.1) (show w8.drew.cell? ⟨gl, off + k * 2 + 1, none⟩ = some (.int .i64 e2) from hS8.2)
          have HTd : Hid (TwoP PA w w8.drew b0 p b g aq m' cq f S7) := hT8.quiet HO.out ((Below.refl _ _).drew) h00
          clear hT8 hb8 hS8
          go_wp2_with fail
          go_region_held3 (fun X => X.cell? ⟨gl, off + k * 2, none⟩ = some (.int .i64 e1) ∧ X.cell? ⟨gl, off + k * 2 + 1, none⟩ = some (.int .i64 e2)) (first | exact hS | exact hS9)
            (first | (go_at_call 15; refine (HO.out.join _ p m' f S7 e1 e2 r2 HTd.out.pa HR2.out).mono ?_; rintro e w9 ⟨rfl, hN9⟩; obtain ⟨S9, hj1, hj2, hj3, hj4, hj5, hj6⟩ := HTd.out.next hN9 h00; have hS9 := HC.out w9 hj6))
          all_goals
            have hS := hid2 (show w9.drew.cell? ⟨gl, off + k * 2, none⟩ = some (.int .i64 e1) from hS9.1) (show w9.drew.cell? ⟨gl, off + k * 2 + 1, none⟩ = some (.int .i64 e2) from hS9.2)
            have HJ : Hid (PA w9.drew p m' (joinR m' f e1 e2) S9 ∧ (∀ k, S9 k → b0 ≤ k) ∧ ¬ S9 b ∧ (0 < m' → ¬ S9 g) ∧ QAt w9.drew b g aq m' cq f ∧ Below b0 w w9.drew) := ⟨HO.out.keep hj1 (KeptBut.of_whole (fun _ => False) ((Below.refl _ _).drew)) (fun _ _ e => e), hj2, hj3, hj4, hj5.below ((Below.refl _ _).drew), hj6.drew⟩
            have HQB : Hid (b0 ≤ b ∧ b0 ≤ g) := ⟨HTd.out.qb, HTd.out.qg⟩
            have HQJ : Hid (∀ w', JoinIs b g aq m' cq f e1 e2 w9.drew w' → TwoP PA w w' b0 p b g aq m' cq (joinR m' f e1 e2) S9) := fun w' h => by
              obtain ⟨z1, z2, z3, z4, z5, z6⟩ := HJ.out
              exact ⟨HO.out.keep z1 h.2.1 (fun k hk e => z4 e.1 (by rw [← e.2]; exact hk)), z2, z3, z4, h.1, HQB.out.1, HQB.out.2, z6.trans (h.2.1.below (Nat.le_trans h00 z6.size) (fun k _ e => by rw [e.2]; exact HQB.out.2))⟩
            clear hj1 hj2 hj3 hj4 hj5 hj6 hN9 hS9 HTd
            go_wp2_with fail
            go_region_held3 (fun X => X.cell? ⟨gl, off + k * 2, none⟩ = some (.int .i64 e1) ∧ X.cell? ⟨gl, off + k * 2 + 1, none⟩ = some (.int .i64 e2)) (first | exact hS | exact hS10)
              (first | (go_at_call 16; refine (rjoin_any b g aq m' cq f e1 e2 r2 _ hm1000 HJ.out.2.2.2.2.1 HR2.out).mono ?_; rintro e w10 ⟨rfl, hJI⟩; have hT10 := HQJ.out w10 hJI; have hS10 := HC.out w10 hT10.bel))
            all_goals
              obtain ⟨f', hf'⟩ := ex_eq (joinR m' f e1 e2)
              rw [← hf'] at hT10
              obtain ⟨r3, hr3⟩ := boolR_of (sameI m' f' e2 e1)
              have HR3 := hid hr3
              have hS := hid2 (show w10.drew.cell? ⟨gl, off + k * 2, none⟩ = some (.int .i64 e1) from hS10.1) (show w10.drew.cell? ⟨gl, off + k * 2 + 1, none⟩ = some (.int .i64 e2) from hS10.2)
              have HTd : Hid (TwoP PA w w10.drew b0 p b g aq m' cq f' S9) := hT10.quiet HO.out ((Below.refl _ _).drew) h00
              clear hT10 hJI hS10 HQJ HJ HR1 HR2 hr3 hf' d0 d1
              go_wp2_with fail
              go_region_held3 (fun X => X.cell? ⟨gl, off + k * 2, none⟩ = some (.int .i64 e1) ∧ X.cell? ⟨gl, off + k * 2 + 1, none⟩ = some (.int .i64 e2)) (first | exact hS | exact hS11 | exact hS12 | exact hS13)
                (first | (go_at_call 13; refine (HO.out.same _ p m' f' S9 e2 e1 r3 HTd.out.pa HR3.out).mono ?_; rintro e w11 ⟨rfl, hN11⟩; obtain ⟨S11, hT11⟩ := HTd.out.same hN11 h00; have hS11 := HC.out w11 hT11.bel) | (go_at_call 14; refine (rsame_any b g aq m' cq f' e2 e1 r3 _ hT11.qa HR3.out).mono ?_; rintro e w12 ⟨rfl, hb12⟩; have hT12 := hT11.quiet HO.out hb12 h00; have hS12 := HC.out w12 hT12.bel) | (go_at_call 17; refine (HO.out.count _ p m' f' S11 hT12.pa).mono ?_; rintro e w13 ⟨rfl, hN13⟩; obtain ⟨S13, hT13⟩ := hT12.same hN13 h00; have hS13 := HC.out w13 hT13.bel) | (go_at_call 18; refine (rcount_any b g aq m' cq f' _ hm1000 hT13.qa).mono ?_; rintro e w14 ⟨rfl, hw14⟩; subst hw14))
              all_goals
                have HT13 : Hid (∃ f S, TwoP PA w w14 b0 p b g aq m' cq f S) := ⟨_, _, hT13⟩
                clear hT11 hT12 hT13 hN11 hN13 hb12 hS hS11 hS12 hS13 HTd HC HR3
                go_wp2
                go_roundg (60 - (k + 1))
                case measure => omega
                case rel => exact ⟨k + 1, by omega, Nat.le_refl _, by go_num, HT13⟩
    · have hway : ¬ (k : Int) < (N : Int) ∨ ((k : Int) < (N : Int) ∧ ¬ (k : Int) < 60) := by omega
      have HPT := hid (HO.out.own hTw.pa).1
      clear hgo hTw hT HEB
      rcases hway with v1 | ⟨v1, v2⟩
      all_goals
        go_wp2_with fail
        refine (HO.out.classes wr p m' f S HT1.out.pa).mono ?_
        rintro e w7 ⟨v7, rfl, S7, a7, c7, rfl, hI7, hP7, hE7, hK7⟩
        have HQ7 := hid (HT1.out.qa.kept hK7 HT1.out.nb HT1.out.ng)
        have HI7 := hid hI7
        have HB7 : Hid (Below b0 w w7) := HT1.out.bel.trans (hK7.below (Nat.le_trans h00 HT1.out.bel.size) (fun k _ e => HT1.out.ge k e))
        clear hI7 hP7 hE7 hK7
        go_wp2_with fail
        refine (rclasses_any b g aq m' cq f w7 hm1000 HPT.out HQ7.out).mono ?_
        rintro e w8 ⟨v8, rfl, ⟨us, hL8⟩, hb8⟩
        obtain ⟨a8, c8, rfl, _, hA8⟩ := hL8.at
        have CR := hid (sameRows_any a7 a8 c7 c8 (classesF m' f) (classesF m' f) true w8 (by have := reps_len m' f; unfold classesF; rw [List.length_map]; omega) (fun L hL => by
          unfold classesF at hL
          obtain ⟨i, _, rfl⟩ := List.mem_map.1 hL
          have := class_len m' f i
          omega) (HI7.out.below hb8).at hA8 ⟨fun _ => rfl, fun _ => rfl⟩)
        have HB8 : Hid (Below b0 w w8) := HB7.out.trans (hb8.mono (Nat.le_trans h00 HB7.out.size))
        clear hL8 hb8 hA8 HI7 HQ7
        go_wp2_with fail
        refine CR.out.mono ?_
        rintro e w9 ⟨rfl, hb9⟩
        have HB9 : Hid (Below b0 w w9) := HB8.out.trans (hb9.mono (Nat.le_trans h00 HB8.out.size))
        clear hb9
        go_wp2
        go_ret
        exact ⟨rfl, by rw [← HB0.out]; exact HB9.out⟩
end Go.Proofs.Ythakjmfjbibbjaa
