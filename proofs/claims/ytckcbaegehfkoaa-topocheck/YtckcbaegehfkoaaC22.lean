/-
  The program's Read keeps its contract (I2).
-/
import Derived.Test.YtckcbaegehfkoaaC16
import Derived.Test.YtckcbaegehfkoaaC19
import Derived.Test.YtckcbaegehfkoaaC21
namespace Go.Proofs.Ytckcbaegehfkoaa
open Go.RowKit Go.Lib

/-- What follows each other in the rows are just as many pairs as there are edges. -/
def Covers (es : List (Int × Int)) (LL : List (List Int)) : Prop := ∃ E, Rises E ∧ (∀ x, x ∈ E ↔ x ∈ LL.flatMap peL) ∧ E.length = es.length
/-- The ways between T's vertices, in order. -/
def Ways (m : Nat) (es : List (Int × Int)) (T : List Int) (LL : List (List Int)) : Prop := LL.Perm (betL m es T) ∧ LL.Pairwise (fun A B => lt3 (keyL B) (keyL A) = false)
structure ReadYes (m : Nat) (es : List (Int × Int)) (kd : Int) (T : List Int) (LL : List (List Int)) : Prop where
  right : RightG m es
  tops : T = forkL m es
  ways : Ways m es T LL
  sub : SubL m es kd T LL
  cov : Covers es LL
def ReadNo (n : Int) (es : List (Int × Int)) : Prop := ¬ RightG n es ∨ ((forkL n.toNat es).length ≠ 4 ∧ (forkL n.toNat es).length ≠ 2) ∨ ∃ LL, Ways n.toNat es (forkL n.toNat es) LL ∧ ¬ (SubL n es (if (forkL n.toNat es).length = 4 then 1 else 2) (forkL n.toNat es) LL ∧ Covers es LL)
/-- What Read tells. -/
def ReadTold (n : Int) (es : List (Int × Int)) (w w' : World) (v : Value) : Prop := ∃ kd ta tc T pa pc LL ok, v = .tuple #[.agg #[.int .i64 kd, .slice ta T.length tc, .slice pa LL.length pc], .bool ok] ∧ IAt w' ta T ∧ LLS w' pa LL ∧ Below w.heap.size w w' ∧ ((ok = true ∧ ReadYes n.toNat es kd T LL) ∨ (ok = false ∧ kd = 0 ∧ T = [] ∧ LL = [] ∧ ReadNo n es))
theorem LLFar.lls {w : World} {base : Nat} {a : Option Addr} {LL : List (List Int)} (h : LLFar w base a LL) (hne : ∀ L ∈ LL, 0 < L.length) : LLS w a LL := fun h0 => by
  obtain ⟨g, off, e, hg, _, hc⟩ := h h0
  refine ⟨g, off, e, hg, fun k hk => ?_⟩
  obtain ⟨ak, ck, h1, h2, _, h4⟩ := hc k hk
  refine ⟨ak, ck, h1, h2, h4, fun e2 => ?_⟩
  obtain ⟨g', o', e3, _⟩ := h2 (hne _ (List.getElem_mem hk))
  rw [e2] at e3
  cases e3
theorem fork_dg {m : Nat} {es : List (Int × Int)} : ∀ t ∈ forkL m es, dg es t = 3 := fun t ht => by
  unfold forkL at ht
  obtain ⟨v, hv, rfl⟩ := List.mem_map.1 ht
  rw [List.mem_filter] at hv
  exact of_decide_eq_true hv.2
theorem read_no {n : Int} {es : List (Int × Int)} {w w' : World} (hb : Below w.heap.size w w') (h : ReadNo n es) : ReadTold n es w w' (.tuple #[.agg #[.int .i64 0, .slice none 0 0, .slice none 0 0], .bool false]) :=
  ⟨0, none, 0, [], none, 0, [], false, rfl, iat_nil _ _, (fun h => absurd h (by simp)), hb, Or.inr ⟨rfl, rfl, rfl, rfl, h⟩⟩
theorem zero_three {w : World} {B : Nat} {x y z : Value} {T : TypeId} (h : w.heap[B]? = some (.cells #[x, y, z] T (0, 0))) : (w.cell? ⟨B, 0, none⟩ = some x ∧ w.frozen? ⟨B, 0, none⟩ = false) ∧ (w.cell? ⟨B, 1, none⟩ = some y ∧ w.frozen? ⟨B, 1, none⟩ = false) ∧ (w.cell? ⟨B, 2, none⟩ = some z ∧ w.frozen? ⟨B, 2, none⟩ = false) :=
  ⟨⟨cell_of_heap h 0, frozen_of_heap h 0⟩, ⟨cell_of_heap h 1, frozen_of_heap h 1⟩, ⟨cell_of_heap h 2, frozen_of_heap h 2⟩⟩
theorem below_three {B : Nat} {w0 w : World} (h : Below B w0 w) {b : Nat} (hb : B ≤ b) (x y z : Value) : Below B w0 (((w.setCell ⟨b, 0, none⟩ x).setCell ⟨b, 1, none⟩ y).setCell ⟨b, 2, none⟩ z) :=
  ((h.setCell (p := ⟨b, 0, none⟩) hb x).setCell (p := ⟨b, 1, none⟩) hb y).setCell (p := ⟨b, 2, none⟩) hb z
theorem kept_three (w : World) (b : Nat) (x y z : Value) : KeptBut (fun q => q = b) w (((w.setCell ⟨b, 0, none⟩ x).setCell ⟨b, 1, none⟩ y).setCell ⟨b, 2, none⟩ z) :=
  (kept_set w ⟨b, 0, none⟩ x).trans ((kept_set _ ⟨b, 1, none⟩ y).trans (kept_set _ ⟨b, 2, none⟩ z))

set_option maxHeartbeats 8000000 in
set_option maxRecDepth 100000 in
theorem read_any (n : Int) (a : Option Addr) (cap : Nat) (es : List (Int × Int)) (b : Bool) (w : World) (hN : es.length ≤ 1000000) (hE : EAt w a es) (hb : b = true ↔ RightG n es) :
    Calls Try.prog 16 #[.agg #[.int .i64 n, .slice a es.length cap]] w fun e w' => ∃ v, e = .returned v ∧ ReadTold n es w w' v := by
  obtain ⟨N, hNe⟩ := ex_eq es.length
  obtain ⟨W, hW, hsW, hO0, hO1, hbW⟩ := new_two w (.cells #[.int .i64 n, .slice a N cap] 30) (.cells #[.int .i64 0, .slice none 0 0, .slice none 0 0] 32)
  obtain ⟨b0, hb0⟩ := ex_eq w.heap.size
  rw [← hb0] at hsW hO0 hO1 hbW
  have HGC : Hid (∀ X, Below W.heap.size W X → (X.cell? ⟨b0, 0, none⟩ = some (.int .i64 n) ∧ X.cell? ⟨b0, 1, none⟩ = some (.slice a N cap)) ∧ X.heap[b0 + 1]? = some (.cells #[.int .i64 0, .slice none 0 0, .slice none 0 0] 32 (0, 0)) ∧ Below b0 w X) := fun X hX => by
    have o := (hX.block _ (by omega)).trans hO0
    have o1 := (hX.block (b0 + 1) (by omega)).trans hO1
    exact ⟨⟨cell_of_heap o 0, cell_of_heap o 1⟩, o1, hbW.trans (hX.mono (by omega))⟩
  have HE : Hid (∀ X, Below b0 w X → EAt X a es) := fun X hX => hE.below (by rw [← hb0]; exact hX)
  have CF := hid (forks_any n a cap es b W hN (HE.out W hbW) hb)
  rw [← hNe] at CF ⊢
  have HNE := hid hNe
  have HNN := hid hN
  have HW := hid hW
  have HB0 := hid hb0
  have HBR := hid hb
  have hszW : b0 + 2 ≤ W.heap.size := by omega
  have hwW : b0 ≤ W.heap.size := by omega
  obtain ⟨⟨x0, x1⟩, _, _⟩ := HGC.out W (Below.refl _ _)
  clear hN hE hb hNe hW hsW hO0 hO1 hbW hb0
  go_enter Try.func16, Try.ntmps16
  go_upto_region 1 with fail
  rw [← HW.out, ← HB0.out]
  clear HW
  go_wp2_with fail
  refine CF.out.mono ?_
  rintro e w1 ⟨ta, tc, T, rfl, hT, hIT, hgT, hb1⟩
  obtain ⟨NT, hNT⟩ := ex_eq T.length
  obtain ⟨s0, hs0⟩ := ex_eq w1.heap.size
  obtain ⟨W1, hW1⟩ := ex_eq (w1.alloc (.cells #[.int .i64 0, .slice ta NT tc, .slice none 0 0] 32))
  have o1 := heap_alloc_new w1 (.cells #[.int .i64 0, .slice ta NT tc, .slice none 0 0] 32)
  rw [← hW1, ← hs0] at o1
  have hb11 : Below w1.heap.size w1 W1 := by rw [hW1]; exact below_one _ _
  have hX1 : Below W.heap.size W W1 := hb1.trans (hb11.mono hb1.size)
  have hsWs : W.heap.size ≤ s0 := by rw [hs0]; exact hb1.size
  have hs0lt : s0 < W1.heap.size := (Array.getElem?_eq_some_iff.1 o1).1
  obtain ⟨⟨x0, x1⟩, z, hbX1⟩ := HGC.out W1 hX1
  obtain ⟨⟨y0, yf0⟩, ⟨y1, yf1⟩, ⟨y2, yf2⟩⟩ := zero_three o1
  obtain ⟨⟨z0, zf0⟩, ⟨z1, zf1⟩, ⟨z2, zf2⟩⟩ := zero_three z
  rw [← hNT]
  have HT := hid hT
  have HIT := hid hIT
  have HGT := hid hgT
  have HNT := hid hNT
  have HW1 := hid hW1
  have HS0 := hid hs0
  have HBX1 := hid hbX1
  have HX1 := hid hX1
  have hrs : ¬ b0 + 1 = s0 := by omega
  have hws1 : b0 ≤ s0 := by omega
  have HB11 := hid hb11
  clear CF hb1 hb11 hX1 z o1 hT hIT hgT hNT hW1 hs0 hbX1
  go_upto_region 2 with fail
  rw [← HW1.out, ← HS0.out]
  clear HW1
  have HZB : Hid (∀ X : World, ReadNo n es → Below b0 w X → ReadTold n es w (((X.setCell ⟨b0 + 1, 0, none⟩ (.int .i64 0)).setCell ⟨b0 + 1, 1, none⟩ (.slice none 0 0)).setCell ⟨b0 + 1, 2, none⟩ (.slice none 0 0)) (.tuple #[.agg #[.int .i64 0, .slice none 0 0, .slice none 0 0], .bool false])) := fun X h hX => by
    refine read_no ?_ h
    rw [← HB0.out]
    exact below_three hX (Nat.le_succ _) _ _ _
  by_cases h4 : NT = 4
  · subst h4
    have hbt : b = true := by
      cases b with
      | true => rfl
      | false =>
        have h := HT.out
        have h2 := HNT.out
        rw [h] at h2
        simp at h2
    have hR := HBR.out.1 hbt
    obtain ⟨m, rfl⟩ : ∃ m : Nat, n = (m : Int) := ⟨n.toNat, by have := hR.1; omega⟩
    have hTf : T = forkL m es := by
      have h := HT.out
      rw [if_pos hbt] at h
      simpa using h
    have HR := hid hR
    have HTF := hid hTf
    obtain ⟨W2, hW2⟩ := ex_eq (W1.setCell ⟨s0, 0, none⟩ (.int .i64 1))
    have hk2 : KeptBut (fun q => q = s0) W1 W2 := by rw [hW2]; exact kept_set W1 ⟨s0, 0, none⟩ _
    have hbX2 : Below b0 w W2 := by rw [hW2]; exact HBX1.out.setCell (p := ⟨s0, 0, none⟩) hws1 _
    have hs2 : s0 < W2.heap.size := Nat.lt_of_lt_of_le hs0lt hk2.size
    have hk12 : KeptBut (fun q => q = s0) w1 W2 := (KeptBut.of_whole _ HB11.out).trans hk2
    have hnT : ∀ g off, ta = some ⟨g, off, none⟩ → 0 < T.length → ¬ g = s0 := fun g off e h0 e2 => by
      obtain ⟨g', off', e3, hg', _⟩ := HIT.out h0
      rw [e] at e3
      cases e3
      have := HS0.out
      omega
    have CB := hid (between_any m a cap es ta tc T W2 (HE.out W2 hbX2) hR (HIT.out.kept hk12 hnT) (by rw [← HNT.out]; omega) (by rw [hTf]; exact fork_dg))
    rw [← HNE.out, ← HNT.out] at CB
    have u0 : W2.cell? ⟨b0, 0, none⟩ = some (.int .i64 m) := (hk2.cell (p := ⟨b0, 0, none⟩) (block_lt_of_cell x0) (by show ¬ b0 = s0; omega)).trans x0
    have u1 : W2.cell? ⟨b0, 1, none⟩ = some (.slice a N cap) := (hk2.cell (p := ⟨b0, 1, none⟩) (block_lt_of_cell x1) (by show ¬ b0 = s0; omega)).trans x1
    have v0 : W2.cell? ⟨s0, 0, none⟩ = some (.int .i64 1) := by rw [hW2]; exact World.cell?_setCell_same' _ _ _ (by rw [y0]; rfl)
    have v1 : W2.cell? ⟨s0, 1, none⟩ = some (.slice ta 4 tc) := by rw [hW2, World.cell?_setCell_other _ _ _ _ (by simp)]; exact y1
    have v2 : W2.cell? ⟨s0, 2, none⟩ = some (.slice none 0 0) := by rw [hW2, World.cell?_setCell_other _ _ _ _ (by simp)]; exact y2
    have vf2 : W2.frozen? ⟨s0, 2, none⟩ = false := by rw [hW2, World.frozen?_setCell]; exact yf2
    have zz2 : W2.heap[b0 + 1]? = some (.cells #[.int .i64 0, .slice none 0 0, .slice none 0 0] 32 (0, 0)) := (hk2.block (b0 + 1) (by have := block_lt_of_cell z0; exact this) hrs).trans ((HGC.out W1 HX1.out).2.1)
    have HZ2 := hid zz2
    have HW2 := hid hW2
    have HK12 := hid hk12
    have HNTT := hid hnT
    have HBX2 := hid hbX2
    clear hbt hR hTf hW2 hk2 hbX2 hk12 hnT zz2 HBX1 HX1 HB11 HT
    go_upto_region 8 with fail
    rw [← HW2.out]
    clear x0 x1 y0 y1 y2 yf0 yf1 yf2 z0 z1 z2 zf0 zf1 zf2 HW2
    go_wp2_with fail
    refine CB.out.mono ?_
    rintro e w3 ⟨pa, pc, LL, rfl, hperm, hpw, hfar, hb3⟩
    obtain ⟨M, hM⟩ := ex_eq LL.length
    have hM12 : LL.length ≤ 12 := by
      have h1 := hperm.length_eq
      have h2 := betL_len (m := m) (T := T) (es := es) (by rw [HTF.out]; exact fork_dg)
      have h3 := HNT.out
      omega
    have hEach : ∀ L ∈ LL, 2 ≤ L.length ∧ L.length ≤ 1001 ∧ ∀ x ∈ L, 0 ≤ x ∧ x < m := fun L hL => by
      obtain ⟨t, ht, x, hx, rfl, _⟩ := betL_mem.1 (hperm.mem_iff.1 hL)
      have hd : dg es t = 3 := by rw [HTF.out] at ht; exact fork_dg t ht
      have h := (fol_ok HR.out (by rw [hd]; decide) ((nb_adj HR.out).1 hx)).tr
      have h1 := h.len HR.out
      have h2 := HR.out.2.1
      exact ⟨h.two, by omega, h.in HR.out⟩
    have hflat : LL.flatten.length ≤ 1000000 := by
      have h1 := flat_len (K := 1001) (fun L hL => (hEach L hL).2.1)
      omega
    have hwf : WfR LL := fun L hL x hx => by
      have h1 := (hEach L hL).2.2 x hx
      have h2 := HR.out.2.1
      exact WalkArith.wf_i64 (by omega)
    obtain ⟨W4, hW4⟩ := ex_eq (w3.setCell ⟨s0, 2, none⟩ (.slice pa M pc))
    have hk3 : KeptBut (fun q => q = s0) W2 w3 := KeptBut.of_whole _ hb3
    have hk4 : KeptBut (fun q => q = s0) w3 W4 := by rw [hW4]; exact kept_set w3 ⟨s0, 2, none⟩ _
    have hk24 := hk3.trans hk4
    have hs3 : s0 < w3.heap.size := Nat.lt_of_lt_of_le hs2 hk3.size
    have p0 : W4.cell? ⟨b0, 0, none⟩ = some (.int .i64 m) := (hk24.cell (p := ⟨b0, 0, none⟩) (block_lt_of_cell u0) (by show ¬ b0 = s0; omega)).trans u0
    have p1 : W4.cell? ⟨b0, 1, none⟩ = some (.slice a N cap) := (hk24.cell (p := ⟨b0, 1, none⟩) (block_lt_of_cell u1) (by show ¬ b0 = s0; omega)).trans u1
    have c0 : w3.cell? ⟨s0, 0, none⟩ = some (.int .i64 1) := (hb3.cell (p := ⟨s0, 0, none⟩) hs2).trans v0
    have c1 : w3.cell? ⟨s0, 1, none⟩ = some (.slice ta 4 tc) := (hb3.cell (p := ⟨s0, 1, none⟩) hs2).trans v1
    have c2 : w3.cell? ⟨s0, 2, none⟩ = some (.slice none 0 0) := (hb3.cell (p := ⟨s0, 2, none⟩) hs2).trans v2
    have cf2 : w3.frozen? ⟨s0, 2, none⟩ = false := (hb3.frozen (p := ⟨s0, 2, none⟩) hs2).trans vf2
    have q0 : W4.cell? ⟨s0, 0, none⟩ = some (.int .i64 1) := by rw [hW4, World.cell?_setCell_other _ _ _ _ (by simp)]; exact c0
    have q1 : W4.cell? ⟨s0, 1, none⟩ = some (.slice ta 4 tc) := by rw [hW4, World.cell?_setCell_other _ _ _ _ (by simp)]; exact c1
    have q2 : W4.cell? ⟨s0, 2, none⟩ = some (.slice pa M pc) := by rw [hW4]; exact World.cell?_setCell_same' _ _ _ (by rw [c2]; rfl)
    have z4 : W4.heap[b0 + 1]? = some (.cells #[.int .i64 0, .slice none 0 0, .slice none 0 0] 32 (0, 0)) := (hk24.block (b0 + 1) (Array.getElem?_eq_some_iff.1 HZ2.out).1 hrs).trans HZ2.out
    have hbX4 : Below b0 w W4 := by
      rw [hW4]
      exact (HBX2.out.trans (hb3.mono (by omega))).setCell (p := ⟨s0, 2, none⟩) hws1 _
    have hIT4 : IAt W4 ta T := HIT.out.kept (HK12.out.trans hk24) HNTT.out
    have hLL4 : LLFar W4 (b0 + 2) pa LL := (hfar.kept hk4 (fun q hq e => by omega)).lower (by omega)
    have HKP : Hid (∀ X, Below W4.heap.size W4 X → X.cell? ⟨b0, 0, none⟩ = some (.int .i64 m) ∧ X.cell? ⟨b0, 1, none⟩ = some (.slice a N cap) ∧ X.cell? ⟨s0, 0, none⟩ = some (.int .i64 1) ∧ X.cell? ⟨s0, 1, none⟩ = some (.slice ta 4 tc) ∧ X.cell? ⟨s0, 2, none⟩ = some (.slice pa M pc)) := fun X h =>
      ⟨(h.cell (p := ⟨b0, 0, none⟩) (block_lt_of_cell p0)).trans p0, (h.cell (p := ⟨b0, 1, none⟩) (block_lt_of_cell p1)).trans p1, (h.cell (p := ⟨s0, 0, none⟩) (block_lt_of_cell q0)).trans q0, (h.cell (p := ⟨s0, 1, none⟩) (block_lt_of_cell q1)).trans q1, (h.cell (p := ⟨s0, 2, none⟩) (block_lt_of_cell q2)).trans q2⟩
    have HKR : Hid (∀ X, Below W4.heap.size W4 X → X.heap[b0 + 1]? = some (.cells #[.int .i64 0, .slice none 0 0, .slice none 0 0] 32 (0, 0)) ∧ IAt X ta T ∧ LLFar X (b0 + 2) pa LL ∧ Below b0 w X) := fun X h =>
      ⟨(h.block _ (Array.getElem?_eq_some_iff.1 z4).1).trans z4, hIT4.below h, hLL4.below h, hbX4.trans (h.mono (by have := hbX4.size; have := HB0.out; omega))⟩
    obtain ⟨rc, hrc⟩ := boolR_of (SubL m es 1 T LL)
    have CK : Hid (Calls Try.prog 14 #[.agg #[.int .i64 m, .slice a N cap], .agg #[.int .i64 1, .slice ta 4 tc, .slice pa M pc]] W4.drew fun e w' => e = .returned (.bool rc) ∧ Below W4.drew.heap.size W4.drew w') := by
      have hD := (HKR.out W4.drew (Below.refl _ _).drew)
      have h := tcheck_any m a cap es b 1 ta tc T pa pc LL rc W4.drew HNN.out (HE.out _ hD.2.2.2) HBR.out hD.2.1 (by omega) (fun L hL => by have := (hEach L hL).2.1; omega) hD.2.2.1.at hwf hrc
      rw [← HNE.out, ← HNT.out, ← hM] at h
      exact h
    have CE : Hid (∀ X, Below W4.heap.size W4 X → Calls Try.prog 22 #[.agg #[.int .i64 1, .slice ta 4 tc, .slice pa M pc]] X fun e w' => ∃ a' c' es', e = .returned (.slice a' es'.length c') ∧ Sl a' c' es'.length ∧ EAt w' a' es' ∧ Rises es' ∧ (∀ x, x ∈ es' ↔ x ∈ LL.flatMap peL) ∧ Below X.heap.size X w') := fun X h => by
      rw [hM]; exact tedges_any 1 ta 4 tc pa pc LL X hflat (by omega) (HKR.out X h).2.2.1.at
    have HWAY : Hid (Ways m es T LL) := ⟨hperm, hpw⟩
    have HRC := hid hrc
    have HPOS : Hid (∀ L ∈ LL, 0 < L.length) := fun L hL => by have := (hEach L hL).1; omega
    have HMM := hid hM
    have HW4 := hid hW4
    have HFOR : Hid ((m : Int).toNat = m) := by show _ = _; simp
    have hS := HKP.out W4.drew (Below.refl _ _).drew
    have HKQ : Hid (∀ X, Below W4.drew.heap.size W4.drew X → Below W4.heap.size W4 X) := fun X h => (Below.refl _ _).drew.trans (h.mono (Nat.le_refl _))
    rw [← hM]
    clear CB hperm hpw hfar hb3 hM hM12 hEach hflat hwf hW4 hk3 hk4 hk24 z4 hbX4 hIT4 hLL4 hrc u0 u1 v0 v1 v2 vf2
    go_upto_region 9 with fail
    rw [← HW4.out]
    clear c0 c1 c2 cf2 HW4
    cases rc with
    | false =>
      have HRN : Hid (ReadNo m es) := by
        refine Or.inr (Or.inr ⟨LL, ?_, ?_⟩)
        · rw [HFOR.out, ← HTF.out]; exact HWAY.out
        · rw [HFOR.out, ← HTF.out, ← HNT.out]
          intro h
          have : false = true := HRC.out.2 h.1
          cases this
      refine wp_region_held_drew (S := (fun X : World => X.cell? ⟨b0, 0, none⟩ = some (.int .i64 m) ∧ X.cell? ⟨b0, 1, none⟩ = some (.slice a N cap) ∧ X.cell? ⟨s0, 0, none⟩ = some (.int .i64 1) ∧ X.cell? ⟨s0, 1, none⟩ = some (.slice ta 4 tc) ∧ X.cell? ⟨s0, 2, none⟩ = some (.slice pa M pc))) (by kernel_rfl) hS (fun hHeld => ?_)
      (refine takeW (i := 0) (dst := some 23) (v := ?_) rfl rfl (by kernel_rfl) (by kernel_rfl) (by kernel_rfl) (fun _ _ _ h => h) (Or.inl ⟨by rfl, ?_⟩) hHeld ?_; rotate_left; focus (intro w hSw; (try dsimp only at hSw); go_simp; (try with_reducible rfl); done))
      try simp only [Act.put, List.setIfInBounds_toArray, List.set_cons_zero, List.set_cons_succ]
      (refine takeW (i := 1) (dst := some 24) (v := ?_) rfl rfl (by kernel_rfl) (by kernel_rfl) (by kernel_rfl) (fun _ _ _ h => h) (Or.inl ⟨by rfl, ?_⟩) hHeld ?_; rotate_left; focus (intro w hSw; (try dsimp only at hSw); go_simp; (try with_reducible rfl); done))
      try simp only [Act.put, List.setIfInBounds_toArray, List.set_cons_zero, List.set_cons_succ]
      refine wpAnyH_ready (rs := [2]) (by kernel_rfl) (by simp) ?_
      refine AllReadyH.cons (o := _) rfl (fun KK hK => ?_) AllReadyH.nil
      go_simp
      refine CK.out.mono ?_
      rintro e y1' ⟨rfl, hb7⟩
      have HY1 := hid (HKQ.out y1' hb7)
      have hS1 := HKP.out y1' HY1.out
      clear hb7
      refine hK.out _ _ hS1 (fun hHeld => ?_)
      clear hK KK
      try simp only [Act.put]
      try simp only [List.setIfInBounds_toArray]
      try simp only [List.set_cons_succ]
      try simp only [List.set_cons_zero]
      (refine takeW (i := 3) (dst := some 26) (v := ?_) rfl rfl (by kernel_rfl) (by kernel_rfl) (by kernel_rfl) (fun _ _ _ h => h) (Or.inl ⟨by rfl, ?_⟩) hHeld ?_; rotate_left; focus (intro w hSw; (try dsimp only at hSw); go_simp; (try with_reducible rfl); done))
      try simp only [Act.put, List.setIfInBounds_toArray, List.set_cons_zero, List.set_cons_succ]
      (refine takeW (i := 4) (dst := some 27) (v := ?_) rfl rfl (by kernel_rfl) (by kernel_rfl) (by kernel_rfl) (fun _ _ _ h => h) (Or.inl ⟨by rfl, ?_⟩) hHeld ?_; rotate_left; focus (intro w hSw; (try dsimp only at hSw); go_simp; (try with_reducible rfl); done))
      try simp only [Act.put, List.setIfInBounds_toArray, List.set_cons_zero, List.set_cons_succ]
      first | refine takeW (i := 5) (dst := some 28) (v := undef) rfl rfl (by kernel_rfl) (by kernel_rfl) (by kernel_rfl) (fun _ _ _ h => h) (Or.inr ⟨by rfl, rfl⟩) hHeld ?_ | (refine takeW (i := 5) (dst := some 28) (v := ?_) rfl rfl (by kernel_rfl) (by kernel_rfl) (by kernel_rfl) (fun _ _ _ h => h) (Or.inl ⟨by rfl, ?_⟩) hHeld ?_; rotate_left; focus (intro w hSw; (try dsimp only at hSw); go_simp; (try with_reducible rfl); done))
      try simp only [Act.put, List.setIfInBounds_toArray, List.set_cons_zero, List.set_cons_succ]
      first | refine takeW (i := 6) (dst := some 29) (v := undef) rfl rfl (by kernel_rfl) (by kernel_rfl) (by kernel_rfl) (fun _ _ _ h => h) (Or.inr ⟨by rfl, rfl⟩) hHeld ?_ | (refine takeW (i := 6) (dst := some 29) (v := ?_) rfl rfl (by kernel_rfl) (by kernel_rfl) (by kernel_rfl) (fun _ _ _ h => h) (Or.inl ⟨by rfl, ?_⟩) hHeld ?_; rotate_left; focus (intro w hSw; (try dsimp only at hSw); go_simp; (try with_reducible rfl); done))
      try simp only [Act.put, List.setIfInBounds_toArray, List.set_cons_zero, List.set_cons_succ]
      first | refine takeW (i := 7) (dst := some 30) (v := undef) rfl rfl (by kernel_rfl) (by kernel_rfl) (by kernel_rfl) (fun _ _ _ h => h) (Or.inr ⟨by rfl, rfl⟩) hHeld ?_ | (refine takeW (i := 7) (dst := some 30) (v := ?_) rfl rfl (by kernel_rfl) (by kernel_rfl) (by kernel_rfl) (fun _ _ _ h => h) (Or.inl ⟨by rfl, ?_⟩) hHeld ?_; rotate_left; focus (intro w hSw; (try dsimp only at hSw); go_simp; (try with_reducible rfl); done))
      try simp only [Act.put, List.setIfInBounds_toArray, List.set_cons_zero, List.set_cons_succ]
      first | refine takeW (i := 8) (dst := some 31) (v := undef) rfl rfl (by kernel_rfl) (by kernel_rfl) (by kernel_rfl) (fun _ _ _ h => h) (Or.inr ⟨by rfl, rfl⟩) hHeld ?_ | (refine takeW (i := 8) (dst := some 31) (v := ?_) rfl rfl (by kernel_rfl) (by kernel_rfl) (by kernel_rfl) (fun _ _ _ h => h) (Or.inl ⟨by rfl, ?_⟩) hHeld ?_; rotate_left; focus (intro w hSw; (try dsimp only at hSw); go_simp; (try with_reducible rfl); done))
      try simp only [Act.put, List.setIfInBounds_toArray, List.set_cons_zero, List.set_cons_succ]
      first | refine takeW (i := 9) (dst := some 32) (v := undef) rfl rfl (by kernel_rfl) (by kernel_rfl) (by kernel_rfl) (fun _ _ _ h => h) (Or.inr ⟨by rfl, rfl⟩) hHeld ?_ | (refine takeW (i := 9) (dst := some 32) (v := ?_) rfl rfl (by kernel_rfl) (by kernel_rfl) (by kernel_rfl) (fun _ _ _ h => h) (Or.inl ⟨by rfl, ?_⟩) hHeld ?_; rotate_left; focus (intro w hSw; (try dsimp only at hSw); go_simp; (try with_reducible rfl); done))
      try simp only [Act.put, List.setIfInBounds_toArray, List.set_cons_zero, List.set_cons_succ]
      first | refine takeW (i := 10) (dst := some 33) (v := undef) rfl rfl (by kernel_rfl) (by kernel_rfl) (by kernel_rfl) (fun _ _ _ h => h) (Or.inr ⟨by rfl, rfl⟩) hHeld ?_ | (refine takeW (i := 10) (dst := some 33) (v := ?_) rfl rfl (by kernel_rfl) (by kernel_rfl) (by kernel_rfl) (fun _ _ _ h => h) (Or.inl ⟨by rfl, ?_⟩) hHeld ?_; rotate_left; focus (intro w hSw; (try dsimp only at hSw); go_simp; (try with_reducible rfl); done))
      try simp only [Act.put, List.setIfInBounds_toArray, List.set_cons_zero, List.set_cons_succ]
      first | refine takeW (i := 11) (dst := some 34) (v := undef) rfl rfl (by kernel_rfl) (by kernel_rfl) (by kernel_rfl) (fun _ _ _ h => h) (Or.inr ⟨by rfl, rfl⟩) hHeld ?_ | (refine takeW (i := 11) (dst := some 34) (v := ?_) rfl rfl (by kernel_rfl) (by kernel_rfl) (by kernel_rfl) (fun _ _ _ h => h) (Or.inl ⟨by rfl, ?_⟩) hHeld ?_; rotate_left; focus (intro w hSw; (try dsimp only at hSw); go_simp; (try with_reducible rfl); done))
      try simp only [Act.put, List.setIfInBounds_toArray, List.set_cons_zero, List.set_cons_succ]
      (refine takeW (i := 12) (dst := some 35) (v := ?_) rfl rfl (by kernel_rfl) (by kernel_rfl) (by kernel_rfl) (fun _ _ _ h => h) (Or.inl ⟨by rfl, ?_⟩) hHeld ?_; rotate_left; focus (intro w hSw; (try dsimp only at hSw); go_simp; (try with_reducible rfl); done))
      try simp only [Act.put, List.setIfInBounds_toArray, List.set_cons_zero, List.set_cons_succ]
      refine wpAnyH_done (by kernel_rfl) ?_ _
      obtain ⟨hz, _, _, hbf⟩ := HKR.out y1' HY1.out
      obtain ⟨⟨z0, zf0⟩, ⟨z1, zf1⟩, ⟨z2, zf2⟩⟩ := zero_three hz
      have HZ := hid (HZB.out y1' HRN.out hbf)
      clear hHeld hS hS1 CK CE HKP hz hbf p0 p1 q0 q1 q2
      go_wp2
      refine bodyPost_ret (v := .tuple #[.agg #[.int .i64 0, .slice none 0 0, .slice none 0 0], .bool false]) ?_ rfl ⟨_, rfl, HZ.out⟩
      rw [results_cell_tmp rfl]
      go_simp
    | true =>
      refine wp_region_held_drew (S := (fun X : World => X.cell? ⟨b0, 0, none⟩ = some (.int .i64 m) ∧ X.cell? ⟨b0, 1, none⟩ = some (.slice a N cap) ∧ X.cell? ⟨s0, 0, none⟩ = some (.int .i64 1) ∧ X.cell? ⟨s0, 1, none⟩ = some (.slice ta 4 tc) ∧ X.cell? ⟨s0, 2, none⟩ = some (.slice pa M pc))) (by kernel_rfl) hS (fun hHeld => ?_)
      (refine takeW (i := 0) (dst := some 23) (v := ?_) rfl rfl (by kernel_rfl) (by kernel_rfl) (by kernel_rfl) (fun _ _ _ h => h) (Or.inl ⟨by rfl, ?_⟩) hHeld ?_; rotate_left; focus (intro w hSw; (try dsimp only at hSw); go_simp; (try with_reducible rfl); done))
      try simp only [Act.put, List.setIfInBounds_toArray, List.set_cons_zero, List.set_cons_succ]
      (refine takeW (i := 1) (dst := some 24) (v := ?_) rfl rfl (by kernel_rfl) (by kernel_rfl) (by kernel_rfl) (fun _ _ _ h => h) (Or.inl ⟨by rfl, ?_⟩) hHeld ?_; rotate_left; focus (intro w hSw; (try dsimp only at hSw); go_simp; (try with_reducible rfl); done))
      try simp only [Act.put, List.setIfInBounds_toArray, List.set_cons_zero, List.set_cons_succ]
      refine wpAnyH_ready (rs := [2]) (by kernel_rfl) (by simp) ?_
      refine AllReadyH.cons (o := _) rfl (fun KK hK => ?_) AllReadyH.nil
      go_simp
      refine CK.out.mono ?_
      rintro e y1' ⟨rfl, hb7⟩
      have HY1 := hid (HKQ.out y1' hb7)
      have hS1 := HKP.out y1' HY1.out
      clear hb7
      refine hK.out _ _ hS1 (fun hHeld => ?_)
      clear hK KK
      try simp only [Act.put]
      try simp only [List.setIfInBounds_toArray]
      try simp only [List.set_cons_succ]
      try simp only [List.set_cons_zero]
      (refine takeW (i := 3) (dst := some 26) (v := ?_) rfl rfl (by kernel_rfl) (by kernel_rfl) (by kernel_rfl) (fun _ _ _ h => h) (Or.inl ⟨by rfl, ?_⟩) hHeld ?_; rotate_left; focus (intro w hSw; (try dsimp only at hSw); go_simp; (try with_reducible rfl); done))
      try simp only [Act.put, List.setIfInBounds_toArray, List.set_cons_zero, List.set_cons_succ]
      (refine takeW (i := 4) (dst := some 27) (v := ?_) rfl rfl (by kernel_rfl) (by kernel_rfl) (by kernel_rfl) (fun _ _ _ h => h) (Or.inl ⟨by rfl, ?_⟩) hHeld ?_; rotate_left; focus (intro w hSw; (try dsimp only at hSw); go_simp; (try with_reducible rfl); done))
      try simp only [Act.put, List.setIfInBounds_toArray, List.set_cons_zero, List.set_cons_succ]
      first | refine takeW (i := 5) (dst := some 28) (v := undef) rfl rfl (by kernel_rfl) (by kernel_rfl) (by kernel_rfl) (fun _ _ _ h => h) (Or.inr ⟨by rfl, rfl⟩) hHeld ?_ | (refine takeW (i := 5) (dst := some 28) (v := ?_) rfl rfl (by kernel_rfl) (by kernel_rfl) (by kernel_rfl) (fun _ _ _ h => h) (Or.inl ⟨by rfl, ?_⟩) hHeld ?_; rotate_left; focus (intro w hSw; (try dsimp only at hSw); go_simp; (try with_reducible rfl); done))
      try simp only [Act.put, List.setIfInBounds_toArray, List.set_cons_zero, List.set_cons_succ]
      first | refine takeW (i := 8) (dst := some 31) (v := undef) rfl rfl (by kernel_rfl) (by kernel_rfl) (by kernel_rfl) (fun _ _ _ h => h) (Or.inr ⟨by rfl, rfl⟩) hHeld ?_ | (refine takeW (i := 8) (dst := some 31) (v := ?_) rfl rfl (by kernel_rfl) (by kernel_rfl) (by kernel_rfl) (fun _ _ _ h => h) (Or.inl ⟨by rfl, ?_⟩) hHeld ?_; rotate_left; focus (intro w hSw; (try dsimp only at hSw); go_simp; (try with_reducible rfl); done))
      try simp only [Act.put, List.setIfInBounds_toArray, List.set_cons_zero, List.set_cons_succ]
      first | refine takeW (i := 9) (dst := some 32) (v := undef) rfl rfl (by kernel_rfl) (by kernel_rfl) (by kernel_rfl) (fun _ _ _ h => h) (Or.inr ⟨by rfl, rfl⟩) hHeld ?_ | (refine takeW (i := 9) (dst := some 32) (v := ?_) rfl rfl (by kernel_rfl) (by kernel_rfl) (by kernel_rfl) (fun _ _ _ h => h) (Or.inl ⟨by rfl, ?_⟩) hHeld ?_; rotate_left; focus (intro w hSw; (try dsimp only at hSw); go_simp; (try with_reducible rfl); done))
      try simp only [Act.put, List.setIfInBounds_toArray, List.set_cons_zero, List.set_cons_succ]
      first | refine takeW (i := 10) (dst := some 33) (v := undef) rfl rfl (by kernel_rfl) (by kernel_rfl) (by kernel_rfl) (fun _ _ _ h => h) (Or.inr ⟨by rfl, rfl⟩) hHeld ?_ | (refine takeW (i := 10) (dst := some 33) (v := ?_) rfl rfl (by kernel_rfl) (by kernel_rfl) (by kernel_rfl) (fun _ _ _ h => h) (Or.inl ⟨by rfl, ?_⟩) hHeld ?_; rotate_left; focus (intro w hSw; (try dsimp only at hSw); go_simp; (try with_reducible rfl); done))
      try simp only [Act.put, List.setIfInBounds_toArray, List.set_cons_zero, List.set_cons_succ]
      refine wpAnyH_ready (rs := [6]) (by kernel_rfl) (by simp) ?_
      refine AllReadyH.cons (o := _) rfl (fun KK hK => ?_) AllReadyH.nil
      go_simp
      refine (CE.out y1' HY1.out).mono ?_
      rintro e y2' ⟨a9, c9, E9, rfl, -, -, hR9, hm9, hb9⟩
      have HY2 : Hid (Below W4.heap.size W4 y2') := HY1.out.trans (hb9.mono HY1.out.size)
      have hS2 := HKP.out y2' HY2.out
      obtain ⟨K, hKe⟩ := ex_eq E9.length
      rw [← hKe]
      have HCV : Hid (K = N → Covers es LL) := fun e => ⟨E9, hR9, hm9, by rw [← hKe, e, HNE.out]⟩
      have HCN : Hid (Covers es LL → K = N) := fun ⟨E, h1, h2, h3⟩ => by
        rw [hKe, rises_one hR9 h1 (fun x => (hm9 x).trans (h2 x).symm), h3, HNE.out]
      clear hR9 hm9 hb9 hKe
      refine hK.out _ _ hS2 (fun hHeld => ?_)
      clear hK KK
      try simp only [Act.put]
      try simp only [List.setIfInBounds_toArray]
      try simp only [List.set_cons_succ]
      try simp only [List.set_cons_zero]
      first | refine takeW (i := 7) (dst := some 30) (v := undef) rfl rfl (by kernel_rfl) (by kernel_rfl) (by kernel_rfl) (fun _ _ _ h => h) (Or.inr ⟨by rfl, rfl⟩) hHeld ?_ | (refine takeW (i := 7) (dst := some 30) (v := ?_) rfl rfl (by kernel_rfl) (by kernel_rfl) (by kernel_rfl) (fun _ _ _ h => h) (Or.inl ⟨by rfl, ?_⟩) hHeld ?_; rotate_left; focus (intro w hSw; (try dsimp only at hSw); go_simp; (try with_reducible rfl); done))
      try simp only [Act.put, List.setIfInBounds_toArray, List.set_cons_zero, List.set_cons_succ]
      first | refine takeW (i := 11) (dst := some 34) (v := undef) rfl rfl (by kernel_rfl) (by kernel_rfl) (by kernel_rfl) (fun _ _ _ h => h) (Or.inr ⟨by rfl, rfl⟩) hHeld ?_ | (refine takeW (i := 11) (dst := some 34) (v := ?_) rfl rfl (by kernel_rfl) (by kernel_rfl) (by kernel_rfl) (fun _ _ _ h => h) (Or.inl ⟨by rfl, ?_⟩) hHeld ?_; rotate_left; focus (intro w hSw; (try dsimp only at hSw); go_simp; (try with_reducible rfl); done))
      try simp only [Act.put, List.setIfInBounds_toArray, List.set_cons_zero, List.set_cons_succ]
      (refine takeW (i := 12) (dst := some 35) (v := ?_) rfl rfl (by kernel_rfl) (by kernel_rfl) (by kernel_rfl) (fun _ _ _ h => h) (Or.inl ⟨by rfl, ?_⟩) hHeld ?_; rotate_left; focus (intro w hSw; (try dsimp only at hSw); go_simp; (try with_reducible rfl); done))
      try simp only [Act.put, List.setIfInBounds_toArray, List.set_cons_zero, List.set_cons_succ]
      refine wpAnyH_done (by kernel_rfl) ?_ _
      obtain ⟨hz, hIf, hLf, hbf⟩ := HKR.out y2' HY2.out
      obtain ⟨⟨z0, zf0⟩, ⟨z1, zf1⟩, ⟨z2, zf2⟩⟩ := zero_three hz
      obtain ⟨t0, t1, s0', s1', s2'⟩ := HKP.out y2' HY2.out
      by_cases hK : K = N
      · subst hK
        have HYES : Hid (ReadYes m es 1 T LL) := ⟨HR.out, HTF.out, HWAY.out, HRC.out.1 rfl, HCV.out rfl⟩
        have HZ : Hid (ReadTold m es w (((y2'.setCell ⟨b0 + 1, 0, none⟩ (.int .i64 1)).setCell ⟨b0 + 1, 1, none⟩ (.slice ta 4 tc)).setCell ⟨b0 + 1, 2, none⟩ (.slice pa M pc)) (.tuple #[.agg #[.int .i64 1, .slice ta 4 tc, .slice pa M pc], .bool true])) := by
          have hkt := kept_three y2' (b0 + 1) (.int .i64 1) (.slice ta 4 tc) (.slice pa M pc)
          refine ⟨1, ta, tc, T, pa, pc, LL, true, by rw [← HNT.out, ← HMM.out], hIf.kept hkt (fun g off e h0 e2 => ?_), (hLf.kept hkt (fun q hq e => by omega)).lls HPOS.out, ?_, Or.inl ⟨rfl, by rw [HFOR.out]; exact HYES.out⟩⟩
          · have := HGT.out g off e
            omega
          · rw [← HB0.out]; exact below_three hbf (Nat.le_succ _) _ _ _
        clear hHeld hS hS1 hS2 CK CE HKP hz hbf hIf hLf p0 p1 q0 q1 q2 HCV
        go_wp2
        refine bodyPost_ret (v := .tuple #[.agg #[.int .i64 1, .slice ta 4 tc, .slice pa M pc], .bool true]) ?_ rfl ⟨_, rfl, HZ.out⟩
        rw [results_cell_tmp rfl]
        go_simp
      · have hKb : ((K : Int) != (N : Int)) = true := by simp; omega
        have hKb2 : ¬ (K : Int) = (N : Int) := by omega
        have HRN : Hid (ReadNo m es) := by
          refine Or.inr (Or.inr ⟨LL, ?_, ?_⟩)
          · rw [HFOR.out, ← HTF.out]; exact HWAY.out
          · intro h
            exact hK (HCN.out h.2)
        have HZ := hid (HZB.out y2' HRN.out hbf)
        clear hHeld hS hS1 hS2 CK CE HKP hz hbf hIf hLf p0 p1 q0 q1 q2 HCV HCN
        go_wp2
        refine bodyPost_ret (v := .tuple #[.agg #[.int .i64 0, .slice none 0 0, .slice none 0 0], .bool false]) ?_ rfl ⟨_, rfl, HZ.out⟩
        rw [results_cell_tmp rfl]
        go_simp
  by_cases h2 : NT = 2
  · subst h2
    have hbt : b = true := by
      cases b with
      | true => rfl
      | false =>
        have h := HT.out
        have h2 := HNT.out
        rw [h] at h2
        simp at h2
    have hR := HBR.out.1 hbt
    obtain ⟨m, rfl⟩ : ∃ m : Nat, n = (m : Int) := ⟨n.toNat, by have := hR.1; omega⟩
    have hTf : T = forkL m es := by
      have h := HT.out
      rw [if_pos hbt] at h
      simpa using h
    have HR := hid hR
    have HTF := hid hTf
    obtain ⟨W2, hW2⟩ := ex_eq (W1.setCell ⟨s0, 0, none⟩ (.int .i64 2))
    have hk2 : KeptBut (fun q => q = s0) W1 W2 := by rw [hW2]; exact kept_set W1 ⟨s0, 0, none⟩ _
    have hbX2 : Below b0 w W2 := by rw [hW2]; exact HBX1.out.setCell (p := ⟨s0, 0, none⟩) hws1 _
    have hs2 : s0 < W2.heap.size := Nat.lt_of_lt_of_le hs0lt hk2.size
    have hk12 : KeptBut (fun q => q = s0) w1 W2 := (KeptBut.of_whole _ HB11.out).trans hk2
    have hnT : ∀ g off, ta = some ⟨g, off, none⟩ → 0 < T.length → ¬ g = s0 := fun g off e h0 e2 => by
      obtain ⟨g', off', e3, hg', _⟩ := HIT.out h0
      rw [e] at e3
      cases e3
      have := HS0.out
      omega
    have CB := hid (between_any m a cap es ta tc T W2 (HE.out W2 hbX2) hR (HIT.out.kept hk12 hnT) (by rw [← HNT.out]; omega) (by rw [hTf]; exact fork_dg))
    rw [← HNE.out, ← HNT.out] at CB
    have u0 : W2.cell? ⟨b0, 0, none⟩ = some (.int .i64 m) := (hk2.cell (p := ⟨b0, 0, none⟩) (block_lt_of_cell x0) (by show ¬ b0 = s0; omega)).trans x0
    have u1 : W2.cell? ⟨b0, 1, none⟩ = some (.slice a N cap) := (hk2.cell (p := ⟨b0, 1, none⟩) (block_lt_of_cell x1) (by show ¬ b0 = s0; omega)).trans x1
    have v0 : W2.cell? ⟨s0, 0, none⟩ = some (.int .i64 2) := by rw [hW2]; exact World.cell?_setCell_same' _ _ _ (by rw [y0]; rfl)
    have v1 : W2.cell? ⟨s0, 1, none⟩ = some (.slice ta 2 tc) := by rw [hW2, World.cell?_setCell_other _ _ _ _ (by simp)]; exact y1
    have v2 : W2.cell? ⟨s0, 2, none⟩ = some (.slice none 0 0) := by rw [hW2, World.cell?_setCell_other _ _ _ _ (by simp)]; exact y2
    have vf2 : W2.frozen? ⟨s0, 2, none⟩ = false := by rw [hW2, World.frozen?_setCell]; exact yf2
    have zz2 : W2.heap[b0 + 1]? = some (.cells #[.int .i64 0, .slice none 0 0, .slice none 0 0] 32 (0, 0)) := (hk2.block (b0 + 1) (by have := block_lt_of_cell z0; exact this) hrs).trans ((HGC.out W1 HX1.out).2.1)
    have HZ2 := hid zz2
    have HW2 := hid hW2
    have HK12 := hid hk12
    have HNTT := hid hnT
    have HBX2 := hid hbX2
    clear hbt hR hTf hW2 hk2 hbX2 hk12 hnT zz2 HBX1 HX1 HB11 HT
    go_upto_region 8 with fail
    rw [← HW2.out]
    clear x0 x1 y0 y1 y2 yf0 yf1 yf2 z0 z1 z2 zf0 zf1 zf2 HW2
    go_wp2_with fail
    refine CB.out.mono ?_
    rintro e w3 ⟨pa, pc, LL, rfl, hperm, hpw, hfar, hb3⟩
    obtain ⟨M, hM⟩ := ex_eq LL.length
    have hM12 : LL.length ≤ 12 := by
      have h1 := hperm.length_eq
      have h2 := betL_len (m := m) (T := T) (es := es) (by rw [HTF.out]; exact fork_dg)
      have h3 := HNT.out
      omega
    have hEach : ∀ L ∈ LL, 2 ≤ L.length ∧ L.length ≤ 1001 ∧ ∀ x ∈ L, 0 ≤ x ∧ x < m := fun L hL => by
      obtain ⟨t, ht, x, hx, rfl, _⟩ := betL_mem.1 (hperm.mem_iff.1 hL)
      have hd : dg es t = 3 := by rw [HTF.out] at ht; exact fork_dg t ht
      have h := (fol_ok HR.out (by rw [hd]; decide) ((nb_adj HR.out).1 hx)).tr
      have h1 := h.len HR.out
      have h2 := HR.out.2.1
      exact ⟨h.two, by omega, h.in HR.out⟩
    have hflat : LL.flatten.length ≤ 1000000 := by
      have h1 := flat_len (K := 1001) (fun L hL => (hEach L hL).2.1)
      omega
    have hwf : WfR LL := fun L hL x hx => by
      have h1 := (hEach L hL).2.2 x hx
      have h2 := HR.out.2.1
      exact WalkArith.wf_i64 (by omega)
    obtain ⟨W4, hW4⟩ := ex_eq (w3.setCell ⟨s0, 2, none⟩ (.slice pa M pc))
    have hk3 : KeptBut (fun q => q = s0) W2 w3 := KeptBut.of_whole _ hb3
    have hk4 : KeptBut (fun q => q = s0) w3 W4 := by rw [hW4]; exact kept_set w3 ⟨s0, 2, none⟩ _
    have hk24 := hk3.trans hk4
    have hs3 : s0 < w3.heap.size := Nat.lt_of_lt_of_le hs2 hk3.size
    have p0 : W4.cell? ⟨b0, 0, none⟩ = some (.int .i64 m) := (hk24.cell (p := ⟨b0, 0, none⟩) (block_lt_of_cell u0) (by show ¬ b0 = s0; omega)).trans u0
    have p1 : W4.cell? ⟨b0, 1, none⟩ = some (.slice a N cap) := (hk24.cell (p := ⟨b0, 1, none⟩) (block_lt_of_cell u1) (by show ¬ b0 = s0; omega)).trans u1
    have c0 : w3.cell? ⟨s0, 0, none⟩ = some (.int .i64 2) := (hb3.cell (p := ⟨s0, 0, none⟩) hs2).trans v0
    have c1 : w3.cell? ⟨s0, 1, none⟩ = some (.slice ta 2 tc) := (hb3.cell (p := ⟨s0, 1, none⟩) hs2).trans v1
    have c2 : w3.cell? ⟨s0, 2, none⟩ = some (.slice none 0 0) := (hb3.cell (p := ⟨s0, 2, none⟩) hs2).trans v2
    have cf2 : w3.frozen? ⟨s0, 2, none⟩ = false := (hb3.frozen (p := ⟨s0, 2, none⟩) hs2).trans vf2
    have q0 : W4.cell? ⟨s0, 0, none⟩ = some (.int .i64 2) := by rw [hW4, World.cell?_setCell_other _ _ _ _ (by simp)]; exact c0
    have q1 : W4.cell? ⟨s0, 1, none⟩ = some (.slice ta 2 tc) := by rw [hW4, World.cell?_setCell_other _ _ _ _ (by simp)]; exact c1
    have q2 : W4.cell? ⟨s0, 2, none⟩ = some (.slice pa M pc) := by rw [hW4]; exact World.cell?_setCell_same' _ _ _ (by rw [c2]; rfl)
    have z4 : W4.heap[b0 + 1]? = some (.cells #[.int .i64 0, .slice none 0 0, .slice none 0 0] 32 (0, 0)) := (hk24.block (b0 + 1) (Array.getElem?_eq_some_iff.1 HZ2.out).1 hrs).trans HZ2.out
    have hbX4 : Below b0 w W4 := by
      rw [hW4]
      exact (HBX2.out.trans (hb3.mono (by omega))).setCell (p := ⟨s0, 2, none⟩) hws1 _
    have hIT4 : IAt W4 ta T := HIT.out.kept (HK12.out.trans hk24) HNTT.out
    have hLL4 : LLFar W4 (b0 + 2) pa LL := (hfar.kept hk4 (fun q hq e => by omega)).lower (by omega)
    have HKP : Hid (∀ X, Below W4.heap.size W4 X → X.cell? ⟨b0, 0, none⟩ = some (.int .i64 m) ∧ X.cell? ⟨b0, 1, none⟩ = some (.slice a N cap) ∧ X.cell? ⟨s0, 0, none⟩ = some (.int .i64 2) ∧ X.cell? ⟨s0, 1, none⟩ = some (.slice ta 2 tc) ∧ X.cell? ⟨s0, 2, none⟩ = some (.slice pa M pc)) := fun X h =>
      ⟨(h.cell (p := ⟨b0, 0, none⟩) (block_lt_of_cell p0)).trans p0, (h.cell (p := ⟨b0, 1, none⟩) (block_lt_of_cell p1)).trans p1, (h.cell (p := ⟨s0, 0, none⟩) (block_lt_of_cell q0)).trans q0, (h.cell (p := ⟨s0, 1, none⟩) (block_lt_of_cell q1)).trans q1, (h.cell (p := ⟨s0, 2, none⟩) (block_lt_of_cell q2)).trans q2⟩
    have HKR : Hid (∀ X, Below W4.heap.size W4 X → X.heap[b0 + 1]? = some (.cells #[.int .i64 0, .slice none 0 0, .slice none 0 0] 32 (0, 0)) ∧ IAt X ta T ∧ LLFar X (b0 + 2) pa LL ∧ Below b0 w X) := fun X h =>
      ⟨(h.block _ (Array.getElem?_eq_some_iff.1 z4).1).trans z4, hIT4.below h, hLL4.below h, hbX4.trans (h.mono (by have := hbX4.size; have := HB0.out; omega))⟩
    obtain ⟨rc, hrc⟩ := boolR_of (SubL m es 2 T LL)
    have CK : Hid (Calls Try.prog 14 #[.agg #[.int .i64 m, .slice a N cap], .agg #[.int .i64 2, .slice ta 2 tc, .slice pa M pc]] W4.drew fun e w' => e = .returned (.bool rc) ∧ Below W4.drew.heap.size W4.drew w') := by
      have hD := (HKR.out W4.drew (Below.refl _ _).drew)
      have h := tcheck_any m a cap es b 2 ta tc T pa pc LL rc W4.drew HNN.out (HE.out _ hD.2.2.2) HBR.out hD.2.1 (by omega) (fun L hL => by have := (hEach L hL).2.1; omega) hD.2.2.1.at hwf hrc
      rw [← HNE.out, ← HNT.out, ← hM] at h
      exact h
    have CE : Hid (∀ X, Below W4.heap.size W4 X → Calls Try.prog 22 #[.agg #[.int .i64 2, .slice ta 2 tc, .slice pa M pc]] X fun e w' => ∃ a' c' es', e = .returned (.slice a' es'.length c') ∧ Sl a' c' es'.length ∧ EAt w' a' es' ∧ Rises es' ∧ (∀ x, x ∈ es' ↔ x ∈ LL.flatMap peL) ∧ Below X.heap.size X w') := fun X h => by
      rw [hM]; exact tedges_any 2 ta 2 tc pa pc LL X hflat (by omega) (HKR.out X h).2.2.1.at
    have HWAY : Hid (Ways m es T LL) := ⟨hperm, hpw⟩
    have HRC := hid hrc
    have HPOS : Hid (∀ L ∈ LL, 0 < L.length) := fun L hL => by have := (hEach L hL).1; omega
    have HMM := hid hM
    have HW4 := hid hW4
    have HFOR : Hid ((m : Int).toNat = m) := by show _ = _; simp
    have hS := HKP.out W4.drew (Below.refl _ _).drew
    have HKQ : Hid (∀ X, Below W4.drew.heap.size W4.drew X → Below W4.heap.size W4 X) := fun X h => (Below.refl _ _).drew.trans (h.mono (Nat.le_refl _))
    rw [← hM]
    clear CB hperm hpw hfar hb3 hM hM12 hEach hflat hwf hW4 hk3 hk4 hk24 z4 hbX4 hIT4 hLL4 hrc u0 u1 v0 v1 v2 vf2
    go_upto_region 9 with fail
    rw [← HW4.out]
    clear c0 c1 c2 cf2 HW4
    cases rc with
    | false =>
      have HRN : Hid (ReadNo m es) := by
        refine Or.inr (Or.inr ⟨LL, ?_, ?_⟩)
        · rw [HFOR.out, ← HTF.out]; exact HWAY.out
        · rw [HFOR.out, ← HTF.out, ← HNT.out]
          intro h
          have : false = true := HRC.out.2 h.1
          cases this
      refine wp_region_held_drew (S := (fun X : World => X.cell? ⟨b0, 0, none⟩ = some (.int .i64 m) ∧ X.cell? ⟨b0, 1, none⟩ = some (.slice a N cap) ∧ X.cell? ⟨s0, 0, none⟩ = some (.int .i64 2) ∧ X.cell? ⟨s0, 1, none⟩ = some (.slice ta 2 tc) ∧ X.cell? ⟨s0, 2, none⟩ = some (.slice pa M pc))) (by kernel_rfl) hS (fun hHeld => ?_)
      (refine takeW (i := 0) (dst := some 23) (v := ?_) rfl rfl (by kernel_rfl) (by kernel_rfl) (by kernel_rfl) (fun _ _ _ h => h) (Or.inl ⟨by rfl, ?_⟩) hHeld ?_; rotate_left; focus (intro w hSw; (try dsimp only at hSw); go_simp; (try with_reducible rfl); done))
      try simp only [Act.put, List.setIfInBounds_toArray, List.set_cons_zero, List.set_cons_succ]
      (refine takeW (i := 1) (dst := some 24) (v := ?_) rfl rfl (by kernel_rfl) (by kernel_rfl) (by kernel_rfl) (fun _ _ _ h => h) (Or.inl ⟨by rfl, ?_⟩) hHeld ?_; rotate_left; focus (intro w hSw; (try dsimp only at hSw); go_simp; (try with_reducible rfl); done))
      try simp only [Act.put, List.setIfInBounds_toArray, List.set_cons_zero, List.set_cons_succ]
      refine wpAnyH_ready (rs := [2]) (by kernel_rfl) (by simp) ?_
      refine AllReadyH.cons (o := _) rfl (fun KK hK => ?_) AllReadyH.nil
      go_simp
      refine CK.out.mono ?_
      rintro e y1' ⟨rfl, hb7⟩
      have HY1 := hid (HKQ.out y1' hb7)
      have hS1 := HKP.out y1' HY1.out
      clear hb7
      refine hK.out _ _ hS1 (fun hHeld => ?_)
      clear hK KK
      try simp only [Act.put]
      try simp only [List.setIfInBounds_toArray]
      try simp only [List.set_cons_succ]
      try simp only [List.set_cons_zero]
      (refine takeW (i := 3) (dst := some 26) (v := ?_) rfl rfl (by kernel_rfl) (by kernel_rfl) (by kernel_rfl) (fun _ _ _ h => h) (Or.inl ⟨by rfl, ?_⟩) hHeld ?_; rotate_left; focus (intro w hSw; (try dsimp only at hSw); go_simp; (try with_reducible rfl); done))
      try simp only [Act.put, List.setIfInBounds_toArray, List.set_cons_zero, List.set_cons_succ]
      (refine takeW (i := 4) (dst := some 27) (v := ?_) rfl rfl (by kernel_rfl) (by kernel_rfl) (by kernel_rfl) (fun _ _ _ h => h) (Or.inl ⟨by rfl, ?_⟩) hHeld ?_; rotate_left; focus (intro w hSw; (try dsimp only at hSw); go_simp; (try with_reducible rfl); done))
      try simp only [Act.put, List.setIfInBounds_toArray, List.set_cons_zero, List.set_cons_succ]
      first | refine takeW (i := 5) (dst := some 28) (v := undef) rfl rfl (by kernel_rfl) (by kernel_rfl) (by kernel_rfl) (fun _ _ _ h => h) (Or.inr ⟨by rfl, rfl⟩) hHeld ?_ | (refine takeW (i := 5) (dst := some 28) (v := ?_) rfl rfl (by kernel_rfl) (by kernel_rfl) (by kernel_rfl) (fun _ _ _ h => h) (Or.inl ⟨by rfl, ?_⟩) hHeld ?_; rotate_left; focus (intro w hSw; (try dsimp only at hSw); go_simp; (try with_reducible rfl); done))
      try simp only [Act.put, List.setIfInBounds_toArray, List.set_cons_zero, List.set_cons_succ]
      first | refine takeW (i := 6) (dst := some 29) (v := undef) rfl rfl (by kernel_rfl) (by kernel_rfl) (by kernel_rfl) (fun _ _ _ h => h) (Or.inr ⟨by rfl, rfl⟩) hHeld ?_ | (refine takeW (i := 6) (dst := some 29) (v := ?_) rfl rfl (by kernel_rfl) (by kernel_rfl) (by kernel_rfl) (fun _ _ _ h => h) (Or.inl ⟨by rfl, ?_⟩) hHeld ?_; rotate_left; focus (intro w hSw; (try dsimp only at hSw); go_simp; (try with_reducible rfl); done))
      try simp only [Act.put, List.setIfInBounds_toArray, List.set_cons_zero, List.set_cons_succ]
      first | refine takeW (i := 7) (dst := some 30) (v := undef) rfl rfl (by kernel_rfl) (by kernel_rfl) (by kernel_rfl) (fun _ _ _ h => h) (Or.inr ⟨by rfl, rfl⟩) hHeld ?_ | (refine takeW (i := 7) (dst := some 30) (v := ?_) rfl rfl (by kernel_rfl) (by kernel_rfl) (by kernel_rfl) (fun _ _ _ h => h) (Or.inl ⟨by rfl, ?_⟩) hHeld ?_; rotate_left; focus (intro w hSw; (try dsimp only at hSw); go_simp; (try with_reducible rfl); done))
      try simp only [Act.put, List.setIfInBounds_toArray, List.set_cons_zero, List.set_cons_succ]
      first | refine takeW (i := 8) (dst := some 31) (v := undef) rfl rfl (by kernel_rfl) (by kernel_rfl) (by kernel_rfl) (fun _ _ _ h => h) (Or.inr ⟨by rfl, rfl⟩) hHeld ?_ | (refine takeW (i := 8) (dst := some 31) (v := ?_) rfl rfl (by kernel_rfl) (by kernel_rfl) (by kernel_rfl) (fun _ _ _ h => h) (Or.inl ⟨by rfl, ?_⟩) hHeld ?_; rotate_left; focus (intro w hSw; (try dsimp only at hSw); go_simp; (try with_reducible rfl); done))
      try simp only [Act.put, List.setIfInBounds_toArray, List.set_cons_zero, List.set_cons_succ]
      first | refine takeW (i := 9) (dst := some 32) (v := undef) rfl rfl (by kernel_rfl) (by kernel_rfl) (by kernel_rfl) (fun _ _ _ h => h) (Or.inr ⟨by rfl, rfl⟩) hHeld ?_ | (refine takeW (i := 9) (dst := some 32) (v := ?_) rfl rfl (by kernel_rfl) (by kernel_rfl) (by kernel_rfl) (fun _ _ _ h => h) (Or.inl ⟨by rfl, ?_⟩) hHeld ?_; rotate_left; focus (intro w hSw; (try dsimp only at hSw); go_simp; (try with_reducible rfl); done))
      try simp only [Act.put, List.setIfInBounds_toArray, List.set_cons_zero, List.set_cons_succ]
      first | refine takeW (i := 10) (dst := some 33) (v := undef) rfl rfl (by kernel_rfl) (by kernel_rfl) (by kernel_rfl) (fun _ _ _ h => h) (Or.inr ⟨by rfl, rfl⟩) hHeld ?_ | (refine takeW (i := 10) (dst := some 33) (v := ?_) rfl rfl (by kernel_rfl) (by kernel_rfl) (by kernel_rfl) (fun _ _ _ h => h) (Or.inl ⟨by rfl, ?_⟩) hHeld ?_; rotate_left; focus (intro w hSw; (try dsimp only at hSw); go_simp; (try with_reducible rfl); done))
      try simp only [Act.put, List.setIfInBounds_toArray, List.set_cons_zero, List.set_cons_succ]
      first | refine takeW (i := 11) (dst := some 34) (v := undef) rfl rfl (by kernel_rfl) (by kernel_rfl) (by kernel_rfl) (fun _ _ _ h => h) (Or.inr ⟨by rfl, rfl⟩) hHeld ?_ | (refine takeW (i := 11) (dst := some 34) (v := ?_) rfl rfl (by kernel_rfl) (by kernel_rfl) (by kernel_rfl) (fun _ _ _ h => h) (Or.inl ⟨by rfl, ?_⟩) hHeld ?_; rotate_left; focus (intro w hSw; (try dsimp only at hSw); go_simp; (try with_reducible rfl); done))
      try simp only [Act.put, List.setIfInBounds_toArray, List.set_cons_zero, List.set_cons_succ]
      (refine takeW (i := 12) (dst := some 35) (v := ?_) rfl rfl (by kernel_rfl) (by kernel_rfl) (by kernel_rfl) (fun _ _ _ h => h) (Or.inl ⟨by rfl, ?_⟩) hHeld ?_; rotate_left; focus (intro w hSw; (try dsimp only at hSw); go_simp; (try with_reducible rfl); done))
      try simp only [Act.put, List.setIfInBounds_toArray, List.set_cons_zero, List.set_cons_succ]
      refine wpAnyH_done (by kernel_rfl) ?_ _
      obtain ⟨hz, _, _, hbf⟩ := HKR.out y1' HY1.out
      obtain ⟨⟨z0, zf0⟩, ⟨z1, zf1⟩, ⟨z2, zf2⟩⟩ := zero_three hz
      have HZ := hid (HZB.out y1' HRN.out hbf)
      clear hHeld hS hS1 CK CE HKP hz hbf p0 p1 q0 q1 q2
      go_wp2
      refine bodyPost_ret (v := .tuple #[.agg #[.int .i64 0, .slice none 0 0, .slice none 0 0], .bool false]) ?_ rfl ⟨_, rfl, HZ.out⟩
      rw [results_cell_tmp rfl]
      go_simp
    | true =>
      refine wp_region_held_drew (S := (fun X : World => X.cell? ⟨b0, 0, none⟩ = some (.int .i64 m) ∧ X.cell? ⟨b0, 1, none⟩ = some (.slice a N cap) ∧ X.cell? ⟨s0, 0, none⟩ = some (.int .i64 2) ∧ X.cell? ⟨s0, 1, none⟩ = some (.slice ta 2 tc) ∧ X.cell? ⟨s0, 2, none⟩ = some (.slice pa M pc))) (by kernel_rfl) hS (fun hHeld => ?_)
      (refine takeW (i := 0) (dst := some 23) (v := ?_) rfl rfl (by kernel_rfl) (by kernel_rfl) (by kernel_rfl) (fun _ _ _ h => h) (Or.inl ⟨by rfl, ?_⟩) hHeld ?_; rotate_left; focus (intro w hSw; (try dsimp only at hSw); go_simp; (try with_reducible rfl); done))
      try simp only [Act.put, List.setIfInBounds_toArray, List.set_cons_zero, List.set_cons_succ]
      (refine takeW (i := 1) (dst := some 24) (v := ?_) rfl rfl (by kernel_rfl) (by kernel_rfl) (by kernel_rfl) (fun _ _ _ h => h) (Or.inl ⟨by rfl, ?_⟩) hHeld ?_; rotate_left; focus (intro w hSw; (try dsimp only at hSw); go_simp; (try with_reducible rfl); done))
      try simp only [Act.put, List.setIfInBounds_toArray, List.set_cons_zero, List.set_cons_succ]
      refine wpAnyH_ready (rs := [2]) (by kernel_rfl) (by simp) ?_
      refine AllReadyH.cons (o := _) rfl (fun KK hK => ?_) AllReadyH.nil
      go_simp
      refine CK.out.mono ?_
      rintro e y1' ⟨rfl, hb7⟩
      have HY1 := hid (HKQ.out y1' hb7)
      have hS1 := HKP.out y1' HY1.out
      clear hb7
      refine hK.out _ _ hS1 (fun hHeld => ?_)
      clear hK KK
      try simp only [Act.put]
      try simp only [List.setIfInBounds_toArray]
      try simp only [List.set_cons_succ]
      try simp only [List.set_cons_zero]
      (refine takeW (i := 3) (dst := some 26) (v := ?_) rfl rfl (by kernel_rfl) (by kernel_rfl) (by kernel_rfl) (fun _ _ _ h => h) (Or.inl ⟨by rfl, ?_⟩) hHeld ?_; rotate_left; focus (intro w hSw; (try dsimp only at hSw); go_simp; (try with_reducible rfl); done))
      try simp only [Act.put, List.setIfInBounds_toArray, List.set_cons_zero, List.set_cons_succ]
      (refine takeW (i := 4) (dst := some 27) (v := ?_) rfl rfl (by kernel_rfl) (by kernel_rfl) (by kernel_rfl) (fun _ _ _ h => h) (Or.inl ⟨by rfl, ?_⟩) hHeld ?_; rotate_left; focus (intro w hSw; (try dsimp only at hSw); go_simp; (try with_reducible rfl); done))
      try simp only [Act.put, List.setIfInBounds_toArray, List.set_cons_zero, List.set_cons_succ]
      first | refine takeW (i := 5) (dst := some 28) (v := undef) rfl rfl (by kernel_rfl) (by kernel_rfl) (by kernel_rfl) (fun _ _ _ h => h) (Or.inr ⟨by rfl, rfl⟩) hHeld ?_ | (refine takeW (i := 5) (dst := some 28) (v := ?_) rfl rfl (by kernel_rfl) (by kernel_rfl) (by kernel_rfl) (fun _ _ _ h => h) (Or.inl ⟨by rfl, ?_⟩) hHeld ?_; rotate_left; focus (intro w hSw; (try dsimp only at hSw); go_simp; (try with_reducible rfl); done))
      try simp only [Act.put, List.setIfInBounds_toArray, List.set_cons_zero, List.set_cons_succ]
      first | refine takeW (i := 8) (dst := some 31) (v := undef) rfl rfl (by kernel_rfl) (by kernel_rfl) (by kernel_rfl) (fun _ _ _ h => h) (Or.inr ⟨by rfl, rfl⟩) hHeld ?_ | (refine takeW (i := 8) (dst := some 31) (v := ?_) rfl rfl (by kernel_rfl) (by kernel_rfl) (by kernel_rfl) (fun _ _ _ h => h) (Or.inl ⟨by rfl, ?_⟩) hHeld ?_; rotate_left; focus (intro w hSw; (try dsimp only at hSw); go_simp; (try with_reducible rfl); done))
      try simp only [Act.put, List.setIfInBounds_toArray, List.set_cons_zero, List.set_cons_succ]
      first | refine takeW (i := 9) (dst := some 32) (v := undef) rfl rfl (by kernel_rfl) (by kernel_rfl) (by kernel_rfl) (fun _ _ _ h => h) (Or.inr ⟨by rfl, rfl⟩) hHeld ?_ | (refine takeW (i := 9) (dst := some 32) (v := ?_) rfl rfl (by kernel_rfl) (by kernel_rfl) (by kernel_rfl) (fun _ _ _ h => h) (Or.inl ⟨by rfl, ?_⟩) hHeld ?_; rotate_left; focus (intro w hSw; (try dsimp only at hSw); go_simp; (try with_reducible rfl); done))
      try simp only [Act.put, List.setIfInBounds_toArray, List.set_cons_zero, List.set_cons_succ]
      first | refine takeW (i := 10) (dst := some 33) (v := undef) rfl rfl (by kernel_rfl) (by kernel_rfl) (by kernel_rfl) (fun _ _ _ h => h) (Or.inr ⟨by rfl, rfl⟩) hHeld ?_ | (refine takeW (i := 10) (dst := some 33) (v := ?_) rfl rfl (by kernel_rfl) (by kernel_rfl) (by kernel_rfl) (fun _ _ _ h => h) (Or.inl ⟨by rfl, ?_⟩) hHeld ?_; rotate_left; focus (intro w hSw; (try dsimp only at hSw); go_simp; (try with_reducible rfl); done))
      try simp only [Act.put, List.setIfInBounds_toArray, List.set_cons_zero, List.set_cons_succ]
      refine wpAnyH_ready (rs := [6]) (by kernel_rfl) (by simp) ?_
      refine AllReadyH.cons (o := _) rfl (fun KK hK => ?_) AllReadyH.nil
      go_simp
      refine (CE.out y1' HY1.out).mono ?_
      rintro e y2' ⟨a9, c9, E9, rfl, -, -, hR9, hm9, hb9⟩
      have HY2 : Hid (Below W4.heap.size W4 y2') := HY1.out.trans (hb9.mono HY1.out.size)
      have hS2 := HKP.out y2' HY2.out
      obtain ⟨K, hKe⟩ := ex_eq E9.length
      rw [← hKe]
      have HCV : Hid (K = N → Covers es LL) := fun e => ⟨E9, hR9, hm9, by rw [← hKe, e, HNE.out]⟩
      have HCN : Hid (Covers es LL → K = N) := fun ⟨E, h1, h2, h3⟩ => by
        rw [hKe, rises_one hR9 h1 (fun x => (hm9 x).trans (h2 x).symm), h3, HNE.out]
      clear hR9 hm9 hb9 hKe
      refine hK.out _ _ hS2 (fun hHeld => ?_)
      clear hK KK
      try simp only [Act.put]
      try simp only [List.setIfInBounds_toArray]
      try simp only [List.set_cons_succ]
      try simp only [List.set_cons_zero]
      first | refine takeW (i := 7) (dst := some 30) (v := undef) rfl rfl (by kernel_rfl) (by kernel_rfl) (by kernel_rfl) (fun _ _ _ h => h) (Or.inr ⟨by rfl, rfl⟩) hHeld ?_ | (refine takeW (i := 7) (dst := some 30) (v := ?_) rfl rfl (by kernel_rfl) (by kernel_rfl) (by kernel_rfl) (fun _ _ _ h => h) (Or.inl ⟨by rfl, ?_⟩) hHeld ?_; rotate_left; focus (intro w hSw; (try dsimp only at hSw); go_simp; (try with_reducible rfl); done))
      try simp only [Act.put, List.setIfInBounds_toArray, List.set_cons_zero, List.set_cons_succ]
      first | refine takeW (i := 11) (dst := some 34) (v := undef) rfl rfl (by kernel_rfl) (by kernel_rfl) (by kernel_rfl) (fun _ _ _ h => h) (Or.inr ⟨by rfl, rfl⟩) hHeld ?_ | (refine takeW (i := 11) (dst := some 34) (v := ?_) rfl rfl (by kernel_rfl) (by kernel_rfl) (by kernel_rfl) (fun _ _ _ h => h) (Or.inl ⟨by rfl, ?_⟩) hHeld ?_; rotate_left; focus (intro w hSw; (try dsimp only at hSw); go_simp; (try with_reducible rfl); done))
      try simp only [Act.put, List.setIfInBounds_toArray, List.set_cons_zero, List.set_cons_succ]
      (refine takeW (i := 12) (dst := some 35) (v := ?_) rfl rfl (by kernel_rfl) (by kernel_rfl) (by kernel_rfl) (fun _ _ _ h => h) (Or.inl ⟨by rfl, ?_⟩) hHeld ?_; rotate_left; focus (intro w hSw; (try dsimp only at hSw); go_simp; (try with_reducible rfl); done))
      try simp only [Act.put, List.setIfInBounds_toArray, List.set_cons_zero, List.set_cons_succ]
      refine wpAnyH_done (by kernel_rfl) ?_ _
      obtain ⟨hz, hIf, hLf, hbf⟩ := HKR.out y2' HY2.out
      obtain ⟨⟨z0, zf0⟩, ⟨z1, zf1⟩, ⟨z2, zf2⟩⟩ := zero_three hz
      obtain ⟨t0, t1, s0', s1', s2'⟩ := HKP.out y2' HY2.out
      by_cases hK : K = N
      · subst hK
        have HYES : Hid (ReadYes m es 2 T LL) := ⟨HR.out, HTF.out, HWAY.out, HRC.out.1 rfl, HCV.out rfl⟩
        have HZ : Hid (ReadTold m es w (((y2'.setCell ⟨b0 + 1, 0, none⟩ (.int .i64 2)).setCell ⟨b0 + 1, 1, none⟩ (.slice ta 2 tc)).setCell ⟨b0 + 1, 2, none⟩ (.slice pa M pc)) (.tuple #[.agg #[.int .i64 2, .slice ta 2 tc, .slice pa M pc], .bool true])) := by
          have hkt := kept_three y2' (b0 + 1) (.int .i64 2) (.slice ta 2 tc) (.slice pa M pc)
          refine ⟨2, ta, tc, T, pa, pc, LL, true, by rw [← HNT.out, ← HMM.out], hIf.kept hkt (fun g off e h0 e2 => ?_), (hLf.kept hkt (fun q hq e => by omega)).lls HPOS.out, ?_, Or.inl ⟨rfl, by rw [HFOR.out]; exact HYES.out⟩⟩
          · have := HGT.out g off e
            omega
          · rw [← HB0.out]; exact below_three hbf (Nat.le_succ _) _ _ _
        clear hHeld hS hS1 hS2 CK CE HKP hz hbf hIf hLf p0 p1 q0 q1 q2 HCV
        go_wp2
        refine bodyPost_ret (v := .tuple #[.agg #[.int .i64 2, .slice ta 2 tc, .slice pa M pc], .bool true]) ?_ rfl ⟨_, rfl, HZ.out⟩
        rw [results_cell_tmp rfl]
        go_simp
      · have hKb : ((K : Int) != (N : Int)) = true := by simp; omega
        have hKb2 : ¬ (K : Int) = (N : Int) := by omega
        have HRN : Hid (ReadNo m es) := by
          refine Or.inr (Or.inr ⟨LL, ?_, ?_⟩)
          · rw [HFOR.out, ← HTF.out]; exact HWAY.out
          · intro h
            exact hK (HCN.out h.2)
        have HZ := hid (HZB.out y2' HRN.out hbf)
        clear hHeld hS hS1 hS2 CK CE HKP hz hbf hIf hLf p0 p1 q0 q1 q2 HCV HCN
        go_wp2
        refine bodyPost_ret (v := .tuple #[.agg #[.int .i64 0, .slice none 0 0, .slice none 0 0], .bool false]) ?_ rfl ⟨_, rfl, HZ.out⟩
        rw [results_cell_tmp rfl]
        go_simp
  have b4 : ((NT : Int) == 4) = false := by simp; omega
  have b2 : ((NT : Int) == 2) = false := by simp; omega
  have HRN : Hid (ReadNo n es) := by
    by_cases hR : RightG n es
    · refine Or.inr (Or.inl ?_)
      have h := HT.out
      rw [if_pos (HBR.out.2 hR)] at h
      rw [← h, ← HNT.out]
      exact ⟨h4, h2⟩
    · exact Or.inl hR
  have HZ := hid (HZB.out W1 HRN.out HBX1.out)
  clear h4 h2
  go_wp2
  refine bodyPost_ret (v := .tuple #[.agg #[.int .i64 0, .slice none 0 0, .slice none 0 0], .bool false]) ?_ rfl ⟨_, rfl, HZ.out⟩
  rw [results_cell_tmp rfl]
  go_simp
end Go.Proofs.Ytckcbaegehfkoaa
