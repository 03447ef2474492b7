/-
  The document's Check (H2, layer 8).
-/
import Derived.Test.YtlebimolgienkaaC19
import Derived.Test.YtlebimolgienkaaC18
import Derived.Test.YtlebimolgienkaaC20
import Derived.Test.YtlebimolgienkaaC08
namespace Go.Proofs.Ytlebimolgienkaa
open Go.RowKit Go.Lib

theorem SmallTold.lls {k : Int} {Ts : List (List Int)} {w w' : World} {v : Value} (h : SmallTold k Ts w w' v) : ∃ a' c', v = .agg #[.int .i64 k, .slice a' Ts.length c'] ∧ LLAt w' a' Ts ∧ LLS w' a' Ts ∧ Below w.heap.size w w' := by
  obtain ⟨a', c', us, hv, hl, hr, hb⟩ := h
  obtain ⟨a2, c2, e, _, hat⟩ := hl.at
  simp only [Value.slice.injEq] at e
  rw [← e.1] at hat
  refine ⟨a', c', hv, hat, fun h0 => ?_, hb⟩
  obtain ⟨g, cap', hv', _, hg, _, hcs⟩ := own_row hl.1 h0
  simp only [Value.slice.injEq, true_and] at hv'
  refine ⟨g, 0, hv'.1, hg, fun j hj => ?_⟩
  obtain ⟨ak, ck, h1, h2, _⟩ := hr j hj
  obtain ⟨a3, c3, e3, hs3⟩ := sl_own h2
  simp only [Value.slice.injEq, true_and] at e3
  obtain ⟨rfl, rfl⟩ := e3
  obtain ⟨a4, c4, e4, hI⟩ := iat_own h2
  simp only [Value.slice.injEq, true_and] at e4
  obtain ⟨rfl, rfl⟩ := e4
  exact ⟨ak, ck, by rw [Nat.zero_add]; exact hcs j _ h1, hI, hs3.1, hs3.2.1⟩
theorem apart_flat {Ss : List (List Int)} (hd : ∀ S ∈ Ss, S.Nodup) : Ss.flatten.Nodup ↔ ApartS Ss := by
  rw [List.Nodup, List.pairwise_flatten, List.pairwise_iff_getElem]
  constructor
  · rintro ⟨_, h⟩ i j hij x hx hy
    have hi := mem_getD hx
    have hj := mem_getD hy
    rw [List.getD_eq_getElem?_getD, List.getElem?_eq_getElem hi] at hx
    rw [List.getD_eq_getElem?_getD, List.getElem?_eq_getElem hj] at hy
    exact h i j hi hj hij x hx x hy rfl
  · intro h
    refine ⟨hd, fun i j hi hj hij x hx y hy e => ?_⟩
    subst e
    refine h i j hij x ?_ ?_
    · rw [List.getD_eq_getElem?_getD, List.getElem?_eq_getElem hi]; exact hx
    · rw [List.getD_eq_getElem?_getD, List.getElem?_eq_getElem hj]; exact hy
/-- All sets so far, one behind the other. -/
def AllSt (D : Nat) (w : World) (Ss : List (List Int)) (t Q : Nat) (v : Value) : Prop := Q = (Ss.take t).flatten.length ∧ w.ownsRow D 3 1 v Q ((Ss.take t).flatten.map (Value.int .i64))
theorem flat_next {Ss : List (List Int)} {t : Nat} (h : t < Ss.length) : (Ss.take (t + 1)).flatten = (Ss.take t).flatten ++ Ss[t] := by
  rw [← List.take_append_getElem h, List.flatten_append]; simp
theorem flat_len {Ss : List (List Int)} (hl : ∀ S ∈ Ss, S.length ≤ 1000) : ∀ t, (Ss.take t).flatten.length ≤ 1000 * t := fun t => by
  induction t with
  | zero => simp
  | succ t ih =>
    by_cases h : t < Ss.length
    · rw [flat_next h, List.length_append]
      have := hl _ (List.getElem_mem h)
      omega
    · rw [List.take_of_length_le (by omega)] at ih ⊢
      omega
/-- The sets meet as they must, as far as it is looked. -/
def MeetTo (k : Int) (es : List (Int × Int)) (Ss : List (List Int)) (x y : Nat) : Prop := ∀ a b : Nat, b < a → (a < x ∨ (a = x ∧ b < y)) → ((b : Int), (a : Int)) ∈ patE k → Touch es (Ss.getD a []) (Ss.getD b [])
theorem MeetTo.end {k : Int} {es : List (Int × Int)} {Ss : List (List Int)} (h : MeetTo k es Ss (patN k) 0) : ∀ e ∈ patE k, Touch es (setAt Ss e.1) (setAt Ss e.2) := fun e he => by
  obtain ⟨h1, h2, h3⟩ := patE_in he
  have := h e.2.toNat e.1.toNat (by omega) (Or.inl (by omega)) (by
    rw [show ((e.1.toNat : Nat) : Int) = e.1 by omega, show ((e.2.toNat : Nat) : Int) = e.2 by omega]; exact he)
  exact this.symm
theorem ModelL.touch {n : Int} {es : List (Int × Int)} {k : Int} {Ss : List (List Int)} (h : ModelL n es k Ss) {a b : Nat} (hp : ((b : Int), (a : Int)) ∈ patE k) : Touch es (Ss.getD a []) (Ss.getD b []) := by
  have := h.meet _ hp
  unfold setAt at this
  simp only [Int.toNat_natCast] at this
  exact this.symm
theorem IAt.newsO {w : World} {a : Option Addr} {xs : List Int} (h : IAt w a xs) : ∀ p, a = some p → ∀ j u, (xs.map (Value.int .i64))[j]? = some u → w.cell? (p.add j) = some u := fun p hp j u hj => by
  rw [List.getElem?_map] at hj
  by_cases hjl : j < xs.length
  · rw [List.getElem?_eq_getElem hjl] at hj
    simp only [Option.map_some, Option.some.injEq] at hj
    obtain ⟨g, off, ha, _, hc⟩ := h (by omega)
    rw [hp] at ha
    simp only [Option.some.injEq] at ha
    subst ha
    rw [← hj]
    have h3 := hc j hjl
    by_cases h0 : j = 0
    · subst h0; exact h3
    · unfold Addr.add; rw [if_neg h0]; exact h3
  · rw [List.getElem?_eq_none (by omega)] at hj; cases hj
set_option maxHeartbeats 16000000 in
set_option maxRecDepth 100000 in
theorem rcheck_any (n : Int) (a : Option Addr) (cap : Nat) (es : List (Int × Int)) (b : Bool) (k : Int) (sa : Option Addr) (sc : Nat) (Ss : List (List Int)) (r : Bool) (w : World) (hN : es.length ≤ 1000000) (hE : EAt w a es) (hb : b = true ↔ RightG n es) (hS : Ss.length ≤ 1000) (hSl : ∀ S ∈ Ss, S.length ≤ 1000) (hL : LLS w sa Ss) (hr : r = true ↔ ModelL n es k Ss) :
    Calls Try.prog 21 #[.agg #[.int .i64 n, .slice a es.length cap], .agg #[.int .i64 k, .slice sa Ss.length sc]] w fun e w' => e = .returned (.bool r) ∧ Below w.heap.size w w' := by
  obtain ⟨i0, hi0, hz0, hz1, hz2⟩ := info_parts Try.info3
  obtain ⟨N, hNe⟩ := ex_eq es.length
  obtain ⟨M, hMe⟩ := ex_eq Ss.length
  obtain ⟨W, hW, hsW, hO0, hO1, hbW⟩ := new_two w (.cells #[.int .i64 n, .slice a N cap] 26) (.cells #[.int .i64 k, .slice sa M sc] 39)
  have HGC : Hid (∀ X, Below W.heap.size W X → GC X w.heap.size n a N cap es ∧ Below w.heap.size w X ∧ (X.cell? ⟨w.heap.size + 1, 0, none⟩ = some (.int .i64 k) ∧ X.cell? ⟨w.heap.size + 1, 1, none⟩ = some (.slice sa M sc)) ∧ LLS X sa Ss) := fun X hX => by
    have o := (hX.block _ (by omega)).trans hO0
    have o1 := (hX.block (w.heap.size + 1) (by omega)).trans hO1
    have hbx : Below w.heap.size w X := hbW.trans (hX.mono (by omega))
    exact ⟨⟨cell_of_heap o 0, cell_of_heap o 1, hE.below hbx⟩, hbx, ⟨cell_of_heap o1 0, cell_of_heap o1 1⟩, hL.below hbx⟩
  have CW : Hid (∀ X (pa : Option Addr) (pc : Nat) (p : List Int) (r1 : Bool), Below W.heap.size W X → p.length ≤ 1000 → IAt X pa p → (r1 = true ↔ (RightG n es ∧ WholeL n es p)) → Calls Try.prog 51 #[.agg #[.int .i64 n, .slice a N cap], .slice pa p.length pc] X fun e w' => e = .returned (.bool r1) ∧ Below X.heap.size X w') := fun X pa pc p r1 hX hp hI hr1 => by
    rw [hNe]; exact rwhole_any n a cap es pa pc p b r1 X hN (by omega) (HGC.out X hX).1.at_ hI hb hr1
  have CT : Hid (∀ X (aa : Option Addr) (ac : Nat) (LA : List Int) (ba : Option Addr) (bc : Nat) (LB : List Int) (r3 : Bool), Below W.heap.size W X → LA.length ≤ 1000 → LB.length ≤ 1000 → IAt X aa LA → IAt X ba LB → (r3 = true ↔ Touch es LA LB) → Calls Try.prog 54 #[.agg #[.int .i64 n, .slice a N cap], .slice aa LA.length ac, .slice ba LB.length bc] X fun e w' => e = .returned (.bool r3) ∧ Below X.heap.size X w') := fun X aa ac LA ba bc LB r3 hX h1 h2 hI1 hI2 hr3 => by
    rw [hNe]; exact touch_any n a cap es aa ac LA ba bc LB r3 X hN (HGC.out X hX).1.at_ (by omega) (by omega) hI1 hI2 hr3
  have CU : Hid (∀ X (pa : Option Addr) (pc : Nat) (p : List Int) (r1 : Bool), p.length ≤ 1000000 → IAt X pa p → (r1 = true ↔ p.Nodup) → Calls Try.prog 52 #[.slice pa p.length pc] X fun e w' => e = .returned (.bool r1) ∧ Below X.heap.size X w') := fun X pa pc p r1 hp hI hr1 => unlike_any pa pc p r1 X hp hI hr1
  have HB1 : Hid (∀ X, Below W.heap.size W X → Below w.heap.size w X) := fun X hX => (HGC.out X hX).2.1
  have HMM := hid hMe
  have HR := hid hr
  have HSL := hid hSl
  have HW := hid hW
  rw [← hMe] at hS ⊢
  rw [← hNe]
  clear hNe hMe hW hO0 hO1 hbW hE hb hr hSl hL hN hsW
  obtain ⟨g0, g1⟩ := (HGC.out W (Below.refl _ _)).1.cells
  obtain ⟨m0, m1⟩ := (HGC.out W (Below.refl _ _)).2.2.1
  obtain ⟨K, hK⟩ := ex_eq (patN k)
  have CS := hid (size_any k W)
  rw [← hK] at CS
  go_enter Try.func21, Try.ntmps21
  go_wp2_with fail
  rw [← HW.out]
  refine CS.out.mono ?_
  rintro e w1 ⟨rfl, hw1⟩
  rw [hw1]
  clear hw1 CS HW
  by_cases hk : k = 1 ∨ k = 2
  · have hK4 : 4 ≤ K ∧ K ≤ 5 := by rw [hK]; unfold patN; rcases hk with rfl | rfl <;> decide
    have q0b : ((K : Int) == 0) = false := by simp; omega
    by_cases hlen : M = K
    · subst hlen
      have q5 : ((M : Int) != (M : Int)) = false := by simp
      have HKM := hid hK
      clear hK
      go_wp2
      clear m0 m1 g0 g1
      go_loopw [6, 7] (fun v6 i wz => ∃ t Q : Nat, t ≤ M ∧ i = .int .i64 t ∧ Hid (∀ S ∈ Ss.take t, WholeL n es S) ∧ Hid (t ≠ 0 → RightG n es) ∧ Hid (AllSt W.heap.size wz Ss t Q v6) ∧ Hid (Below W.heap.size W wz)) (fun _ i _ => M - (RowKit.intOf i).toNat)
      case atStart => exact ⟨0, 0, Nat.zero_le _, rfl, (fun S hS' => by simp at hS'), (fun h => absurd rfl h), ⟨by simp, by simp; exact World.ownsRow_nil _ _ _ _⟩, Below.refl _ _⟩
      case round =>
        obtain ⟨t, Q, ht, rfl, hw, hrg, hall, hb⟩ := hrel
        obtain ⟨hg, _, ⟨m0, m1⟩, hll⟩ := HGC.out wr hb.out
        obtain ⟨g0, g1⟩ := hg.cells
        obtain ⟨va, vc, rfl, hsl6⟩ := sl_own hall.out.2
        by_cases hlt : t < M
        · have htr : t < Ss.length := by rw [← HMM.out]; exact hlt
          obtain ⟨gs, off, rfl, hgs, hcs⟩ := hll (by omega)
          obtain ⟨ak, ck, c0, hI, hsl⟩ := hcs t htr
          obtain ⟨r1, hr1⟩ := boolR_of (RightG n es ∧ WholeL n es Ss[t])
          have HST : Hid (Ss[t].length ≤ 1000) := HSL.out _ (List.getElem_mem htr)
          have CWt := hid (CW.out wr.drew ak ck Ss[t] r1 hb.out.drew HST.out (hI.below (Below.refl _ _).drew) hr1)
          obtain ⟨L, hLe⟩ := ex_eq Ss[t]
          rw [← hLe] at c0 CWt hsl hI hr1 HST
          have HNXW : Hid (RightG n es ∧ WholeL n es L → ∀ S ∈ Ss.take (t + 1), WholeL n es S) := fun h S hS' => by
            rw [← List.take_append_getElem htr] at hS'
            rcases List.mem_append.1 hS' with hS' | hS'
            · exact hw.out S hS'
            · simp at hS'; subst hS'; rw [← hLe]; exact h.2
          have HMEM : Hid (L ∈ Ss) := by show _ ∈ _; rw [hLe]; exact List.getElem_mem htr
          have HFN : Hid ((Ss.take (t + 1)).flatten = (Ss.take t).flatten ++ L) := by show _ = _; rw [hLe]; exact flat_next htr
          obtain ⟨J, hJ⟩ := ex_eq L.length
          have HJ := hid hJ
          rw [← hJ] at c0 CWt hsl HST
          have HR1 := hid hr1
          have q1 : (t : Int) < (M : Int) := by omega
          have q2 : (0 : Int) ≤ (t : Int) := by omega
          have HKP : Hid (∀ X, Below wr.drew.heap.size wr.drew X → X.cell? ⟨w.heap.size, 0, none⟩ = some (.int .i64 n) ∧ X.cell? ⟨w.heap.size, 1, none⟩ = some (.slice a N cap) ∧ X.cell? ⟨w.heap.size + 1, 1, none⟩ = some (.slice (some ⟨gs, off, none⟩) M sc) ∧ X.cell? ⟨gs, off + t, none⟩ = some (.slice ak J ck)) := fun X h => by
            have hX := ((Below.refl wr.heap.size wr).drew).trans h
            exact ⟨(hX.cell (p := ⟨w.heap.size, 0, none⟩) (block_lt_of_cell g0)).trans g0, (hX.cell (p := ⟨w.heap.size, 1, none⟩) (block_lt_of_cell g1)).trans g1, (hX.cell (p := ⟨w.heap.size + 1, 1, none⟩) (block_lt_of_cell m1)).trans m1, (hX.cell (p := ⟨gs, off + t, none⟩) (block_lt_of_cell c0)).trans c0⟩
          have hS := HKP.out wr.drew (Below.refl _ _)
          have HAFT : Hid (∀ X, Below wr.drew.heap.size wr.drew X → Below W.heap.size W X ∧ IAt X ak L ∧ X.ownsRow W.heap.size 3 1 (.slice va Q vc) Q ((Ss.take t).flatten.map (Value.int .i64)) ∧ W.heap.size ≤ X.heap.size) := fun X h => by
            have hX := ((Below.refl wr.heap.size wr).drew).trans h
            have h2 := hb.out.trans (hX.mono hb.out.size)
            exact ⟨h2, hI.below hX, own_below hall.out.2 hX, h2.size⟩
          have HQL : Hid (Q ≤ 1000 * t) := by show _ ≤ _; rw [hall.out.1]; exact flat_len HSL.out t
          have HQ1 := hid hall.out.1
          have HSJ := hid hsl
          clear hg hll hI hr1 hJ hw hcs hgs hsl hall hsl6 hLe
          go_upto_region 8 with fail
          refine wp_region_held_drew (S := (fun X => X.cell? ⟨w.heap.size, 0, none⟩ = some (.int .i64 n) ∧ X.cell? ⟨w.heap.size, 1, none⟩ = some (.slice a N cap) ∧ X.cell? ⟨w.heap.size + 1, 1, none⟩ = some (.slice (some ⟨gs, off, none⟩) M sc) ∧ X.cell? ⟨gs, off + t, none⟩ = some (.slice ak J ck))) (by kernel_rfl) hS (fun hHeld => ?_)
          (refine takeW (i := 0) (dst := some 27) (v := ?_) rfl rfl (by kernel_rfl) (by kernel_rfl) (by kernel_rfl) (fun _ _ _ h => h) (Or.inl ⟨by rfl, ?_⟩) hHeld ?_; rotate_left; focus (intro w hSw; (try dsimp only at hSw); go_simp; (try with_reducible rfl); done))
          try simp only [Act.put, List.setIfInBounds_toArray, List.set_cons_zero, List.set_cons_succ]
          (refine takeW (i := 1) (dst := some 28) (v := ?_) rfl rfl (by kernel_rfl) (by kernel_rfl) (by kernel_rfl) (fun _ _ _ h => h) (Or.inl ⟨by rfl, ?_⟩) hHeld ?_; rotate_left; focus (intro w hSw; (try dsimp only at hSw); go_simp; (try with_reducible rfl); done))
          try simp only [Act.put, List.setIfInBounds_toArray, List.set_cons_zero, List.set_cons_succ]
          (refine takeW (i := 2) (dst := some 29) (v := ?_) rfl rfl (by kernel_rfl) (by kernel_rfl) (by kernel_rfl) (fun _ _ _ h => h) (Or.inl ⟨by rfl, ?_⟩) hHeld ?_; rotate_left; focus (intro w hSw; (try dsimp only at hSw); go_simp; (try with_reducible rfl); done))
          try simp only [Act.put, List.setIfInBounds_toArray, List.set_cons_zero, List.set_cons_succ]
          (refine takeW (i := 3) (dst := some 30) (v := ?_) rfl rfl (by kernel_rfl) (by kernel_rfl) (by kernel_rfl) (fun _ _ _ h => h) (Or.inl ⟨by rfl, ?_⟩) hHeld ?_; rotate_left; focus (intro w hSw; (try dsimp only at hSw); go_simp; (try with_reducible rfl); done))
          try simp only [Act.put, List.setIfInBounds_toArray, List.set_cons_zero, List.set_cons_succ]
          (refine takeW (i := 4) (dst := some 31) (v := ?_) rfl rfl (by kernel_rfl) (by kernel_rfl) (by kernel_rfl) (fun _ _ _ h => h) (Or.inl ⟨by rfl, ?_⟩) hHeld ?_; rotate_left; focus (intro w hSw; (try dsimp only at hSw); go_simp; (try with_reducible rfl); done))
          try simp only [Act.put, List.setIfInBounds_toArray, List.set_cons_zero, List.set_cons_succ]
          (refine takeW (i := 5) (dst := some 32) (v := ?_) rfl rfl (by kernel_rfl) (by kernel_rfl) (by kernel_rfl) (fun _ _ _ h => h) (Or.inl ⟨by rfl, ?_⟩) hHeld ?_; rotate_left; focus (intro w hSw; (try dsimp only at hSw); go_simp; (try with_reducible rfl); done))
          try simp only [Act.put, List.setIfInBounds_toArray, List.set_cons_zero, List.set_cons_succ]
          refine wpAnyH_ready (rs := [6]) (by kernel_rfl) (by simp) ?_
          refine AllReadyH.cons (o := _) rfl (fun KK hK => ?_) AllReadyH.nil
          go_simp
          refine CWt.out.mono ?_
          rintro e y1 ⟨rfl, hb7⟩
          have HB7 := hid hb7
          have hS1 := HKP.out y1 hb7
          clear hb7
          refine hK.out _ _ hS1 (fun hHeld => ?_)
          clear hK KK
          try simp only [Act.put]
          try simp only [List.setIfInBounds_toArray]
          try simp only [List.set_cons_succ]
          try simp only [List.set_cons_zero]
          (refine takeW (i := 7) (dst := some 34) (v := ?_) rfl rfl (by kernel_rfl) (by kernel_rfl) (by kernel_rfl) (fun _ _ _ h => h) (Or.inl ⟨by rfl, ?_⟩) hHeld ?_; rotate_left; focus (intro w hSw; (try dsimp only at hSw); go_simp; (try with_reducible rfl); done))
          try simp only [Act.put, List.setIfInBounds_toArray, List.set_cons_zero, List.set_cons_succ]
          refine wpAnyH_done (by kernel_rfl) ?_ _
          clear hHeld hS g0 g1 m0 m1 c0 CWt
          obtain ⟨hbX, hIX, hOX, hszX⟩ := HAFT.out y1 HB7.out
          have HBX := hid hbX
          cases r1 with
          | false =>
            obtain rfl : r = false := b_false HR.out (fun h => by
              have := HR1.out.2 ⟨h.right, h.whole _ HMEM.out⟩
              cases this)
            clear HR HNXW HMEM HR1 hbX hIX hOX hS1
            go_wp2
            go_ret
            exact ⟨rfl, HB1.out _ HBX.out⟩
          | true =>
            have HNX := hid (HNXW.out (HR1.out.1 rfl))
            have HRX : Hid (t + 1 ≠ 0 → RightG n es) := fun _ => (HR1.out.1 rfl).1
            obtain ⟨_, _, m1, c0⟩ := hS1
            obtain ⟨nw, hnw⟩ := ex_eq (L.map (Value.int .i64))
            obtain ⟨xs0, hxs0⟩ := ex_eq ((Ss.take t).flatten.map (Value.int .i64))
            have HNW : Hid (∀ p, ak = some p → ∀ j u, nw[j]? = some u → y1.cell? (p.add j) = some u) := by rw [hnw]; exact hIX.newsO
            rw [← hxs0] at hOX
            have HOW := hid hOX
            have HLN : Hid (nw.length = J * 1) := by show _ = _; rw [hnw, List.length_map, HJ.out, Nat.mul_one]
            have HON : Hid (∀ v' ∈ nw, v'.oneCell' = true) := fun v' hv => by
              rw [hnw] at hv
              obtain ⟨z, _, rfl⟩ := List.mem_map.1 hv
              rfl
            have HNIL : Hid (ak = none → J = 0 ∧ ck = 0) := fun e => by
              have h1 := HSJ.out.2 e
              have h2 := HSJ.out.1
              exact ⟨by omega, h1⟩
            have H63 : Hid (Q + J ≤ maxLen) := by have h1 := HQL.out; have h2 := HST.out; show _ ≤ _; unfold maxLen; omega
            have HBY : Hid ((Q + J) * 8 ≤ 140737488355328) := by have h1 := HQL.out; have h2 := HST.out; show _ ≤ _; omega
            have HSZ := hid hszX
            have HNXT : Hid (Q + J = (Ss.take (t + 1)).flatten.length ∧ (Ss.take (t + 1)).flatten.map (Value.int .i64) = xs0 ++ nw) := by
              show _ ∧ _
              rw [HFN.out, List.length_append, List.map_append, ← hxs0, ← hnw, ← HQ1.out, ← HJ.out]
              exact ⟨rfl, rfl⟩
            clear HNXW HMEM HR1 hrg hbX hIX hOX hszX hnw hxs0 HAFT HKP
            go_wp2_with (at_builtin; refine wpList_append_any _ rfl _ _ 28 rfl W.heap.size 3 i0 _ 1 8 Try.underlying28 hi0 hz0 hz1 hz2 rfl (by decide) _ _ _ rfl HOW.out ak J ck nw rfl HNIL.out HLN.out HNW.out HON.out H63.out HBY.out HSZ.out ?_)
            intro v4 w4 hown4 hgrow hat4
            have HO4 : Hid (AllSt W.heap.size w4 Ss (t + 1) (Q + J) v4) := ⟨HNXT.out.1, by rw [HNXT.out.2]; exact hown4⟩
            have HB4 : Hid (Below W.heap.size W w4) := HBX.out.grown hgrow HSZ.out (fun q hq => (HOW.out.lt q hq).1)
            clear hown4 hgrow hat4 HNXT HOW HNW HON H63 HBY HLN HNIL m1 c0
            go_wp2
            go_roundw
            case rel => exact ⟨t + 1, Q + J, by omega, by go_num, HNX, HRX, HO4, HB4⟩
            case measure => simp [RowKit.intOf]; omega
        · obtain rfl : t = M := by omega
          have HALL : Hid (∀ S ∈ Ss, WholeL n es S) := by
            have := hw.out
            rw [HMM.out, List.take_length] at this
            exact this
          have HRG : Hid (RightG n es) := hrg.out (by omega)
          have htk : Ss.take t = Ss := by rw [HMM.out, List.take_length]
          have hfl := flat_len HSL.out t
          obtain ⟨hQ, hown⟩ := hall.out
          rw [htk] at hQ hown hfl
          obtain ⟨r2, hr2⟩ := boolR_of (Ss.flatten.Nodup)
          rw [hQ] at hown
          obtain ⟨a6, c6, e6, hI6⟩ := iat_own hown
          simp only [Value.slice.injEq] at e6
          obtain ⟨rfl, _, rfl⟩ := e6
          have CUt := hid (CU.out wr va vc Ss.flatten r2 (by omega) hI6 hr2)
          rw [← hQ] at CUt
          have HRA : Hid (r2 = true ↔ ApartS Ss) := hr2.trans (apart_flat (fun S hS' => (HALL.out S hS').nd))
          clear hQ hown hfl htk hI6 hr2 hall hw hrg hsl6 hll hg
          go_wp2_with fail
          refine CUt.out.mono ?_
          rintro e w5 ⟨rfl, hb5⟩
          have HB5 : Hid (Below W.heap.size W w5) := hb.out.trans (hb5.mono hb.out.size)
          clear CUt hb5 g0 g1 m0 m1
          cases r2 with
          | false =>
            obtain rfl : r = false := b_false HR.out (fun h => by have := HRA.out.2 h.apart; cases this)
            clear HR HRA
            go_wp2
            go_ret
            exact ⟨rfl, HB1.out _ HB5.out⟩
          | true =>
            have HAP := hid (HRA.out.1 rfl)
            clear HRA
            go_wp2
            go_loopg [8] t (fun G i wz => ∃ x : Nat, x ≤ t ∧ t - x ≤ G ∧ i = .int .i64 x ∧ Hid (MeetTo k es Ss x 0) ∧ Hid (Below W.heap.size W wz))
            case atStart => exact ⟨0, Nat.zero_le _, by omega, rfl, (fun a b h1 h2 => by omega), HB5⟩
            case round =>
              obtain ⟨x, hx, hG, rfl, hmt, hbz⟩ := hrel
              by_cases hlt : x < t
              · have q1 : (x : Int) < (t : Int) := by omega
                go_wp2
                go_loopg [9] x (fun G i wz => ∃ y : Nat, y ≤ x ∧ x - y ≤ G ∧ i = .int .i64 y ∧ Hid (MeetTo k es Ss x y) ∧ Hid (Below W.heap.size W wz))
                case atStart => exact ⟨0, Nat.zero_le _, by omega, rfl, hmt, hbz⟩
                case round =>
                  clear hmt hbz
                  obtain ⟨y, hy, hG3, rfl, hmt, hbz⟩ := hrel
                  by_cases hlt3 : y < x
                  · obtain ⟨hg, _, ⟨m0, m1⟩, hll⟩ := HGC.out wr hbz.out
                    obtain ⟨g0, g1⟩ := hg.cells
                    have hxr : x < Ss.length := by rw [← HMM.out]; exact hlt
                    have hyr : y < Ss.length := by omega
                    obtain ⟨gs, off, rfl, hgs, hcs⟩ := hll (by omega)
                    obtain ⟨ax, cx, c0, hIx, _⟩ := hcs x hxr
                    obtain ⟨ay, cy, c1, hIy, _⟩ := hcs y hyr
                    have HPT : Hid (joinedB k (x : Int) (y : Int) = true ↔ ((y : Int), (x : Int)) ∈ patE k) := joined_pat hk hlt3 (by rw [← HKM.out]; exact hlt)
                    obtain ⟨r3, hr3⟩ := boolR_of (Touch es Ss[x] Ss[y])
                    have CTt := hid (CT.out wr.drew ax cx Ss[x] ay cy Ss[y] r3 hbz.out.drew (HSL.out _ (List.getElem_mem hxr)) (HSL.out _ (List.getElem_mem hyr)) (hIx.below (Below.refl _ _).drew) (hIy.below (Below.refl _ _).drew) hr3)
                    obtain ⟨X1, hX1⟩ := ex_eq Ss[x].length
                    obtain ⟨Y1, hY1⟩ := ex_eq Ss[y].length
                    rw [← hX1] at c0 CTt
                    rw [← hY1] at c1 CTt
                    rw [← getD_at hxr, ← getD_at hyr] at hr3
                    have HR3 := hid hr3
                    have q3 : (x : Int) < (t : Int) := by omega
                    have q4 : (y : Int) < (x : Int) := by omega
                    have q7 : (y : Int) < (t : Int) := by omega
                    have q8 : (0 : Int) ≤ (x : Int) := by omega
                    have q9 : (0 : Int) ≤ (y : Int) := by omega
                    have HKP : Hid (∀ X, Below wr.drew.heap.size wr.drew X → X.cell? ⟨w.heap.size, 0, none⟩ = some (.int .i64 n) ∧ X.cell? ⟨w.heap.size, 1, none⟩ = some (.slice a N cap) ∧ X.cell? ⟨w.heap.size + 1, 0, none⟩ = some (.int .i64 k) ∧ X.cell? ⟨w.heap.size + 1, 1, none⟩ = some (.slice (some ⟨gs, off, none⟩) t sc) ∧ X.cell? ⟨gs, off + x, none⟩ = some (.slice ax X1 cx) ∧ X.cell? ⟨gs, off + y, none⟩ = some (.slice ay Y1 cy)) := fun X h => by
                      have hX := ((Below.refl wr.heap.size wr).drew).trans h
                      exact ⟨(hX.cell (p := ⟨w.heap.size, 0, none⟩) (block_lt_of_cell g0)).trans g0, (hX.cell (p := ⟨w.heap.size, 1, none⟩) (block_lt_of_cell g1)).trans g1, (hX.cell (p := ⟨w.heap.size + 1, 0, none⟩) (block_lt_of_cell m0)).trans m0, (hX.cell (p := ⟨w.heap.size + 1, 1, none⟩) (block_lt_of_cell m1)).trans m1, (hX.cell (p := ⟨gs, off + x, none⟩) (block_lt_of_cell c0)).trans c0, (hX.cell (p := ⟨gs, off + y, none⟩) (block_lt_of_cell c1)).trans c1⟩
                    have hS := HKP.out wr.drew (Below.refl _ _)
                    have HAFT : Hid (∀ X, Below wr.drew.heap.size wr.drew X → Below W.heap.size W X) := fun X h => hbz.out.trans ((((Below.refl wr.heap.size wr).drew).trans h).mono hbz.out.size)
                    have CJJ := hid (joined_any k (x : Int) (y : Int) wr.drew)
                    have HNN : Hid ((((y : Int), (x : Int)) ∈ patE k → Touch es (Ss.getD x []) (Ss.getD y [])) → MeetTo k es Ss x (y + 1)) := fun h a b h1 h2 h3 => by
                      by_cases e : a = x ∧ b = y
                      · obtain ⟨rfl, rfl⟩ := e; exact h h3
                      · exact hmt.out a b h1 (by omega) h3
                    clear hg hll hcs hgs hIx hIy hr3 hX1 hY1 hmt
                    by_cases hj : joinedB k (x : Int) (y : Int) = true
                    · have HIN := hid (HPT.out.1 hj)
                      have CJ : Hid (Calls Try.prog 53 #[.int .i64 k, .int .i64 (x : Int), .int .i64 (y : Int)] wr.drew fun e w' => e = .returned (.bool true) ∧ w' = wr.drew) := by
                        have := CJJ.out
                        rw [hj] at this
                        exact this
                      clear CJJ HPT hj
                      go_upto_region 19 with fail
                      refine wp_region_held_drew (S := (fun X => X.cell? ⟨w.heap.size, 0, none⟩ = some (.int .i64 n) ∧ X.cell? ⟨w.heap.size, 1, none⟩ = some (.slice a N cap) ∧ X.cell? ⟨w.heap.size + 1, 0, none⟩ = some (.int .i64 k) ∧ X.cell? ⟨w.heap.size + 1, 1, none⟩ = some (.slice (some ⟨gs, off, none⟩) t sc) ∧ X.cell? ⟨gs, off + x, none⟩ = some (.slice ax X1 cx) ∧ X.cell? ⟨gs, off + y, none⟩ = some (.slice ay Y1 cy))) (by kernel_rfl) hS (fun hHeld => ?_)
                      (refine takeW (i := 0) (dst := some 55) (v := ?_) rfl rfl (by kernel_rfl) (by kernel_rfl) (by kernel_rfl) (fun _ _ _ h => h) (Or.inl ⟨by rfl, ?_⟩) hHeld ?_; rotate_left; focus (intro w hSw; (try dsimp only at hSw); go_simp; (try with_reducible rfl); done))
                      try simp only [Act.put, List.setIfInBounds_toArray, List.set_cons_zero, List.set_cons_succ]
                      (refine takeW (i := 1) (dst := some 56) (v := ?_) rfl rfl (by kernel_rfl) (by kernel_rfl) (by kernel_rfl) (fun _ _ _ h => h) (Or.inl ⟨by rfl, ?_⟩) hHeld ?_; rotate_left; focus (intro w hSw; (try dsimp only at hSw); go_simp; (try with_reducible rfl); done))
                      try simp only [Act.put, List.setIfInBounds_toArray, List.set_cons_zero, List.set_cons_succ]
                      (refine takeW (i := 2) (dst := some 57) (v := ?_) rfl rfl (by kernel_rfl) (by kernel_rfl) (by kernel_rfl) (fun _ _ _ h => h) (Or.inl ⟨by rfl, ?_⟩) hHeld ?_; rotate_left; focus (intro w hSw; (try dsimp only at hSw); go_simp; (try with_reducible rfl); done))
                      try simp only [Act.put, List.setIfInBounds_toArray, List.set_cons_zero, List.set_cons_succ]
                      (refine takeW (i := 3) (dst := some 58) (v := ?_) rfl rfl (by kernel_rfl) (by kernel_rfl) (by kernel_rfl) (fun _ _ _ h => h) (Or.inl ⟨by rfl, ?_⟩) hHeld ?_; rotate_left; focus (intro w hSw; (try dsimp only at hSw); go_simp; (try with_reducible rfl); done))
                      try simp only [Act.put, List.setIfInBounds_toArray, List.set_cons_zero, List.set_cons_succ]
                      refine wpAnyH_ready (rs := [4]) (by kernel_rfl) (by simp) ?_
                      refine AllReadyH.cons (o := _) rfl (fun KK hK => ?_) AllReadyH.nil
                      go_simp
                      refine CJ.out.mono ?_
                      rintro e y1 ⟨rfl, rfl⟩
                      refine hK.out _ _ hS (fun hHeld => ?_)
                      clear hK KK
                      try simp only [Act.put]
                      try simp only [List.setIfInBounds_toArray]
                      try simp only [List.set_cons_succ]
                      try simp only [List.set_cons_zero]
                      (refine takeW (i := 5) (dst := some 60) (v := ?_) rfl rfl (by kernel_rfl) (by kernel_rfl) (by kernel_rfl) (fun _ _ _ h => h) (Or.inl ⟨by rfl, ?_⟩) hHeld ?_; rotate_left; focus (intro w hSw; (try dsimp only at hSw); go_simp; (try with_reducible rfl); done))
                      try simp only [Act.put, List.setIfInBounds_toArray, List.set_cons_zero, List.set_cons_succ]
                      first | refine takeW (i := 6) (dst := some 61) (v := undef) rfl rfl (by kernel_rfl) (by kernel_rfl) (by kernel_rfl) (fun _ _ _ h => h) (Or.inr ⟨by rfl, rfl⟩) hHeld ?_ | (refine takeW (i := 6) (dst := some 61) (v := ?_) rfl rfl (by kernel_rfl) (by kernel_rfl) (by kernel_rfl) (fun _ _ _ h => h) (Or.inl ⟨by rfl, ?_⟩) hHeld ?_; rotate_left; focus (intro w hSw; (try dsimp only at hSw); go_simp; (try with_reducible rfl); done))
                      try simp only [Act.put, List.setIfInBounds_toArray, List.set_cons_zero, List.set_cons_succ]
                      first | refine takeW (i := 7) (dst := some 62) (v := undef) rfl rfl (by kernel_rfl) (by kernel_rfl) (by kernel_rfl) (fun _ _ _ h => h) (Or.inr ⟨by rfl, rfl⟩) hHeld ?_ | (refine takeW (i := 7) (dst := some 62) (v := ?_) rfl rfl (by kernel_rfl) (by kernel_rfl) (by kernel_rfl) (fun _ _ _ h => h) (Or.inl ⟨by rfl, ?_⟩) hHeld ?_; rotate_left; focus (intro w hSw; (try dsimp only at hSw); go_simp; (try with_reducible rfl); done))
                      try simp only [Act.put, List.setIfInBounds_toArray, List.set_cons_zero, List.set_cons_succ]
                      first | refine takeW (i := 8) (dst := some 63) (v := undef) rfl rfl (by kernel_rfl) (by kernel_rfl) (by kernel_rfl) (fun _ _ _ h => h) (Or.inr ⟨by rfl, rfl⟩) hHeld ?_ | (refine takeW (i := 8) (dst := some 63) (v := ?_) rfl rfl (by kernel_rfl) (by kernel_rfl) (by kernel_rfl) (fun _ _ _ h => h) (Or.inl ⟨by rfl, ?_⟩) hHeld ?_; rotate_left; focus (intro w hSw; (try dsimp only at hSw); go_simp; (try with_reducible rfl); done))
                      try simp only [Act.put, List.setIfInBounds_toArray, List.set_cons_zero, List.set_cons_succ]
                      first | refine takeW (i := 9) (dst := some 64) (v := undef) rfl rfl (by kernel_rfl) (by kernel_rfl) (by kernel_rfl) (fun _ _ _ h => h) (Or.inr ⟨by rfl, rfl⟩) hHeld ?_ | (refine takeW (i := 9) (dst := some 64) (v := ?_) rfl rfl (by kernel_rfl) (by kernel_rfl) (by kernel_rfl) (fun _ _ _ h => h) (Or.inl ⟨by rfl, ?_⟩) hHeld ?_; rotate_left; focus (intro w hSw; (try dsimp only at hSw); go_simp; (try with_reducible rfl); done))
                      try simp only [Act.put, List.setIfInBounds_toArray, List.set_cons_zero, List.set_cons_succ]
                      first | refine takeW (i := 10) (dst := some 65) (v := undef) rfl rfl (by kernel_rfl) (by kernel_rfl) (by kernel_rfl) (fun _ _ _ h => h) (Or.inr ⟨by rfl, rfl⟩) hHeld ?_ | (refine takeW (i := 10) (dst := some 65) (v := ?_) rfl rfl (by kernel_rfl) (by kernel_rfl) (by kernel_rfl) (fun _ _ _ h => h) (Or.inl ⟨by rfl, ?_⟩) hHeld ?_; rotate_left; focus (intro w hSw; (try dsimp only at hSw); go_simp; (try with_reducible rfl); done))
                      try simp only [Act.put, List.setIfInBounds_toArray, List.set_cons_zero, List.set_cons_succ]
                      first | refine takeW (i := 11) (dst := some 66) (v := undef) rfl rfl (by kernel_rfl) (by kernel_rfl) (by kernel_rfl) (fun _ _ _ h => h) (Or.inr ⟨by rfl, rfl⟩) hHeld ?_ | (refine takeW (i := 11) (dst := some 66) (v := ?_) rfl rfl (by kernel_rfl) (by kernel_rfl) (by kernel_rfl) (fun _ _ _ h => h) (Or.inl ⟨by rfl, ?_⟩) hHeld ?_; rotate_left; focus (intro w hSw; (try dsimp only at hSw); go_simp; (try with_reducible rfl); done))
                      try simp only [Act.put, List.setIfInBounds_toArray, List.set_cons_zero, List.set_cons_succ]
                      first | refine takeW (i := 12) (dst := some 67) (v := undef) rfl rfl (by kernel_rfl) (by kernel_rfl) (by kernel_rfl) (fun _ _ _ h => h) (Or.inr ⟨by rfl, rfl⟩) hHeld ?_ | (refine takeW (i := 12) (dst := some 67) (v := ?_) rfl rfl (by kernel_rfl) (by kernel_rfl) (by kernel_rfl) (fun _ _ _ h => h) (Or.inl ⟨by rfl, ?_⟩) hHeld ?_; rotate_left; focus (intro w hSw; (try dsimp only at hSw); go_simp; (try with_reducible rfl); done))
                      try simp only [Act.put, List.setIfInBounds_toArray, List.set_cons_zero, List.set_cons_succ]
                      first | refine takeW (i := 13) (dst := some 68) (v := undef) rfl rfl (by kernel_rfl) (by kernel_rfl) (by kernel_rfl) (fun _ _ _ h => h) (Or.inr ⟨by rfl, rfl⟩) hHeld ?_ | (refine takeW (i := 13) (dst := some 68) (v := ?_) rfl rfl (by kernel_rfl) (by kernel_rfl) (by kernel_rfl) (fun _ _ _ h => h) (Or.inl ⟨by rfl, ?_⟩) hHeld ?_; rotate_left; focus (intro w hSw; (try dsimp only at hSw); go_simp; (try with_reducible rfl); done))
                      try simp only [Act.put, List.setIfInBounds_toArray, List.set_cons_zero, List.set_cons_succ]
                      first | refine takeW (i := 14) (dst := some 69) (v := undef) rfl rfl (by kernel_rfl) (by kernel_rfl) (by kernel_rfl) (fun _ _ _ h => h) (Or.inr ⟨by rfl, rfl⟩) hHeld ?_ | (refine takeW (i := 14) (dst := some 69) (v := ?_) rfl rfl (by kernel_rfl) (by kernel_rfl) (by kernel_rfl) (fun _ _ _ h => h) (Or.inl ⟨by rfl, ?_⟩) hHeld ?_; rotate_left; focus (intro w hSw; (try dsimp only at hSw); go_simp; (try with_reducible rfl); done))
                      try simp only [Act.put, List.setIfInBounds_toArray, List.set_cons_zero, List.set_cons_succ]
                      first | refine takeW (i := 15) (dst := some 70) (v := undef) rfl rfl (by kernel_rfl) (by kernel_rfl) (by kernel_rfl) (fun _ _ _ h => h) (Or.inr ⟨by rfl, rfl⟩) hHeld ?_ | (refine takeW (i := 15) (dst := some 70) (v := ?_) rfl rfl (by kernel_rfl) (by kernel_rfl) (by kernel_rfl) (fun _ _ _ h => h) (Or.inl ⟨by rfl, ?_⟩) hHeld ?_; rotate_left; focus (intro w hSw; (try dsimp only at hSw); go_simp; (try with_reducible rfl); done))
                      try simp only [Act.put, List.setIfInBounds_toArray, List.set_cons_zero, List.set_cons_succ]
                      first | refine takeW (i := 16) (dst := some 71) (v := undef) rfl rfl (by kernel_rfl) (by kernel_rfl) (by kernel_rfl) (fun _ _ _ h => h) (Or.inr ⟨by rfl, rfl⟩) hHeld ?_ | (refine takeW (i := 16) (dst := some 71) (v := ?_) rfl rfl (by kernel_rfl) (by kernel_rfl) (by kernel_rfl) (fun _ _ _ h => h) (Or.inl ⟨by rfl, ?_⟩) hHeld ?_; rotate_left; focus (intro w hSw; (try dsimp only at hSw); go_simp; (try with_reducible rfl); done))
                      try simp only [Act.put, List.setIfInBounds_toArray, List.set_cons_zero, List.set_cons_succ]
                      refine wpAnyH_ready (rs := [17]) (by kernel_rfl) (by simp) ?_
                      refine AllReadyH.cons (o := _) rfl (fun KK hK => ?_) AllReadyH.nil
                      go_simp
                      refine CTt.out.mono ?_
                      rintro e y2 ⟨rfl, hb7⟩
                      have HB7 := hid hb7
                      have hS1 := HKP.out y2 hb7
                      clear hb7
                      refine hK.out _ _ hS1 (fun hHeld => ?_)
                      clear hK KK
                      try simp only [Act.put]
                      try simp only [List.setIfInBounds_toArray]
                      try simp only [List.set_cons_succ]
                      try simp only [List.set_cons_zero]
                      first | refine takeW (i := 18) (dst := some 73) (v := undef) rfl rfl (by kernel_rfl) (by kernel_rfl) (by kernel_rfl) (fun _ _ _ h => h) (Or.inr ⟨by rfl, rfl⟩) hHeld ?_ | (refine takeW (i := 18) (dst := some 73) (v := ?_) rfl rfl (by kernel_rfl) (by kernel_rfl) (by kernel_rfl) (fun _ _ _ h => h) (Or.inl ⟨by rfl, ?_⟩) hHeld ?_; rotate_left; focus (intro w hSw; (try dsimp only at hSw); go_simp; (try with_reducible rfl); done))
                      try simp only [Act.put, List.setIfInBounds_toArray, List.set_cons_zero, List.set_cons_succ]
                      (refine takeW (i := 19) (dst := some 74) (v := ?_) rfl rfl (by kernel_rfl) (by kernel_rfl) (by kernel_rfl) (fun _ _ _ h => h) (Or.inl ⟨by rfl, ?_⟩) hHeld ?_; rotate_left; focus (intro w hSw; (try dsimp only at hSw); go_simp; (try with_reducible rfl); done))
                      try simp only [Act.put, List.setIfInBounds_toArray, List.set_cons_zero, List.set_cons_succ]
                      refine wpAnyH_done (by kernel_rfl) ?_ _
                      clear hHeld hS g0 g1 m0 m1 c0 c1 hS1 CTt CJ
                      have HBX := hid (HAFT.out y2 HB7.out)
                      cases r3 with
                      | false =>
                        obtain rfl : r = false := b_false HR.out (fun h => by have := HR3.out.2 (h.touch HIN.out); cases this)
                        clear HR HR3 HNN
                        go_wp2
                        go_ret
                        exact ⟨rfl, HB1.out _ HBX.out⟩
                      | true =>
                        have HNX := hid (HNN.out (fun _ => HR3.out.1 rfl))
                        clear HR3 HNN
                        go_wp2
                        go_roundg (x - (y + 1))
                        case measure => omega
                        case rel => exact ⟨y + 1, by omega, Nat.le_refl _, by go_num, HNX, HBX⟩
                    · have HNX := hid (HNN.out (fun h => absurd (HPT.out.2 h) hj))
                      have HBX := hid (HAFT.out wr.drew (Below.refl _ _))
                      have CJ : Hid (Calls Try.prog 53 #[.int .i64 k, .int .i64 (x : Int), .int .i64 (y : Int)] wr.drew fun e w' => e = .returned (.bool false) ∧ w' = wr.drew) := by
                        have := CJJ.out
                        rw [Bool.eq_false_iff.2 hj] at this
                        exact this
                      clear CJJ HPT hj HNN HR3 CTt
                      go_upto_region 19 with fail
                      refine wp_region_held_drew (S := (fun X => X.cell? ⟨w.heap.size, 0, none⟩ = some (.int .i64 n) ∧ X.cell? ⟨w.heap.size, 1, none⟩ = some (.slice a N cap) ∧ X.cell? ⟨w.heap.size + 1, 0, none⟩ = some (.int .i64 k) ∧ X.cell? ⟨w.heap.size + 1, 1, none⟩ = some (.slice (some ⟨gs, off, none⟩) t sc) ∧ X.cell? ⟨gs, off + x, none⟩ = some (.slice ax X1 cx) ∧ X.cell? ⟨gs, off + y, none⟩ = some (.slice ay Y1 cy))) (by kernel_rfl) hS (fun hHeld => ?_)
                      (refine takeW (i := 0) (dst := some 55) (v := ?_) rfl rfl (by kernel_rfl) (by kernel_rfl) (by kernel_rfl) (fun _ _ _ h => h) (Or.inl ⟨by rfl, ?_⟩) hHeld ?_; rotate_left; focus (intro w hSw; (try dsimp only at hSw); go_simp; (try with_reducible rfl); done))
                      try simp only [Act.put, List.setIfInBounds_toArray, List.set_cons_zero, List.set_cons_succ]
                      (refine takeW (i := 1) (dst := some 56) (v := ?_) rfl rfl (by kernel_rfl) (by kernel_rfl) (by kernel_rfl) (fun _ _ _ h => h) (Or.inl ⟨by rfl, ?_⟩) hHeld ?_; rotate_left; focus (intro w hSw; (try dsimp only at hSw); go_simp; (try with_reducible rfl); done))
                      try simp only [Act.put, List.setIfInBounds_toArray, List.set_cons_zero, List.set_cons_succ]
                      (refine takeW (i := 2) (dst := some 57) (v := ?_) rfl rfl (by kernel_rfl) (by kernel_rfl) (by kernel_rfl) (fun _ _ _ h => h) (Or.inl ⟨by rfl, ?_⟩) hHeld ?_; rotate_left; focus (intro w hSw; (try dsimp only at hSw); go_simp; (try with_reducible rfl); done))
                      try simp only [Act.put, List.setIfInBounds_toArray, List.set_cons_zero, List.set_cons_succ]
                      (refine takeW (i := 3) (dst := some 58) (v := ?_) rfl rfl (by kernel_rfl) (by kernel_rfl) (by kernel_rfl) (fun _ _ _ h => h) (Or.inl ⟨by rfl, ?_⟩) hHeld ?_; rotate_left; focus (intro w hSw; (try dsimp only at hSw); go_simp; (try with_reducible rfl); done))
                      try simp only [Act.put, List.setIfInBounds_toArray, List.set_cons_zero, List.set_cons_succ]
                      refine wpAnyH_ready (rs := [4]) (by kernel_rfl) (by simp) ?_
                      refine AllReadyH.cons (o := _) rfl (fun KK hK => ?_) AllReadyH.nil
                      go_simp
                      refine CJ.out.mono ?_
                      rintro e y1 ⟨rfl, rfl⟩
                      refine hK.out _ _ hS (fun hHeld => ?_)
                      clear hK KK
                      try simp only [Act.put]
                      try simp only [List.setIfInBounds_toArray]
                      try simp only [List.set_cons_succ]
                      try simp only [List.set_cons_zero]
                      (refine takeW (i := 5) (dst := some 60) (v := ?_) rfl rfl (by kernel_rfl) (by kernel_rfl) (by kernel_rfl) (fun _ _ _ h => h) (Or.inl ⟨by rfl, ?_⟩) hHeld ?_; rotate_left; focus (intro w hSw; (try dsimp only at hSw); go_simp; (try with_reducible rfl); done))
                      try simp only [Act.put, List.setIfInBounds_toArray, List.set_cons_zero, List.set_cons_succ]
                      first | refine takeW (i := 6) (dst := some 61) (v := undef) rfl rfl (by kernel_rfl) (by kernel_rfl) (by kernel_rfl) (fun _ _ _ h => h) (Or.inr ⟨by rfl, rfl⟩) hHeld ?_ | (refine takeW (i := 6) (dst := some 61) (v := ?_) rfl rfl (by kernel_rfl) (by kernel_rfl) (by kernel_rfl) (fun _ _ _ h => h) (Or.inl ⟨by rfl, ?_⟩) hHeld ?_; rotate_left; focus (intro w hSw; (try dsimp only at hSw); go_simp; (try with_reducible rfl); done))
                      try simp only [Act.put, List.setIfInBounds_toArray, List.set_cons_zero, List.set_cons_succ]
                      first | refine takeW (i := 7) (dst := some 62) (v := undef) rfl rfl (by kernel_rfl) (by kernel_rfl) (by kernel_rfl) (fun _ _ _ h => h) (Or.inr ⟨by rfl, rfl⟩) hHeld ?_ | (refine takeW (i := 7) (dst := some 62) (v := ?_) rfl rfl (by kernel_rfl) (by kernel_rfl) (by kernel_rfl) (fun _ _ _ h => h) (Or.inl ⟨by rfl, ?_⟩) hHeld ?_; rotate_left; focus (intro w hSw; (try dsimp only at hSw); go_simp; (try with_reducible rfl); done))
                      try simp only [Act.put, List.setIfInBounds_toArray, List.set_cons_zero, List.set_cons_succ]
                      first | refine takeW (i := 8) (dst := some 63) (v := undef) rfl rfl (by kernel_rfl) (by kernel_rfl) (by kernel_rfl) (fun _ _ _ h => h) (Or.inr ⟨by rfl, rfl⟩) hHeld ?_ | (refine takeW (i := 8) (dst := some 63) (v := ?_) rfl rfl (by kernel_rfl) (by kernel_rfl) (by kernel_rfl) (fun _ _ _ h => h) (Or.inl ⟨by rfl, ?_⟩) hHeld ?_; rotate_left; focus (intro w hSw; (try dsimp only at hSw); go_simp; (try with_reducible rfl); done))
                      try simp only [Act.put, List.setIfInBounds_toArray, List.set_cons_zero, List.set_cons_succ]
                      first | refine takeW (i := 9) (dst := some 64) (v := undef) rfl rfl (by kernel_rfl) (by kernel_rfl) (by kernel_rfl) (fun _ _ _ h => h) (Or.inr ⟨by rfl, rfl⟩) hHeld ?_ | (refine takeW (i := 9) (dst := some 64) (v := ?_) rfl rfl (by kernel_rfl) (by kernel_rfl) (by kernel_rfl) (fun _ _ _ h => h) (Or.inl ⟨by rfl, ?_⟩) hHeld ?_; rotate_left; focus (intro w hSw; (try dsimp only at hSw); go_simp; (try with_reducible rfl); done))
                      try simp only [Act.put, List.setIfInBounds_toArray, List.set_cons_zero, List.set_cons_succ]
                      first | refine takeW (i := 10) (dst := some 65) (v := undef) rfl rfl (by kernel_rfl) (by kernel_rfl) (by kernel_rfl) (fun _ _ _ h => h) (Or.inr ⟨by rfl, rfl⟩) hHeld ?_ | (refine takeW (i := 10) (dst := some 65) (v := ?_) rfl rfl (by kernel_rfl) (by kernel_rfl) (by kernel_rfl) (fun _ _ _ h => h) (Or.inl ⟨by rfl, ?_⟩) hHeld ?_; rotate_left; focus (intro w hSw; (try dsimp only at hSw); go_simp; (try with_reducible rfl); done))
                      try simp only [Act.put, List.setIfInBounds_toArray, List.set_cons_zero, List.set_cons_succ]
                      first | refine takeW (i := 11) (dst := some 66) (v := undef) rfl rfl (by kernel_rfl) (by kernel_rfl) (by kernel_rfl) (fun _ _ _ h => h) (Or.inr ⟨by rfl, rfl⟩) hHeld ?_ | (refine takeW (i := 11) (dst := some 66) (v := ?_) rfl rfl (by kernel_rfl) (by kernel_rfl) (by kernel_rfl) (fun _ _ _ h => h) (Or.inl ⟨by rfl, ?_⟩) hHeld ?_; rotate_left; focus (intro w hSw; (try dsimp only at hSw); go_simp; (try with_reducible rfl); done))
                      try simp only [Act.put, List.setIfInBounds_toArray, List.set_cons_zero, List.set_cons_succ]
                      first | refine takeW (i := 12) (dst := some 67) (v := undef) rfl rfl (by kernel_rfl) (by kernel_rfl) (by kernel_rfl) (fun _ _ _ h => h) (Or.inr ⟨by rfl, rfl⟩) hHeld ?_ | (refine takeW (i := 12) (dst := some 67) (v := ?_) rfl rfl (by kernel_rfl) (by kernel_rfl) (by kernel_rfl) (fun _ _ _ h => h) (Or.inl ⟨by rfl, ?_⟩) hHeld ?_; rotate_left; focus (intro w hSw; (try dsimp only at hSw); go_simp; (try with_reducible rfl); done))
                      try simp only [Act.put, List.setIfInBounds_toArray, List.set_cons_zero, List.set_cons_succ]
                      first | refine takeW (i := 13) (dst := some 68) (v := undef) rfl rfl (by kernel_rfl) (by kernel_rfl) (by kernel_rfl) (fun _ _ _ h => h) (Or.inr ⟨by rfl, rfl⟩) hHeld ?_ | (refine takeW (i := 13) (dst := some 68) (v := ?_) rfl rfl (by kernel_rfl) (by kernel_rfl) (by kernel_rfl) (fun _ _ _ h => h) (Or.inl ⟨by rfl, ?_⟩) hHeld ?_; rotate_left; focus (intro w hSw; (try dsimp only at hSw); go_simp; (try with_reducible rfl); done))
                      try simp only [Act.put, List.setIfInBounds_toArray, List.set_cons_zero, List.set_cons_succ]
                      first | refine takeW (i := 14) (dst := some 69) (v := undef) rfl rfl (by kernel_rfl) (by kernel_rfl) (by kernel_rfl) (fun _ _ _ h => h) (Or.inr ⟨by rfl, rfl⟩) hHeld ?_ | (refine takeW (i := 14) (dst := some 69) (v := ?_) rfl rfl (by kernel_rfl) (by kernel_rfl) (by kernel_rfl) (fun _ _ _ h => h) (Or.inl ⟨by rfl, ?_⟩) hHeld ?_; rotate_left; focus (intro w hSw; (try dsimp only at hSw); go_simp; (try with_reducible rfl); done))
                      try simp only [Act.put, List.setIfInBounds_toArray, List.set_cons_zero, List.set_cons_succ]
                      first | refine takeW (i := 15) (dst := some 70) (v := undef) rfl rfl (by kernel_rfl) (by kernel_rfl) (by kernel_rfl) (fun _ _ _ h => h) (Or.inr ⟨by rfl, rfl⟩) hHeld ?_ | (refine takeW (i := 15) (dst := some 70) (v := ?_) rfl rfl (by kernel_rfl) (by kernel_rfl) (by kernel_rfl) (fun _ _ _ h => h) (Or.inl ⟨by rfl, ?_⟩) hHeld ?_; rotate_left; focus (intro w hSw; (try dsimp only at hSw); go_simp; (try with_reducible rfl); done))
                      try simp only [Act.put, List.setIfInBounds_toArray, List.set_cons_zero, List.set_cons_succ]
                      first | refine takeW (i := 16) (dst := some 71) (v := undef) rfl rfl (by kernel_rfl) (by kernel_rfl) (by kernel_rfl) (fun _ _ _ h => h) (Or.inr ⟨by rfl, rfl⟩) hHeld ?_ | (refine takeW (i := 16) (dst := some 71) (v := ?_) rfl rfl (by kernel_rfl) (by kernel_rfl) (by kernel_rfl) (fun _ _ _ h => h) (Or.inl ⟨by rfl, ?_⟩) hHeld ?_; rotate_left; focus (intro w hSw; (try dsimp only at hSw); go_simp; (try with_reducible rfl); done))
                      try simp only [Act.put, List.setIfInBounds_toArray, List.set_cons_zero, List.set_cons_succ]
                      first | refine takeW (i := 17) (dst := some 72) (v := undef) rfl rfl (by kernel_rfl) (by kernel_rfl) (by kernel_rfl) (fun _ _ _ h => h) (Or.inr ⟨by rfl, rfl⟩) hHeld ?_ | (refine takeW (i := 17) (dst := some 72) (v := ?_) rfl rfl (by kernel_rfl) (by kernel_rfl) (by kernel_rfl) (fun _ _ _ h => h) (Or.inl ⟨by rfl, ?_⟩) hHeld ?_; rotate_left; focus (intro w hSw; (try dsimp only at hSw); go_simp; (try with_reducible rfl); done))
                      try simp only [Act.put, List.setIfInBounds_toArray, List.set_cons_zero, List.set_cons_succ]
                      first | refine takeW (i := 18) (dst := some 73) (v := undef) rfl rfl (by kernel_rfl) (by kernel_rfl) (by kernel_rfl) (fun _ _ _ h => h) (Or.inr ⟨by rfl, rfl⟩) hHeld ?_ | (refine takeW (i := 18) (dst := some 73) (v := ?_) rfl rfl (by kernel_rfl) (by kernel_rfl) (by kernel_rfl) (fun _ _ _ h => h) (Or.inl ⟨by rfl, ?_⟩) hHeld ?_; rotate_left; focus (intro w hSw; (try dsimp only at hSw); go_simp; (try with_reducible rfl); done))
                      try simp only [Act.put, List.setIfInBounds_toArray, List.set_cons_zero, List.set_cons_succ]
                      (refine takeW (i := 19) (dst := some 74) (v := ?_) rfl rfl (by kernel_rfl) (by kernel_rfl) (by kernel_rfl) (fun _ _ _ h => h) (Or.inl ⟨by rfl, ?_⟩) hHeld ?_; rotate_left; focus (intro w hSw; (try dsimp only at hSw); go_simp; (try with_reducible rfl); done))
                      try simp only [Act.put, List.setIfInBounds_toArray, List.set_cons_zero, List.set_cons_succ]
                      refine wpAnyH_done (by kernel_rfl) ?_ _
                      clear hHeld hS g0 g1 m0 m1 c0 c1 CJ
                      go_wp2
                      go_roundg (x - (y + 1))
                      case measure => omega
                      case rel => exact ⟨y + 1, by omega, Nat.le_refl _, by go_num, HNX, HBX⟩
                  · obtain rfl : y = x := by omega
                    have HNX : Hid (MeetTo k es Ss (y + 1) 0) := fun a b h1 h2 h3 => hmt.out a b h1 (by omega) h3
                    clear hmt
                    go_wp2
                    go_roundg (t - (y + 1))
                    case measure => omega
                    case rel => exact ⟨y + 1, by omega, Nat.le_refl _, by go_num, HNX, hbz⟩
              · obtain rfl : x = t := by omega
                obtain rfl : r = true := HR.out.2 ⟨hk, HRG.out, by rw [← HMM.out]; exact HKM.out, HALL.out, HAP.out, (by
                  have := hmt.out
                  rw [HKM.out] at this
                  exact this.end)⟩
                have HBX := hid (HB1.out _ hbz.out)
                clear hmt HR HRG HALL HAP
                go_wp2
                go_ret
                exact ⟨rfl, HBX.out⟩
    · obtain rfl : r = false := b_false HR.out (fun h => hlen (by rw [HMM.out, h.len, hK]))
      have q5 : ((M : Int) != (K : Int)) = true := by simp [bne]; omega
      clear HR hK
      go_wp2
      go_ret
      exact ⟨rfl, HB1.out _ (Below.refl _ _)⟩
  · have e1 := patN_none hk
    obtain rfl : r = false := b_false HR.out (fun h => hk h.kind)
    obtain rfl : K = 0 := by rw [hK, e1]
    clear HR hK
    go_wp2
    go_ret
    exact ⟨rfl, HB1.out _ (Below.refl _ _)⟩
end Go.Proofs.Ytlebimolgienkaa
