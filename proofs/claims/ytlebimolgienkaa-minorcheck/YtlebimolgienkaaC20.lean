/-
  The document's Whole (layer 5): what is reached, one behind the other.
-/
import Derived.Test.YtlebimolgienkaaC08
import Derived.Test.YtlebimolgienkaaC05
import Derived.Test.YtlebimolgienkaaC06
import Derived.Test.YtlebimolgienkaaC19
namespace Go.Proofs.Ytlebimolgienkaa
open Go.RowKit Go.Lib

/-- Of the first i that are reached, all neighbours in l are reached. -/
def ClosedG (es : List (Int × Int)) (l got : List Int) (i : Nat) : Prop := ∀ j (h : j < got.length), j < i → ∀ v, Adj es got[j] v → v ∈ l → v ∈ got
theorem ClosedG.put {es : List (Int × Int)} {l got : List Int} {i : Nat} (h : ClosedG es l got i) (hi : i ≤ got.length) (y : Int) : ClosedG es l (got ++ [y]) i := fun j hj hji v ha hv => by
  have hj' : j < got.length := by omega
  rw [List.getElem_append_left hj'] at ha
  exact List.mem_append_left _ (h j hj' hji v ha hv)
theorem ClosedG.next {es : List (Int × Int)} {l got : List Int} {i : Nat} {x : Int} (h : ClosedG es l got i) (hx : got[i]? = some x) (hn : ∀ v, Adj es x v → v ∈ l → v ∈ got) : ClosedG es l got (i + 1) := fun j hj hji v ha hv => by
  by_cases e : j < i
  · exact h j hj e v ha hv
  · obtain rfl : j = i := by omega
    rw [List.getElem?_eq_getElem hj] at hx
    cases hx
    exact hn v ha hv
/-- What is reached, in memory. -/
structure GotSt (D : Nat) (w2 wz : World) (es : List (Int × Int)) (l : List Int) (x0 : Int) (i : Nat) (v : Value) (got : List Int) : Prop where
  own : wz.ownsRow D 3 1 v got.length (got.map (Value.int .i64))
  gt : Got es l x0 got
  cls : ClosedG es l got i
  bel : Below D w2 wz
/-- While the neighbours of the next one are looked at. -/
structure NearSt (D : Nat) (w2 wz : World) (es : List (Int × Int)) (l : List Int) (x0 : Int) (i : Nat) (x : Int) (a : Option Addr) (L : List Int) (j : Nat) (v : Value) (got : List Int) : Prop where
  st : GotSt D w2 wz es l x0 i v got
  lt : i < got.length
  at_ : got[i]? = some x
  row : IAt wz a L
  off : ∀ g o, a = some ⟨g, o, none⟩ → 0 < L.length → v.ownBlock ≠ some g
  all : ∀ r (h : r < L.length), r < j → L[r] ∈ l → L[r] ∈ got
theorem NearSt.skip {D : Nat} {w2 wz : World} {es : List (Int × Int)} {l : List Int} {x0 : Int} {i : Nat} {x : Int} {a : Option Addr} {L : List Int} {j : Nat} {v : Value} {got : List Int} (h : NearSt D w2 wz es l x0 i x a L j v got) (hj : j < L.length) (hn : L[j] ∈ l → L[j] ∈ got) : NearSt D w2 wz es l x0 i x a L (j + 1) v got :=
  ⟨h.st, h.lt, h.at_, h.row, h.off, fun r hr hrj hl => by
    by_cases e : r < j
    · exact h.all r hr e hl
    · obtain rfl : r = j := by omega
      exact hn hl⟩
theorem NearSt.put {D : Nat} {w2 wz w4 : World} {es : List (Int × Int)} {l : List Int} {x0 : Int} {i : Nat} {x : Int} {a : Option Addr} {L : List Int} {j : Nat} {v v4 : Value} {got : List Int} {X : Obj} (h : NearSt D w2 wz es l x0 i x a L j v got) (hj : j < L.length) (hD : D ≤ w2.heap.size)
    (ha : Adj es x L[j]) (hl : L[j] ∈ l) (hn : L[j] ∉ got) (ho : w4.ownsRow D 3 1 v4 (got.length + 1) (got.map (Value.int .i64) ++ [.int .i64 L[j]])) (hg : (wz.alloc X).grownBy w4 v.ownBlock) (hat : v4.ownBlock = v.ownBlock ∨ v4.ownBlock = some (wz.alloc X).heap.size) :
    NearSt D w2 w4 es l x0 i x a L (j + 1) v4 (got ++ [L[j]]) := by
  have hxg : x ∈ got := List.mem_of_getElem? h.at_
  have hk : KeptBut (fun k => some k = v.ownBlock) wz w4 := (kept_alloc wz X _).trans (KeptBut.of_grown hg)
  have hDz := Nat.le_trans hD h.st.bel.size
  refine ⟨⟨by rw [List.length_append, List.map_append]; exact ho, h.st.gt.put hxg ha hl hn, h.st.cls.put (Nat.le_of_lt h.lt) _, ?_⟩, by rw [List.length_append]; exact Nat.lt_of_lt_of_le h.lt (Nat.le_add_right _ _), by rw [List.getElem?_append_left h.lt]; exact h.at_, h.row.kept hk (fun g o e h0 e2 => h.off g o e h0 e2.symm), fun g o e h0 e2 => ?_, fun r hr hrj hrl => ?_⟩
  · exact h.st.bel.trans (hk.below hDz (fun k _ e => (h.st.own.lt k e.symm).1))
  · rcases hat with h1 | h1
    · exact h.off g o e h0 (h1.symm.trans e2)
    · obtain ⟨g', o', e', hg', _⟩ := h.row h0
      rw [e] at e'
      cases e'
      rw [h1] at e2
      simp at e2
      omega
  · by_cases e : r < j
    · exact List.mem_append_left _ (h.all r hr e hrl)
    · obtain rfl : r = j := by omega
      simp
theorem NearSt.end {n : Int} {D : Nat} {w2 wz : World} {es : List (Int × Int)} {l : List Int} {x0 : Int} {i : Nat} {x : Int} {a : Option Addr} {L : List Int} {v : Value} {got : List Int} (h : NearSt D w2 wz es l x0 i x a L L.length v got) (hR : RightG n es) (hL : L = nbL x es) : GotSt D w2 wz es l x0 (i + 1) v got :=
  ⟨h.st.own, h.st.gt, h.st.cls.next h.at_ (fun y hy hyl => by
    have : y ∈ L := by rw [hL]; exact (nbL_right hR).2 hy
    obtain ⟨r, hr, rfl⟩ := List.getElem_of_mem this
    exact h.all r hr hr hyl), h.st.bel⟩

set_option maxHeartbeats 4000000 in
set_option maxRecDepth 100000 in
theorem rwhole_any (n : Int) (a : Option Addr) (cap : Nat) (es : List (Int × Int)) (pa : Option Addr) (pc : Nat) (p : List Int) (b r : Bool) (w : World) (hN : es.length ≤ 1000000) (hP : p.length ≤ 1000000) (hE : EAt w a es) (hI : IAt w pa p) (hb : b = true ↔ RightG n es) (hr : r = true ↔ (RightG n es ∧ WholeL n es p)) :
    Calls Try.prog 51 #[.agg #[.int .i64 n, .slice a es.length cap], .slice pa p.length pc] w fun e w' => e = .returned (.bool r) ∧ Below w.heap.size w w' := by
  obtain ⟨i0, hi0, hz0, hz1, hz2⟩ := info_parts Try.info3
  obtain ⟨N, hNe⟩ := ex_eq es.length
  obtain ⟨M, hMe⟩ := ex_eq p.length
  obtain ⟨W, hW⟩ := ex_eq (w.alloc (.cells #[.int .i64 n, .slice a N cap] 26))
  have hbW : Below w.heap.size w W := by rw [hW]; exact (Below.refl _ _).alloc (Nat.le_refl _) _
  have hO : W.heap[w.heap.size]? = some (.cells #[.int .i64 n, .slice a N cap] 26 (0, 0)) := by rw [hW]; exact heap_alloc_new _ _
  have hBW : w.heap.size < W.heap.size := (Array.getElem?_eq_some_iff.1 hO).1
  have HGC : Hid (∀ X, Below W.heap.size W X → GC X w.heap.size n a N cap es ∧ IAt X pa p ∧ Below w.heap.size w X) := fun X hX => by
    have o := (hX.block _ hBW).trans hO
    have hbx : Below w.heap.size w X := hbW.trans (hX.mono (by omega))
    exact ⟨⟨cell_of_heap o 0, cell_of_heap o 1, hE.below hbx⟩, hI.below hbx, hbx⟩
  have CR : Hid (∀ X, Below W.heap.size W X → Calls Try.prog 41 #[.agg #[.int .i64 n, .slice a N cap]] X fun e w' => e = .returned (.bool b) ∧ Below X.heap.size X w') := fun X hX => by
    rw [hNe]; exact rright_any n a cap es b X hN (HGC.out X hX).1.at_ hb
  obtain ⟨u, hu⟩ := boolR_of (p.Nodup)
  have CU : Hid (∀ X, IAt X pa p → Calls Try.prog 52 #[.slice pa M pc] X fun e w' => e = .returned (.bool u) ∧ Below X.heap.size X w') := fun X hX => by
    rw [hMe]; exact unlike_any pa pc p u X hP hX hu
  have CNN : Hid (b = true → ∀ X (x : Int), GC X w.heap.size n a N cap es → Calls Try.prog 91 #[.agg #[.int .i64 n, .slice a N cap], .int .i64 x] X fun e w' => ∃ v, e = .returned v ∧ w'.ownsRow X.heap.size 3 1 v (nbL x es).length ((nbL x es).map (Value.int .i64)) ∧ Below X.heap.size X w') := fun hb1 X x hX => by
    rw [hNe]; exact rnear_own n a cap es x b _ X hN hX.at_ hb (by rw [if_pos hb1])
  have CI : Hid (∀ X (qa : Option Addr) (qc : Nat) (q : List Int) (y : Int), q.length ≤ 1000000 → IAt X qa q → Calls Try.prog 44 #[.slice qa q.length qc, .int .i64 y] X fun e w' => e = .returned (.bool (decide (y ∈ q))) ∧ w' = X) := fun X qa qc q y hq h => in_any qa qc q y X hq h
  have HR := hid hr
  have HBB := hid hb
  have HM := hid hMe
  have HU := hid hu
  have HW := hid hW
  rw [← hMe] at hP ⊢
  rw [← hNe]
  clear hNe hMe hW hbW hO hE hI hb hr hu hN
  go_enter Try.func51, Try.ntmps51
  go_wp2_with fail
  rw [← HW.out]
  refine (CR.out W (Below.refl _ _)).mono ?_
  rintro e w1 ⟨rfl, hb1⟩
  have HB1 := hid hb1
  obtain ⟨hg1, hi1, hbw1⟩ := HGC.out w1 hb1
  have HI1 := hid hi1
  have HBw1 := hid hbw1
  clear CR hb1 hg1 hi1 hbw1 HW
  cases b with
  | false =>
    obtain rfl : r = false := b_false HR.out (fun h => absurd (HBB.out.2 h.1) (by simp))
    clear HR HBB HU
    go_wp2
    go_ret
    exact ⟨rfl, HBw1.out⟩
  | true =>
    have HRG := hid (HBB.out.1 rfl)
    have CN := hid (CNN.out rfl)
    clear HBB CNN
    by_cases hM0 : M = 0
    · obtain rfl : r = false := b_false HR.out (fun h => h.2.ne (List.length_eq_zero_iff.1 (by rw [← HM.out]; exact hM0)))
      subst hM0
      clear HR HU HRG
      go_wp2
      go_ret
      exact ⟨rfl, HBw1.out⟩
    · have q0 : ((M : Int) == 0) = false := beq_eq_false_iff_ne.2 (by omega)
      go_wp2_with fail
      refine (CU.out w1 HI1.out).mono ?_
      rintro e w2 ⟨rfl, hb2⟩
      have hb12 : Below W.heap.size W w2 := HB1.out.trans (hb2.mono HB1.out.size)
      have HB2 := hid hb12
      have HBw2 := hid (HGC.out w2 hb12).2.2
      clear hb2 hb12 CU HI1 HBw1 HB1
      cases u with
      | false =>
        obtain rfl : r = false := b_false HR.out (fun h => absurd (HU.out.2 h.2.nd) (by simp))
        clear HR HU
        go_wp2
        go_ret
        exact ⟨rfl, HBw2.out⟩
      | true =>
        have HND := hid (HU.out.1 rfl)
        clear HU q0
        go_wp2
        go_loopg [5] M (fun G i wz => ∃ k : Nat, k ≤ M ∧ M - k ≤ G ∧ i = .int .i64 k ∧ Hid (∀ j (h : j < p.length), j < k → 0 ≤ p[j] ∧ p[j] < n) ∧ Hid (Below W.heap.size W wz))
        case atStart => exact ⟨0, Nat.zero_le _, by omega, rfl, (fun j _ h => absurd h (by omega)), HB2⟩
        case round =>
          obtain ⟨k, hk, hG, rfl, hpt, hbz⟩ := hrel
          obtain ⟨hg, hi, hbw⟩ := HGC.out wr hbz.out
          have HBW := hid hbw
          by_cases hlt : k < M
          · have hkr : k < p.length := by rw [← HM.out]; exact hlt
            obtain ⟨g, off, rfl, hgl, hcs⟩ := hi (by omega)
            have d0 := hcs k hkr
            obtain ⟨x, hx⟩ := ex_eq p[k]
            rw [← hx] at d0
            have q1 : (k : Int) < (M : Int) := by omega
            obtain ⟨g0, g1⟩ := hg.cells
            have HX := hid hx
            clear hcs hx hi hbw hg
            by_cases hin : 0 ≤ x ∧ x < n
            · have e1 : decide (x < 0) = false := decide_eq_false (by omega)
              have e2 : decide (n ≤ x) = false := decide_eq_false (by omega)
              have e3 : ¬ x < 0 := by omega
              have e4 : ¬ n ≤ x := by omega
              have HNX : Hid (∀ j (h : j < p.length), j < k + 1 → 0 ≤ p[j] ∧ p[j] < n) := fun j hj hjk => by
                by_cases e : j < k
                · exact hpt.out j hj e
                · obtain rfl : j = k := by omega
                  rw [← HX.out]; exact hin
              clear hpt hin HX
              go_wp2
              go_quiet (fail)
              go_wp2
              go_roundg (M - (k + 1))
              case measure => omega
              case rel => exact ⟨k + 1, by omega, Nat.le_refl _, by go_num, HNX, below_drewN hbz.out _⟩
            · obtain rfl : r = false := b_false HR.out (fun hp => hin (by rw [HX.out]; exact hp.2.inn _ (List.getElem_mem hkr)))
              have HBX := hid (HGC.out wr hbz.out).2.2
              clear HR hpt HX
              by_cases hx0 : x < 0
              · have e1 : decide (x < 0) = true := decide_eq_true hx0
                clear hin
                go_wp2
                go_quiet (fail)
                go_wp2
                go_ret
                exact ⟨rfl, below_drewN HBX.out _⟩
              · have e1 : decide (x < 0) = false := decide_eq_false hx0
                have e2 : n ≤ x := by omega
                have e3 : decide (n ≤ x) = true := decide_eq_true e2
                clear hin
                go_wp2
                go_quiet (fail)
                go_wp2
                go_ret
                exact ⟨rfl, below_drewN HBX.out _⟩
          · obtain rfl : k = M := by omega
            have HIN : Hid (∀ x ∈ p, 0 ≤ x ∧ x < n) := fun x hx => by
              obtain ⟨j, hj, rfl⟩ := List.getElem_of_mem hx
              exact hpt.out j hj (by rw [HM.out]; exact hj)
            have hp0 : 0 < p.length := by rw [← HM.out]; omega
            obtain ⟨gp, op, rfl, hgp, hcs⟩ := hi hp0
            have d0 := hcs 0 hp0
            obtain ⟨x0, hx0⟩ := ex_eq (p[0]'hp0)
            rw [← hx0, Nat.add_zero] at d0
            obtain ⟨D, hD⟩ := ex_eq wr.heap.size
            obtain ⟨W1, hW1⟩ := ex_eq (wr.alloc (.cells #[.int .i64 x0] 3))
            have HOW0 : Hid (GotSt D wr W1 es p x0 0 (.slice (some ⟨D, 0, none⟩) 1 1) [x0]) := by
              refine ⟨?_, got_one (by rw [hx0]; exact List.getElem_mem hp0), fun j _ h => absurd h (by omega), ?_⟩
              · rw [hW1, hD]; exact own_oneI wr x0
              · rw [hW1, hD]; exact (Below.refl _ _).alloc (Nat.le_refl _) _
            have HDB : Hid (∀ X, Below D wr X → GC X w.heap.size n a N cap es ∧ IAt X (some ⟨gp, op, none⟩) p ∧ Below w.heap.size w X) := fun X hX => HGC.out X (hbz.out.trans (hX.mono (by rw [hD]; exact hbz.out.size)))
            have HX0 := hid hx0
            have HDD := hid hD
            have hDle : D ≤ wr.heap.size := by omega
            have HW1 := hid hW1
            have q2 : (0 : Int) < (k : Int) := by omega
            obtain ⟨wo, hwo⟩ := ex_eq wr
            clear hcs hx0 hD hW1 hpt hg hi hbw HGC
            go_wp2
            rw [← HW1.out, ← HDD.out]
            clear HW1 d0
            subst hwo
            go_loopg [6, 7] k (fun G v i wz => ∃ (t : Nat) (got : List Int), t ≤ got.length ∧ k - t ≤ G ∧ i = .int .i64 t ∧ Hid (GotSt D wo wz es p x0 t v got))
            case atStart => exact ⟨0, [x0], Nat.zero_le _, by omega, rfl, HOW0⟩
            case round =>
              obtain ⟨t, got, htl, hGt, rfl, hst⟩ := hrel
              have hlm := hst.out.gt.len
              rw [← HM.out] at hlm
              obtain ⟨K, hK⟩ := ex_eq got.length
              have HK := hid hK
              by_cases hlt2 : t < got.length
              · obtain ⟨gl, cl, hv6, hgl, cx⟩ := own_cell hst.out.own hlt2
                obtain ⟨x, hx⟩ := ex_eq got[t]
                rw [← hx] at cx
                have HXI : Hid (got[t]? = some x) := by show got[t]? = some x; rw [hx]; exact List.getElem?_eq_getElem hlt2
                subst hv6
                obtain ⟨hgc, _, _⟩ := HDB.out wr hst.out.bel
                obtain ⟨g0, g1⟩ := hgc.cells
                obtain ⟨L, hLL⟩ := ex_eq (nbL x es)
                have HLL := hid hLL
                have hLlen : L.length ≤ 4000 := by rw [hLL]; exact Nat.le_trans (nbL_len _ _) HRG.out.2.2.1
                have CQ : Hid (Calls Try.prog 91 #[.agg #[.int .i64 n, .slice a N cap], .int .i64 x] wr.drew fun e w' => ∃ v, e = .returned v ∧ w'.ownsRow wr.heap.size 3 1 v L.length (L.map (Value.int .i64)) ∧ Below wr.heap.size wr.drew w') := by
                  show Calls _ _ _ _ _
                  rw [hLL]; exact CN.out wr.drew x (HDB.out wr.drew hst.out.bel.drew).1
                have hS : wr.drew.cell? ⟨w.heap.size, 0, none⟩ = some (.int .i64 n) ∧ wr.drew.cell? ⟨w.heap.size, 1, none⟩ = some (.slice a N cap) ∧ wr.drew.cell? ⟨gl, t, none⟩ = some (.int .i64 x) := ⟨g0, g1, cx⟩
                have HKP : Hid (∀ X, Below wr.heap.size wr.drew X → X.cell? ⟨w.heap.size, 0, none⟩ = some (.int .i64 n) ∧ X.cell? ⟨w.heap.size, 1, none⟩ = some (.slice a N cap) ∧ X.cell? ⟨gl, t, none⟩ = some (.int .i64 x)) := fun X h =>
                  ⟨(h.cell (p := ⟨w.heap.size, 0, none⟩) (block_lt_of_cell g0)).trans g0, (h.cell (p := ⟨w.heap.size, 1, none⟩) (block_lt_of_cell g1)).trans g1, (h.cell (p := ⟨gl, t, none⟩) (block_lt_of_cell cx)).trans cx⟩
                have HST := hid hst.out
                rw [← hK] at hlt2 hlm ⊢
                have q3 : (t : Int) < (K : Int) := by omega
                have q4 : (0 : Int) ≤ (t : Int) := by omega
                clear hx hLL hK hst hgc
                go_wp2_with fail
                go_region_held3 (fun X => X.cell? ⟨w.heap.size, 0, none⟩ = some (.int .i64 n) ∧ X.cell? ⟨w.heap.size, 1, none⟩ = some (.slice a N cap) ∧ X.cell? ⟨gl, t, none⟩ = some (.int .i64 x)) (first | exact hS | exact hS7)
                  (first | (go_at_call 91; refine CQ.out.mono ?_; rintro e w7 ⟨v8, rfl, hown8, hb7⟩; have hS7 := HKP.out w7 hb7))
                all_goals
                  obtain ⟨a8, c8, hv8, hI8⟩ := iat_own hown8
                  have hge8 : ∀ g off, a8 = some ⟨g, off, none⟩ → wr.heap.size ≤ g := fun g off e => own_ge (by rw [← hv8]; exact hown8) g off e
                  subst hv8
                  have hlt6 : gl < wr.heap.size := (HST.out.own.lt gl rfl).2
                  have hb7' : Below wr.heap.size wr w7 := (Below.refl _ _).drew.trans hb7
                  have HNS : Hid (NearSt D wo w7 es p x0 t x a8 L 0 (.slice (some ⟨gl, 0, none⟩) K cl) got) := by
                    have hown7 := own_below HST.out.own hb7'
                    rw [← HK.out] at hown7
                    refine ⟨⟨by rw [← HK.out]; exact hown7, HST.out.gt, HST.out.cls, HST.out.bel.trans (hb7'.mono (Nat.le_trans hDle HST.out.bel.size))⟩, by rw [← HK.out]; exact hlt2, HXI.out, hI8, fun g o e _ e2 => ?_, fun r _ h => absurd h (by omega)⟩
                    have h1 := hge8 g o e
                    simp only [Value.ownBlock, Option.some.injEq] at e2
                    omega
                  obtain ⟨Q, hQ⟩ := ex_eq L.length
                  have HQ := hid hQ
                  rw [← hQ] at hLlen ⊢
                  clear hown8 hI8 hge8 hQ hS hS7 hb7 hb7' HKP CQ g0 g1 cx HXI hlt6 HST
                  go_wp2
                  go_loopg [6, 9] Q (fun G v i wz => ∃ (j : Nat) (got : List Int), j ≤ Q ∧ Q - j ≤ G ∧ i = .int .i64 j ∧ Hid (NearSt D wo wz es p x0 t x a8 L j v got))
                  case atStart => exact ⟨0, got, Nat.zero_le _, by omega, rfl, HNS⟩
                  case round =>
                    obtain ⟨j, l2, hjQ, hGj, rfl, hns⟩ := hrel
                    have hl2 := hns.out.st.gt.len
                    rw [← HM.out] at hl2
                    by_cases hlt3 : j < Q
                    · have hjL : j < L.length := by rw [← HQ.out]; exact hlt3
                      obtain ⟨g8, o8, ha8, hg8, hc8⟩ := hns.out.row (by omega)
                      subst ha8
                      have cy := hc8 j hjL
                      obtain ⟨y, hy⟩ := ex_eq L[j]
                      rw [← hy] at cy
                      have HADJ : Hid (Adj es x y) := by
                        show Adj es x y
                        exact (nbL_right HRG.out).1 (by rw [hy, ← HLL.out]; exact List.getElem_mem _)
                      have HY := hid hy
                      have q5 : (j : Int) < (Q : Int) := by omega
                      have q6 : (0 : Int) ≤ (j : Int) := by omega
                      have C1 : Hid (∀ d, d = decide (y ∈ p) → Calls Try.prog 44 #[.slice (some ⟨gp, op, none⟩) k pc, .int .i64 y] wr fun e w' => e = .returned (.bool d) ∧ w' = wr) := fun d hd => by
                        have h := CI.out wr (some ⟨gp, op, none⟩) pc p y (by rw [← HM.out]; exact hP) (HDB.out wr hns.out.st.bel).2.1
                        rw [← HM.out, ← hd] at h
                        exact h
                      obtain ⟨ga, gc, hv6, hI6⟩ := iat_own hns.out.st.own
                      obtain ⟨K2, hK2⟩ := ex_eq l2.length
                      have HK2 := hid hK2
                      rw [← hK2] at hl2 hv6
                      have C2 : Hid (∀ d, d = decide (y ∈ l2) → Calls Try.prog 44 #[.slice ga K2 gc, .int .i64 y] wr fun e w' => e = .returned (.bool d) ∧ w' = wr) := fun d hd => by
                        have h := CI.out wr ga gc l2 y (by rw [← hK2]; omega) hI6
                        rw [← hK2, ← hd] at h
                        exact h
                      subst hv6
                      clear hc8 hy hg8 hK2 hI6
                      by_cases hyp : y ∈ p
                      · have C1' := hid (C1.out true (decide_eq_true hyp).symm)
                        by_cases hyl : y ∈ l2
                        · have C2' := hid (C2.out true (decide_eq_true hyl).symm)
                          have HNX := hid (hns.out.skip hjL (fun _ => by rw [← HY.out]; exact hyl))
                          clear hns HY hyp hyl C1 C2
                          go_wp2_with fail
                          refine C1'.out.mono ?_
                          rintro e w9 ⟨rfl, rfl⟩
                          go_wp2_with fail
                          refine C2'.out.mono ?_
                          rintro e w9 ⟨rfl, rfl⟩
                          go_wp2
                          go_roundg (Q - (j + 1))
                          case measure => omega
                          case rel => exact ⟨j + 1, l2, by omega, Nat.le_refl _, by go_num, HNX⟩
                        · have C2' := hid (C2.out false (decide_eq_false hyl).symm)
                          have HOW : Hid ((wr.alloc (.cells #[.int .i64 y] 3)).ownsRow D 3 1 (.slice ga K2 gc) K2 (l2.map (Value.int .i64))) := by
                            show World.ownsRow _ _ _ _ _ _ _
                            have := hns.out.st.own
                            rw [← HK2.out] at this
                            exact this.alloc _
                          have HNW : Hid (∀ p, some (⟨wr.heap.size, 0, none⟩ : Addr) = some p → ∀ j u, [Value.int .i64 y][j]? = some u → (wr.alloc (.cells #[.int .i64 y] 3)).cell? (p.add j) = some u) := news_one _
                          have HON : Hid (∀ v' ∈ [Value.int .i64 y], v'.oneCell' = true) := fun v' hv => by simp at hv; rw [hv]; rfl
                          have H63 : Hid (K2 + 1 ≤ maxLen) := by show K2 + 1 ≤ maxLen; unfold maxLen; omega
                          have HBS : Hid (D ≤ (wr.alloc (.cells #[.int .i64 y] 3)).heap.size) := by
                            have h1 := hns.out.st.bel.size
                            show D ≤ _; simp; omega
                          have HST : Hid (∀ v4 w4, w4.ownsRow D 3 1 v4 (K2 + 1) (l2.map (Value.int .i64) ++ [.int .i64 y]) → (wr.alloc (.cells #[.int .i64 y] 3)).grownBy w4 (Value.slice ga K2 gc).ownBlock → (v4.ownBlock = (Value.slice ga K2 gc).ownBlock ∨ v4.ownBlock = some (wr.alloc (.cells #[.int .i64 y] 3)).heap.size) → NearSt D wo w4 es p x0 t x (some ⟨g8, o8, none⟩) L (j + 1) v4 (l2 ++ [y])) := fun v4 w4 h1 h2 h3 => by
                            have h := hns.out.put (w4 := w4) (v4 := v4) hjL hDle (by rw [← HY.out]; exact HADJ.out) (by rw [← HY.out]; exact hyp) (by rw [← HY.out]; exact hyl) (by rw [← HY.out, ← HK2.out]; exact h1) h2 h3
                            rw [← HY.out] at h
                            exact h
                          clear hns HY hyp hyl C1 C2
                          go_wp2_with fail
                          refine C1'.out.mono ?_
                          rintro e w9 ⟨rfl, rfl⟩
                          go_wp2_with fail
                          refine C2'.out.mono ?_
                          rintro e w9 ⟨rfl, rfl⟩
                          clear C1' C2'
                          go_wp2_with (at_builtin; refine wpList_append_any _ rfl _ _ 28 rfl D 3 i0 _ 1 8 Try.underlying28 hi0 hz0 hz1 hz2 rfl (by decide) _ _ _ rfl HOW.out (some ⟨w9.heap.size, 0, none⟩) 1 1 [.int .i64 y] rfl (fun h => by cases h) rfl HNW.out HON.out H63.out ?c4 HBS.out ?_)
                          case c4 => omega
                          intro v4 w4 hown4 hgrow hat4
                          have HNX := hid (HST.out v4 w4 hown4 hgrow (hat4.imp id (fun h => by rw [h]; try simp)))
                          clear hown4 hgrow hat4 HST HBS H63 HON HNW HOW cy
                          go_wp2
                          go_roundg (Q - (j + 1))
                          case measure => omega
                          case rel => exact ⟨j + 1, _, by omega, Nat.le_refl _, by go_num, HNX⟩
                      · have C1' := hid (C1.out false (decide_eq_false hyp).symm)
                        have HNX := hid (hns.out.skip hjL (fun h => absurd (by rw [HY.out]; exact h) hyp))
                        clear hns HY hyp C1 C2
                        go_wp2_with fail
                        refine C1'.out.mono ?_
                        rintro e w9 ⟨rfl, rfl⟩
                        go_wp2
                        go_roundg (Q - (j + 1))
                        case measure => omega
                        case rel => exact ⟨j + 1, l2, by omega, Nat.le_refl _, by go_num, HNX⟩
                    · obtain rfl : j = Q := by omega
                      have hlt4 := hns.out.lt
                      have HGS : Hid (GotSt D wo wr es p x0 (t + 1) u6 l2) := by
                        have h := hns.out
                        rw [HQ.out] at h
                        exact h.end HRG.out HLL.out
                      clear hns
                      go_wp2
                      go_roundg (k - (t + 1))
                      case measure => omega
                      case rel => exact ⟨t + 1, l2, hlt4, Nat.le_refl _, by go_num, HGS⟩
              · obtain rfl : t = got.length := by omega
                have hdone : got.length = k ↔ WholeL n es p := by
                  rw [HM.out]
                  refine Got.done HND.out HIN.out hp0 (by rw [← HX0.out]; exact hst.out.gt) (fun u hu v ha hv => ?_)
                  obtain ⟨j, hj, rfl⟩ := List.getElem_of_mem hu
                  exact hst.out.cls j hj hj v ha hv
                obtain ⟨ga, gc, hv6, _⟩ := iat_own hst.out.own
                have HBX := hid (HDB.out wr hst.out.bel).2.2
                subst hv6
                rw [← hK] at hdone hlm ⊢
                have HRR : Hid (r = ((K : Int) == (k : Int))) := by
                  show r = _
                  have h1 : r = true ↔ K = k := by rw [HR.out, hdone]; exact ⟨fun h => h.2, fun h => ⟨HRG.out, h⟩⟩
                  cases r with
                  | true => rw [h1.1 rfl]; simp
                  | false => exact (beq_eq_false_iff_ne.2 (fun e => by have := h1.2 (by omega); cases this)).symm
                clear hst hdone hK HR
                go_wp2
                go_ret
                exact ⟨by rw [HRR.out]; rfl, HBX.out⟩
end Go.Proofs.Ytlebimolgienkaa
