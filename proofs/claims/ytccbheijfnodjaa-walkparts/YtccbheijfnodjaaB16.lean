/-
  The program's IsPath and IsCycle keep their contracts.
-/
import Derived.Test.YtccbheijfnodjaaB14
import Derived.Test.YtccbheijfnodjaaB15
import Derived.Test.YtccbheijfnodjaaB02
import Derived.BigQuiet
namespace Go.Proofs.Ytccbheijfnodjaa
open Go.RowKit Go.Lib Go.Shelf

theorem contains_any (a : Option Addr) (cap : Nat) (L : List Int) (x : Int) (w : World) (hL : L.length ≤ 1000000) (hI : IAt w a L) :
    Calls Try.prog 34 #[.slice a L.length cap, .int .i64 x] w fun e w' => e = .returned (.bool (decide (x ∈ L))) ∧ w' = w := by
  by_cases h0 : 0 < L.length
  · obtain ⟨g, off, rfl, hg, hc⟩ := hI h0
    have h := Any.slices_Contains_int Try.contains g off L.length cap L x w (Nat.le_refl _) (by omega) (fun j hj => by
      rw [hc j hj]
      simp [List.getD, hj])
    change Calls Try.prog 34 _ _ _ at h
    rw [List.take_length] at h
    have e : L.contains x = decide (x ∈ L) := by
      rw [Bool.eq_iff_iff]; simp
    rw [e] at h
    exact h
  · have hn : L = [] := List.length_eq_zero_iff.1 (by omega)
    subst hn
    have h := Any.slices_Contains_int_empty Try.contains a cap x w
    change Calls Try.prog 34 _ _ _ at h
    simpa using h
theorem good_none {l : List Int} : ¬ GoodL ((0 : Nat) : Int) l := fun h => by
  cases l with
  | nil => exact h.1 rfl
  | cons x l => have := h.2.2 x (by simp); omega
/-- The first k steps are steps of a path. -/
def LinksTo (es : List (Int × Int)) (p : List Int) (k : Nat) : Prop := ∀ i (h : i + 1 < p.length), i < k → Adj es (p[i]'(by omega)) p[i + 1]

set_option maxHeartbeats 2000000 in
set_option maxRecDepth 100000 in
theorem path_any (n : Int) (a : Option Addr) (cap : Nat) (es : List (Int × Int)) (pa : Option Addr) (pc : Nat) (p : List Int) (b r : Bool) (w : World) (hN : es.length ≤ 1000000) (hP : p.length ≤ 1000000) (hE : EAt w a es) (hI : IAt w pa p) (hb : b = true ↔ RightG n es) (hr : r = true ↔ (RightG n es ∧ PathL n es p)) :
    Calls Try.prog 12 #[.agg #[.int .i64 n, .slice a es.length cap], .slice pa p.length pc] w fun e w' => e = .returned (.bool r) ∧ Below w.heap.size w w' := by
  obtain ⟨N, hNe⟩ := ex_eq es.length
  obtain ⟨M, hMe⟩ := ex_eq p.length
  obtain ⟨W, hW⟩ := ex_eq (w.alloc (.cells #[.int .i64 n, .slice a N cap] 24))
  have hbW : Below w.heap.size w W := by rw [hW]; exact (Below.refl _ _).alloc (Nat.le_refl _) _
  have hO : W.heap[w.heap.size]? = some (.cells #[.int .i64 n, .slice a N cap] 24 (0, 0)) := by rw [hW]; exact heap_alloc_new _ _
  have hsW : w.heap.size < W.heap.size := (Array.getElem?_eq_some_iff.1 hO).1
  have CN : Hid (Calls Try.prog 32 #[.agg #[.int .i64 n, .slice a N cap]] W fun e w' => ∃ v, e = .returned v ∧ NbIs n es b W w' v) := by
    rw [hNe]; exact neighb_any n a cap es b W hN (hE.below hbW) hb
  have CM : Hid (∀ (m : Nat) X, m ≤ 1000 → Below w.heap.size w X → Calls Try.prog 33 #[.int .i64 m, .slice pa M pc] X fun e w' => ∃ v, e = .returned v ∧ MarkIs m p X w' v) := fun m X hm hX => by
    rw [hMe]; exact marked_any m pa pc p X hm hP (hI.below hX)
  have HR := hid hr
  have HBB := hid hb
  have HM := hid hMe
  have HW := hid hW
  have HBW := hid hbW
  have HI := hid hI
  rw [← hMe] at hP ⊢
  rw [← hNe]
  clear hNe hMe hW hbW hO hE hI hb hr hN
  go_enter Try.func12, Try.ntmps12
  go_wp2_with fail
  rw [← HW.out]
  refine CN.out.mono ?_
  rintro e w1 ⟨v, rfl, hv⟩
  rcases hv with ⟨hb0, rfl, hb1⟩ | ⟨hb0, m, g, rfl, rfl, hgW, hnear, hb1⟩
  · have hbw1 : Below w.heap.size w w1 := HBW.out.trans (hb1.mono (by omega))
    obtain rfl : r = false := b_false HR.out (fun h => by have := HBB.out.2 h.1; rw [hb0] at this; cases this)
    have C0 := hid (CM.out 0 w1 (by omega) hbw1)
    have HB1 := hid hbw1
    clear CM CN hb1 hbw1 HR HBB
    go_wp2_with (go_at_call 33; refine C0.out.mono ?_; rintro e w2 ⟨v, rfl, hm⟩; rcases hm with ⟨hg, _⟩ | ⟨_, u, rfl, hb2⟩; exact absurd hg good_none)
    have HB2 := hid (HB1.out.trans (hb2.mono HB1.out.size))
    clear hb2
    go_wp2
    go_ret
    exact ⟨rfl, HB2.out⟩
  · have hRG := HBB.out.1 hb0
    have hm : m ≤ 1000 := by have := hRG.2.1; omega
    have hbw1 : Below w.heap.size w w1 := HBW.out.trans (hb1.mono (by omega))
    have HRG := hid hRG
    have HNA := hid hnear
    have C0 := hid (CM.out m w1 hm hbw1)
    have HB1 := hid hbw1
    clear CM CN hb1 hbw1 hnear hRG
    go_wp2_with fail
    refine C0.out.mono ?_
    rintro e w2 ⟨v, rfl, hmk⟩
    rcases hmk with ⟨hgood, g2, rfl, hg2, _, hb2⟩ | ⟨hbad, u, rfl, hb2⟩
    · have HB2 := hid (HB1.out.trans (hb2.mono HB1.out.size))
      have HN2 := hid (HNA.out.below hb2)
      have HGD := hid hgood
      have hM0 : 0 < M := by rw [HM.out]; exact List.length_pos_iff.2 hgood.1
      have HR2 : Hid (r = true ↔ LinksTo es p (M - 1)) := by
        show r = true ↔ _
        rw [HR.out]
        constructor
        · intro h i hi _
          exact h.2.lk i hi
        · intro h
          exact ⟨HRG.out, HGD.out.1, HGD.out.2.1, HGD.out.2.2, fun i hi => h i hi (by rw [HM.out]; omega)⟩
      have qs : IntKind.i64.wrap ((M : Int) - 1) = ((M - 1 : Nat) : Int) := by simp [IntKind.wrap, IntKind.bits, IntKind.signed]; omega
      clear hb2 HR hgood C0 HBB HNA HB1
      go_wp2
      go_loopg [23] M (fun G i wz => ∃ k : Nat, k ≤ M - 1 ∧ M - k ≤ G ∧ i = .int .i64 k ∧ Hid (LinksTo es p k) ∧ Hid (Below w2.heap.size w2 wz))
      case atStart => exact ⟨0, Nat.zero_le _, by omega, (by first | rfl | go_num), (fun i _ h => absurd h (by omega)), Below.refl _ _⟩
      case round =>
        obtain ⟨k, hk, hG, rfl, hlk, hbz⟩ := hrel
        by_cases hlt : k < M - 1
        · have hkr : k + 1 < p.length := by rw [← HM.out]; omega
          obtain ⟨gp, op, rfl, hgl, hcs⟩ := HI.out (by omega)
          have hbx : Below w.heap.size w wr := HB2.out.trans (hbz.out.mono HB2.out.size)
          have d0 := (hbx.cell (p := ⟨gp, op + k, none⟩) hgl).trans (hcs k (by omega))
          have d1 := (hbx.cell (p := ⟨gp, op + (k + 1), none⟩) hgl).trans (hcs (k + 1) hkr)
          have hin := HGD.out.2.2 _ (List.getElem_mem (show k < p.length by omega))
          obtain ⟨P, hPe⟩ : ∃ P : Nat, (P : Int) = p[k] := ⟨p[k].toNat, by omega⟩
          rw [← hPe] at d0 hin
          obtain ⟨y, hy⟩ := ex_eq p[k + 1]
          rw [← hy] at d1
          have hPm : P < m := by omega
          obtain ⟨aj, cj, a1, a2, a3⟩ := (HN2.out.below hbz.out).2 P hPm
          have hl : (nbL (P : Int) es).length ≤ 1000000 := Nat.le_trans (nbL_len _ _) (by have := HRG.out.2.2.1; omega)
          obtain ⟨c, hc⟩ := ex_eq (decide (y ∈ nbL (P : Int) es))
          have HC : Hid (∀ X, IAt X aj (nbL (P : Int) es) → Calls Try.prog 34 #[.slice aj (nbL (P : Int) es).length cj, .int .i64 y] X fun e w' => e = .returned (.bool c) ∧ w' = X) := fun X hX => by rw [hc]; exact contains_any aj cj _ y X hl hX
          obtain ⟨K, hK⟩ := ex_eq (nbL (P : Int) es).length
          rw [← hK] at a1 HC
          have HIA := hid a2
          have q1 : (k : Int) < ((M - 1 : Nat) : Int) := by omega
          have q2 : (k : Int) < (M : Int) := by omega
          have q3 : (P : Int) < (m : Int) := by omega
          have q4 : (k : Int) + 1 < (M : Int) := by omega
          have q5 : IntKind.i64.wrap ((k : Int) + 1) = ((k + 1 : Nat) : Int) := by simp [IntKind.wrap, IntKind.bits, IntKind.signed]; omega
          have q6 : ((k + 1 : Nat) : Int) < (M : Int) := by omega
          have HAD : Hid (c = true ↔ Adj es p[k] p[k + 1]) := by
            show _ ↔ _
            rw [hc, decide_eq_true_eq, hPe, hy]
            exact nbL_right HRG.out
          have HX : Hid (∀ q, Below w.heap.size w (wr.drewN q)) := fun q => below_drewN hbx q
          have HX2 : Hid (∀ q, Below w2.heap.size w2 (wr.drewN q)) := fun q => below_drewN hbz.out q
          have HKR : Hid (k + 1 < p.length) := hkr
          clear hc hK hPe hy hin hcs a2 a3 hl hbx
          cases c with
          | true =>
            have HLN : Hid (LinksTo es p (k + 1)) := fun i hi hik => by
              by_cases e : i < k
              · exact hlk.out i hi e
              · obtain rfl : i = k := by omega
                exact HAD.out.1 rfl
            clear HAD hlk
            go_wp2_with fail
            go_quiet (first | (go_at_call 34; refine Calls.quiet_of_same (HC.out _ HIA.out)))
            go_wp2
            go_roundg (M - (k + 1))
            case measure => omega
            case rel => exact ⟨k + 1, by omega, Nat.le_refl _, by go_num, HLN, HX2.out _⟩
          | false =>
            obtain rfl : r = false := b_false HR2.out (fun h => by
              have := HAD.out.2 (h k HKR.out (by omega))
              cases this)
            clear HAD hlk HR2
            go_wp2_with fail
            go_quiet (first | (go_at_call 34; refine Calls.quiet_of_same (HC.out _ HIA.out)))
            go_wp2
            go_ret
            exact ⟨rfl, HX.out _⟩
        · obtain rfl : k = M - 1 := by omega
          obtain rfl : r = true := HR2.out.2 hlk.out
          have HBX : Hid (Below w.heap.size w wr) := HB2.out.trans (hbz.out.mono HB2.out.size)
          clear HR2 hlk hbz
          go_wp2
          go_ret
          exact ⟨rfl, HBX.out⟩
    · have HB2 := hid (HB1.out.trans (hb2.mono HB1.out.size))
      obtain rfl : r = false := b_false HR.out (fun h => hbad ⟨h.2.ne, h.2.nd, h.2.inn⟩)
      clear hb2 HR hbad C0 HBB HNA HB1
      go_wp2
      go_ret
      exact ⟨rfl, HB2.out⟩
end Go.Proofs.Ytccbheijfnodjaa
