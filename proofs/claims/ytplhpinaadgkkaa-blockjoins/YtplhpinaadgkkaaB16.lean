/-
  The program's New, Same, Count and Join of layer 4.
  The program's New of layer 4.
  The program's gather of layer 4: a map from who stands for a class to the numbers of it.
  maps.Values over the map of layer 4, collected: which rows come, each once, in whatever order.
-/
import Derived.Test.YtplhpinaadgkkaaB15
import Derived.Lib.Walk
import Derived.Maps.GroupsBeside
import Derived.WalkSpells
import Derived.Test.YtplhpinaadgkkaaB05
import Derived.Lib.SlKeysI
import Derived.RangeFuncKeeps
import Derived.Sort.MapsRangeIn
namespace Go.Proofs.Ytplhpinaadgkkaa
open Go.RowKit Go.Lib

/-- A part of the program's at p, of n numbers, with its classes f; its own blocks. -/
def PAp (w : World) (p : Addr) (n : Nat) (f : Nat → Nat) (S : Nat → Prop) : Prop :=
  ∃ b g rt, p = ⟨b, 0, none⟩ ∧ PX w b g n f rt (cntF f n) ∧ Pt n f ∧ n ≤ 1000 ∧ ∀ k, S k ↔ k = b ∨ k = g
theorem PX.lt {w : World} {b g n : Nat} {f rt : Nat → Nat} {c : Nat} (h : PX w b g n f rt c) : b < w.heap.size ∧ g < w.heap.size ∧ g ≠ b := by
  obtain ⟨L, rk, h1, _⟩ := h
  exact ⟨block_lt_of_cell h1.box, h1.row.1, h1.ne⟩
theorem pap_keep {w w' : World} {p : Addr} {n : Nat} {f : Nat → Nat} {S T : Nat → Prop} (h : PAp w p n f S) (hk : KeptBut T w w') (hs : ∀ k, S k → ¬ T k) : PAp w' p n f S := by
  obtain ⟨b, g, rt, hp, hx, h3, h4, hS⟩ := h
  exact ⟨b, g, rt, hp, hx.kept hk (hs b ((hS b).2 (Or.inl rfl))) (hs g ((hS g).2 (Or.inr rfl))), h3, h4, hS⟩
theorem pap_own {w : World} {p : Addr} {n : Nat} {f : Nat → Nat} {S : Nat → Prop} (h : PAp w p n f S) : Pt n f ∧ n ≤ 1000 ∧ ∀ k, S k → k < w.heap.size := by
  obtain ⟨b, g, rt, hp, hx, h3, h4, hS⟩ := h
  obtain ⟨h5, h6, _⟩ := hx.lt
  exact ⟨h3, h4, fun k hk => by rcases (hS k).1 hk with e | e <;> rw [e] <;> assumption⟩
theorem pnext_head {w w' : World} {b g n : Nat} {f rt : Nat → Nat} {S : Nat → Prop} (h : HeadIs b g n f rt (cntF f n) w w') (hP : Pt n f) (hn : n ≤ 1000) (hS : ∀ k, S k ↔ k = b ∨ k = g) : PNext PAp S w w' ⟨b, 0, none⟩ n f :=
  ⟨S, ⟨b, g, rt, rfl, h.1, hP, hn, hS⟩, fun _ hk => Or.inl hk, h.2.1.mono (fun k _ e => (hS k).2 (Or.inr e))⟩
theorem pnext_same {w w' : World} {p : Addr} {n : Nat} {f : Nat → Nat} {S : Nat → Prop} (h : PAp w p n f S) (hb : Below w.heap.size w w') : PNext PAp S w w' p n f :=
  ⟨S, pap_keep h (KeptBut.of_whole (fun _ => False) hb) (fun _ _ e => e), fun _ hk => Or.inl hk, KeptBut.of_whole S hb⟩
theorem HeadIs.trans {b g n : Nat} {f rt : Nat → Nat} {c : Nat} {w w1 w2 : World} (h : HeadIs b g n f rt c w w1) (k : HeadIs b g n f rt c w1 w2) : HeadIs b g n f rt c w w2 := ⟨k.1, h.2.1.trans k.2.1, k.2.2.trans h.2.2⟩
theorem PX.box {w : World} {b g n : Nat} {f rt : Nat → Nat} {c : Nat} (h : PX w b g n f rt c) : w.cell? ⟨b, 0, none⟩ = some (.slice (some ⟨g, 0, none⟩) n n) := by
  obtain ⟨L, rk, h1, _⟩ := h
  exact h1.box
theorem PX.same {w : World} {b g n : Nat} {f rt : Nat → Nat} {c : Nat} (h : PX w b g n f rt c) {x y : Nat} (hx : x < n) (hy : y < n) : rt x = rt y ↔ f x = f y := by
  obtain ⟨L, rk, h1, h2, h3⟩ := h
  exact h3.same h2 hx hy
theorem PX.top_lt {w : World} {b g n : Nat} {f rt : Nat → Nat} {c : Nat} (h : PX w b g n f rt c) {x : Nat} (hx : x < n) : rt x < n ∧ f (rt x) = f x := by
  obtain ⟨L, rk, h1, h2, h3⟩ := h
  exact ⟨(h3 x hx).1, (h3 x hx).2.2⟩

theorem joinI_no {n : Nat} {f : Nat → Nat} {x y : Int} (h : ¬ joinI n f x y) (i : Nat) : joinR n f x y i = f i := by
  unfold joinR
  split
  · next hin =>
    have : f x.toNat = f y.toNat := by
      by_cases e : f x.toNat = f y.toNat
      · exact e
      · exact absurd ⟨hin.1, hin.2, e⟩ h
    rw [joinF_one this]
  · rfl
theorem joinI_none {n : Nat} {f : Nat → Nat} {x y : Int} (h : ¬ joinI n f x y) : joinR n f x y = f := funext (joinI_no h)

set_option maxHeartbeats 1000000 in
set_option maxRecDepth 100000 in
theorem pjoin_any (w : World) (p : Addr) (n : Nat) (f : Nat → Nat) (S : Nat → Prop) (x y : Int) (r : Bool) (h : PAp w p n f S) (hr : r = true ↔ joinI n f x y) :
    Calls Try.prog 39 #[.pointer (some p), .int .i64 x, .int .i64 y] w fun e w' => e = .returned (.bool r) ∧ PNext PAp S w w' p n (joinR n f x y) := by
  have H := hid h
  obtain ⟨b, g, rt, rfl, hx, hP, hn, hS⟩ := h
  have c0 := hx.box
  obtain ⟨r1, hr1⟩ := ex_eq (decide (0 ≤ x ∧ x < n))
  obtain ⟨r2, hr2⟩ := ex_eq (decide (0 ≤ y ∧ y < n))
  have HX : Hid (∀ W, W.cell? ⟨b, 0, none⟩ = some (.slice (some ⟨g, 0, none⟩) n n) → Calls Try.prog 66 #[.pointer (some ⟨b, 0, none⟩), .int .i64 x] W fun e w' => e = .returned (.bool r1) ∧ w' = W) := fun W hc => has_p b _ n n x r1 W hc hr1
  have HY : Hid (∀ W, W.cell? ⟨b, 0, none⟩ = some (.slice (some ⟨g, 0, none⟩) n n) → Calls Try.prog 66 #[.pointer (some ⟨b, 0, none⟩), .int .i64 y] W fun e w' => e = .returned (.bool r2) ∧ w' = W) := fun W hc => has_p b _ n n y r2 W hc hr2
  have HPX := hid hx
  have HSS := hid hS
  have HPP := hid hP
  cases r1 with
  | false =>
    have h1 := of_decide_eq_false hr1.symm
    obtain rfl : r = false := by cases r with | false => rfl | true => exact absurd (hr.1 rfl).1 h1
    rw [joinI_none (fun e => by have := hr.2 e; cases this)]
    clear hr hr1 hr2 h1 hx hS hP
    go_enter Try.func39, Try.ntmps39
    go_wp2_with fail
    refine (HX.out _ c0).mono ?_
    rintro e w1 ⟨rfl, rfl⟩
    go_wp2
    go_ret
    exact ⟨rfl, pnext_same H.out (Below.refl _ _)⟩
  | true =>
    cases r2 with
    | false =>
      have h1 := of_decide_eq_false hr2.symm
      obtain rfl : r = false := by cases r with | false => rfl | true => exact absurd (hr.1 rfl).2.1 h1
      rw [joinI_none (fun e => by have := hr.2 e; cases this)]
      clear hr hr1 hr2 h1 hx hS hP
      go_enter Try.func39, Try.ntmps39
      go_wp2_with fail
      refine (HX.out _ c0).mono ?_
      rintro e w1 ⟨rfl, rfl⟩
      go_wp2_with fail
      refine (HY.out _ c0).mono ?_
      rintro e w2 ⟨rfl, rfl⟩
      go_wp2
      go_ret
      exact ⟨rfl, pnext_same H.out (Below.refl _ _)⟩
    | true =>
      have h1 := of_decide_eq_true hr1.symm
      have h2 := of_decide_eq_true hr2.symm
      obtain ⟨i, rfl⟩ : ∃ i : Nat, x = i := ⟨x.toNat, by omega⟩
      obtain ⟨k, rfl⟩ : ∃ k : Nat, y = k := ⟨y.toNat, by omega⟩
      have hin : i < n := by omega
      have hkn : k < n := by omega
      have hJ : joinR n f (i : Int) (k : Int) = joinF f i k := by
        unfold joinR
        rw [if_pos ⟨by omega, by omega⟩, Int.toNat_natCast, Int.toNat_natCast]
      obtain ⟨ri, hri⟩ := ex_eq (rt i)
      obtain ⟨rk', hrk⟩ := ex_eq (rt k)
      have HI : Hid (∀ W, PX W b g n f rt (cntF f n) → Calls Try.prog 67 #[.pointer (some ⟨b, 0, none⟩), .int .i64 i] W fun e w' => e = .returned (.int .i64 ri) ∧ HeadIs b g n f rt (cntF f n) W w') := fun W hW => by rw [hri]; exact head_any b g n f rt _ i W hin hW
      have HK : Hid (∀ W, PX W b g n f rt (cntF f n) → Calls Try.prog 67 #[.pointer (some ⟨b, 0, none⟩), .int .i64 k] W fun e w' => e = .returned (.int .i64 rk') ∧ HeadIs b g n f rt (cntF f n) W w') := fun W hW => by rw [hrk]; exact head_any b g n f rt _ k W hkn hW
      have hs := hx.same hin hkn
      rw [← hri, ← hrk] at hs
      have hr3 : r = true ↔ ri ≠ rk' := by
        rw [hr, Ne, hs]
        unfold joinI
        rw [Int.toNat_natCast, Int.toNat_natCast]
        exact ⟨fun h => h.2.2, fun h => ⟨by omega, by omega, h⟩⟩
      have hrin : ri < n := by rw [hri]; exact (hx.top_lt hin).1
      have hrkn : rk' < n := by rw [hrk]; exact (hx.top_lt hkn).1
      by_cases he : ri = rk'
      · obtain rfl : r = false := by cases r with | false => rfl | true => exact absurd he (hr3.1 rfl)
        rw [joinI_none (fun e => by have := hr.2 e; cases this)]
        subst he
        clear hr3 hr hr1 hr2 h1 h2 hri hrk hx hS hP hs
        go_enter Try.func39, Try.ntmps39
        go_wp2_with fail
        refine (HX.out _ c0).mono ?_
        rintro e w1 ⟨rfl, rfl⟩
        go_wp2_with fail
        refine (HY.out _ c0).mono ?_
        rintro e w2 ⟨rfl, rfl⟩
        go_wp2_with fail
        refine (HI.out _ HPX.out).mono ?_
        rintro e w3 ⟨rfl, h3⟩
        have H3 := hid h3
        clear h3
        go_wp2_with fail
        refine (HK.out _ H3.out.1).mono ?_
        rintro e w4 ⟨rfl, h4⟩
        have H4 := hid (H3.out.trans h4)
        clear h4 H3
        go_wp2
        go_ret
        exact ⟨rfl, pnext_head H4.out HPP.out hn HSS.out⟩
      · obtain rfl : r = true := hr3.2 he
        have hne : f i ≠ f k := fun e => he (hs.2 e)
        have he2 : ((ri : Int) == (rk' : Int)) = false := beq_eq_false_iff_ne.2 (by omega)
        obtain ⟨c, hc⟩ := ex_eq (cntF f n)
        have hcj := cntF_join hP hin hkn hne
        rw [← hc] at hcj
        obtain ⟨c', hc'⟩ := ex_eq (cntF (joinF f i k) n)
        rw [← hc'] at hcj
        have hcn : c ≤ n := by rw [hc]; exact cntF_le f n
        have HRT : Hid (ri = rt i ∧ rk' = rt k) := ⟨hri, hrk⟩
        have HC : Hid (c = cntF f n ∧ c' = cntF (joinF f i k) n) := ⟨hc, hc'⟩
        have HCJ : Hid (c = c' + 1) := hcj
        have HNE := hid hne
        have hw1 : IntKind.i64.wrap ((c : Int) - 1) = (c' : Int) := by rw [hcj]; simp [IntKind.wrap, IntKind.bits, IntKind.signed]; omega
        have HJ := hid hJ
        have hri' : (ri : Int) < (n : Int) := by omega
        have hrk' : (rk' : Int) < (n : Int) := by omega
        rw [← hc] at HI HK HPX
        clear hr3 hr hr1 hr2 h1 h2 hri hrk hx hS hP hs hne hc hc' hcj hJ
        go_enter Try.func39, Try.ntmps39
        go_wp2_with fail
        refine (HX.out _ c0).mono ?_
        rintro e w1 ⟨rfl, rfl⟩
        go_wp2_with fail
        refine (HY.out _ c0).mono ?_
        rintro e w2 ⟨rfl, rfl⟩
        go_wp2_with fail
        refine (HI.out _ HPX.out).mono ?_
        rintro e w3 ⟨rfl, h3⟩
        have H3 := hid h3
        clear h3
        go_wp2_with fail
        refine (HK.out _ H3.out.1).mono ?_
        rintro e w4 ⟨rfl, h4⟩
        have H4 := hid (H3.out.trans h4)
        clear h4 H3 c0
        obtain ⟨L, rk, hl, hL, hT⟩ := H4.out.1
        have d0 := hl.box
        obtain ⟨ds, fs⟩ := hl.at hrkn
        obtain ⟨dc, fc⟩ := hl.cnt
        obtain ⟨W, hW⟩ := ex_eq (w4.setCell ⟨g, rk', none⟩ (.int .i64 ri))
        have hlW : LAt W b g n (fun j => if j = rk' then ri else L j) c := by rw [hW]; exact hl.put hrkn ri
        have e0 := hlW.box
        obtain ⟨ec, fec⟩ := hlW.cnt
        obtain ⟨V, hV⟩ := ex_eq (W.setCell ⟨b, 1, none⟩ (.int .i64 c'))
        have HN : Hid (PNext PAp S w2 V ⟨b, 0, none⟩ n (joinF f i k)) := by
          have hLJ : Leads n (joinF f i k) (fun j => if j = rk' then ri else L j) _ := hL.join (a := i) (b := k) (s := ri) (t := rk') hrin hrkn (by rw [HRT.out.2]; exact (hT k hkn).2.1) (by rw [HRT.out.1]; exact (hT i hin).2.2) (by rw [HRT.out.2]; exact (hT k hkn).2.2) HNE.out
          obtain ⟨rt', hrt'⟩ := hLJ.tops
          have hkV : KeptBut (fun k => k = b) W V := by rw [hV]; exact kept_set W ⟨b, 1, none⟩ _
          have hlV : LAt V b g n (fun j => if j = rk' then ri else L j) c' := by
            have hlt := block_lt_of_cell e0
            refine ⟨?_, ⟨?_, ?_⟩, ?_, hlW.ne⟩
            · rw [hV, World.cell?_setCell_other _ _ _ _ (by simp)]; exact e0
            · rw [hV]; exact World.cell?_setCell_same' _ _ _ (by rw [ec]; rfl)
            · rw [hV, World.frozen?_setCell]; exact fec
            · exact ⟨Nat.lt_of_lt_of_le hlW.row.1 hkV.size, fun j hj => ⟨(hkV.cell (p := ⟨g, j, none⟩) hlW.row.1 hlW.ne).trans (hlW.row.2 j hj).1, (hkV.frozen (p := ⟨g, j, none⟩) hlW.row.1 hlW.ne).trans (hlW.row.2 j hj).2⟩⟩
          refine ⟨S, ⟨b, g, rt', rfl, ⟨_, _, by rw [← HC.out.2]; exact hlV, hLJ, hrt'⟩, HPP.out.join hin hkn, hn, HSS.out⟩, fun _ hk => Or.inl hk, ?_⟩
          have k1 : KeptBut S w2 w4 := H4.out.2.1.mono (fun k _ e => (HSS.out k).2 (Or.inr e))
          have k2 : KeptBut S w4 W := by rw [hW]; exact (kept_set w4 ⟨g, rk', none⟩ _).mono (fun k _ e => (HSS.out k).2 (Or.inr e))
          exact (k1.trans k2).trans (hkV.mono (fun k _ e => (HSS.out k).2 (Or.inl e)))
        have HW := hid hW
        have HV := hid hV
        clear hlW hl hL hT hW hV HRT HC HNE H4 HPX HI HK HX HY
        go_wp2_with (rw [← HW.out])
        go_ret
        rw [HJ.out]
        refine ⟨rfl, ?_⟩
        first | exact HN.out | (rw [← HV.out]; exact HN.out) | (rw [← HW.out, ← HV.out]; exact HN.out)
end Go.Proofs.Ytplhpinaadgkkaa
namespace Go.Proofs.Ytplhpinaadgkkaa
open Go.RowKit Go.Lib

set_option maxHeartbeats 1000000 in
set_option maxRecDepth 100000 in
theorem pnew_any (n : Int) (w : World) :
    Calls Try.prog 37 #[.int .i64 n] w fun e w' => ∃ p, e = .returned (.pointer (some p)) ∧ PNew PAp w w' p n := by
  obtain ⟨m, hm⟩ : ∃ m : Nat, min (max n 0) 1000 = (m : Int) := ⟨(min (max n 0) 1000).toNat, by omega⟩
  have hm1 : m ≤ 1000 := by omega
  have HM : Hid ((m : Int) = max 0 (min n 1000)) := by show (m : Int) = _; omega
  obtain ⟨i0, hi, hz0, hz1, hz2⟩ := info_parts Try.info3
  obtain ⟨g, hg⟩ := ex_eq w.heap.size
  obtain ⟨w2, hrun, hown, hgrow⟩ := run_make_full (P := Try.prog) w w.heap.size 28 3 i0 (.int .i64 0) 1 Try.underlying28 hi hz0 hz1 .i64 .i64 m (by rw [hz2]; omega) (by unfold maxLen; omega) (Nat.le_refl _)
  have hs2 : w.heap.size < w2.heap.size := by
    rcases hown.2 with ⟨hv, _⟩ | ⟨g', cap, cur, hv, _, hgb, _⟩
    · simp at hv
    · simp only [Value.slice.injEq, Option.some.injEq, Addr.mk.injEq, and_true, true_and] at hv
      obtain ⟨rfl, _⟩ := hv
      exact (Array.getElem?_eq_some_iff.1 hgb).1
  have hr2 : Row1 w2 g m (fun _ => 0) := by rw [hg]; exact row1_made hown hs2
  have hb2 : Below g w w2 := by rw [hg]; exact Below.grown (Below.refl _ _) hgrow (Nat.le_refl _) (fun k hk => by cases hk)
  obtain ⟨b, hb⟩ := ex_eq w2.heap.size
  obtain ⟨W0, hW0⟩ := ex_eq (w2.alloc (.cells #[.slice (some ⟨g, 0, none⟩) m m, .int .i64 m] 90))
  have hO : W0.heap[b]? = some (.cells #[.slice (some ⟨g, 0, none⟩) m m, .int .i64 m] 90 (0, 0)) := by rw [hW0, hb]; exact heap_alloc_new _ _
  have hne : g < b := by omega
  have H0 : Hid (LAt W0 b g m (fun j => if j < 0 then j else 0) m) := by
    refine ⟨cell_of_heap hO 0, ⟨cell_of_heap hO 1, frozen_of_heap hO _⟩, ?_, by omega⟩
    rw [hW0]
    exact (hr2.alloc _).congr (fun j _ => by simp)
  have hB0 : Below g w W0 := by rw [hW0]; exact hb2.alloc (by omega) _
  rw [← hg] at hrun
  have HW0 := hid hW0
  have HG := hid hg
  have HBB := hid hb
  clear hown hgrow hi hz0 hz1 hz2 hr2 hb2 hO hW0 hs2 hb hg
  go_enter Try.func37, Try.ntmps37
  go_wp2_with fail
  rw [← HBB.out, ← HW0.out]
  have d0 := H0.out.box
  go_wp2
  clear hrun HW0 d0
  go_loopg [18] m (fun G i wz => ∃ k : Nat, k ≤ m ∧ m - k ≤ G ∧ i = .int .i64 k ∧ Hid (LAt wz b g m (fun j => if j < k then j else 0) m) ∧ Hid (Below g w wz))
  case atStart => exact ⟨0, Nat.zero_le _, by omega, rfl, H0, hB0⟩
  case round =>
    obtain ⟨k, hk, hG, rfl, hL, hbz⟩ := hrel
    have d0 := hL.out.box
    by_cases hlt : k < m
    · have q1 : (k : Int) < (m : Int) := by omega
      obtain ⟨ck, fk⟩ := hL.out.at hlt
      have HNX : Hid (LAt (wr.setCell ⟨g, k, none⟩ (.int .i64 k)) b g m (fun j => if j < k + 1 then j else 0) m) := (hL.out.put hlt k).congr (fun j _ => by
        by_cases e : j = k
        · subst e; rw [if_pos rfl, if_pos (by omega)]
        · rw [if_neg e]
          by_cases e2 : j < k
          · rw [if_pos e2, if_pos (by omega)]
          · rw [if_neg e2, if_neg (by omega)])
      have HBX : Hid (Below g w (wr.setCell ⟨g, k, none⟩ (.int .i64 k))) := hbz.out.setCell (p := ⟨g, k, none⟩) (Nat.le_refl _) _
      clear hL hbz
      go_wp2
      go_roundg (m - (k + 1))
      case measure => omega
      case rel => exact ⟨k + 1, by omega, Nat.le_refl _, by go_num, HNX, HBX⟩
    · obtain rfl : k = m := by omega
      have HX : Hid (PNew PAp w wr ⟨b, 0, none⟩ n) := by
        have hl : LAt wr b g k (fun i => i) (cntF (fun i => i) k) := by rw [cntF_new]; exact hL.out.congr (fun j hj => by rw [if_pos hj])
        have hgb : g ≤ b := by have := hl.ne; omega
        refine ⟨k, fun j => j = b ∨ j = g, HM.out, ⟨b, g, fun i => i, rfl, ⟨_, _, hl, leads_new k, fun a ha => ⟨ha, rfl, rfl⟩⟩, pt_new k, hm1, fun _ => Iff.rfl⟩, ?_, by rw [← HG.out]; exact hbz.out⟩
        rintro j (rfl | rfl)
        · rw [← HG.out]; exact hgb
        · rw [← HG.out]; exact Nat.le_refl _
      clear hL hbz HM
      go_wp2
      go_ret
      exact ⟨_, rfl, HX.out⟩
end Go.Proofs.Ytplhpinaadgkkaa
namespace Go.Proofs.Ytplhpinaadgkkaa
open Go.RowKit Go.Lib Go.Maps Go.ChangeShapes

theorem keyI : Keyed Try.prog 3 := int_keyed Try.underlying3
theorem zeroR (w : World) : (zeroValue 28).run Try.prog w = .ok (.slice none 0 0) w := by kernel_rfl
/-- How a row of numbers reads. -/
def rowD (xs : List Int) : DataW Unit := if xs = [] then .nil else .slice (lits .i64 xs) []
theorem lits_inj {xs ys : List Int} (h : (lits .i64 xs : List (DataW Unit)) = lits .i64 ys) : xs = ys := by
  unfold lits at h
  exact (List.map_inj_right (fun a b hab => by cases hab; rfl)).1 h
theorem rowD_of {w : World} {base : Nat} {e : TypeId} {v : Value} {zs xs : List Int} (ho : w.ownsInts base e .i64 v zs) (h : rowDatum (H := Unit) .i64 v zs = rowD xs) : zs = xs := by
  unfold rowD at h
  rcases ho.datum (H := Unit) with ⟨h1, h2⟩ | h1
  · rw [h1] at h
    by_cases e : xs = []
    · rw [h2, e]
    · rw [if_neg e] at h; cases h
  · rw [h1] at h
    by_cases e : xs = []
    · rw [if_pos e] at h; cases h
    · rw [if_neg e] at h
      simp only [DataW.slice.injEq, and_true] at h
      exact lits_inj h
/-- The map behind k numbers: under who stands for a class its numbers below k. -/
structure Grp (D : DataW Unit) (f rt : Nat → Nat) (n k : Nat) : Prop where
  isMap : IsMap D
  has : ∀ kl, Maps.has D kl = true ↔ ∃ a, a < k ∧ kl = .int .i64 (rt a)
  «at» : ∀ a, a < n → D.atKey (.int .i64 (rt a)) .nil = rowD (partTo f (f a) k)
theorem grp_new (f rt : Nat → Nat) (n : Nat) : Grp (.map []) f rt n 0 := ⟨isMap_empty, fun kl => ⟨fun h => (by cases h), fun ⟨a, ha, _⟩ => absurd ha (by omega)⟩, fun a _ => by
  have : partTo f (f a) 0 = [] := rfl
  rw [this]
  rfl⟩
theorem grp_step {D : DataW Unit} {f rt : Nat → Nat} {n k : Nat} (h : Grp D f rt n k) (hk : k < n) (hs : ∀ a b, a < n → b < n → (rt a = rt b ↔ f a = f b)) {d : DataW Unit} (hd : d = .slice (lits .i64 (partTo f (f k) k ++ [(k : Int)])) []) : Grp (D.put (.int .i64 (rt k)) d) f rt n (k + 1) := by
  refine ⟨h.isMap.put _ _, fun kl => ?_, fun a ha => ?_⟩
  · by_cases e : kl = .int .i64 (rt k)
    · subst e
      exact ⟨fun _ => ⟨k, by omega, rfl⟩, fun _ => has_put_same h.isMap (show WideAt.IsKeyLit (.int .i64 (rt k)) from trivial) _⟩
    · rw [has_put_other e, h.has]
      constructor
      · rintro ⟨a, ha, e2⟩; exact ⟨a, by omega, e2⟩
      · rintro ⟨a, ha, e2⟩
        refine ⟨a, ?_, e2⟩
        by_cases e3 : a = k
        · subst e3; exact absurd e2 e
        · omega
  · by_cases e : rt a = rt k
    · have ef := (hs a k ha hk).1 e
      rw [e, atKey_put_same h.isMap (show WideAt.IsKeyLit (.int .i64 (rt k)) from trivial), hd, ef, partTo_yes rfl]
      unfold rowD
      rw [if_neg (by simp)]
    · have ef : ¬ f k = f a := fun e2 => e ((hs a k ha hk).2 e2.symm)
      rw [atKey_put_other (fun e2 => e (by simp only [Lit.int.injEq, true_and] at e2; omega)), h.at a ha, partTo_no ef]

/-- What gather leaves. -/
def GatherIs (b g n : Nat) (f rt : Nat → Nat) (c : Nat) (w w' : World) : Prop :=
  PX w' b g n f rt c ∧ (∃ D, w'.ownsGroups Try.prog 3 (w.heap.size + 1) 3 .i64 w.heap.size n D ∧ Grp D f rt n n) ∧ KeptBut (fun k => k = g) w w' ∧ w.heap.size + 1 ≤ w'.heap.size
theorem KeptBut.grown {g : Nat} {w w' : World} (h : KeptBut (fun k => k = g) w w') : w.grownBy w' (some g) := ⟨h.os, h.tape, h.output, h.size, fun i hi hne => h.block i hi (fun e => hne (by rw [e]))⟩
theorem KeptBut.one {w w' : World} {row : Option Nat} {B : Nat} (h : w.grownBy w' row) (hr : ∀ j, row = some j → B ≤ j) : KeptBut (fun k => B ≤ k) w w' := ⟨h.os, h.tape, h.output, h.size, fun i hi hne => h.block i hi (fun e => hne (hr i e.symm))⟩

set_option maxHeartbeats 2000000 in
set_option maxRecDepth 100000 in
theorem gather_any (b g n : Nat) (f rt : Nat → Nat) (c : Nat) (w : World) (hn : n ≤ 1000) (hx : PX w b g n f rt c) :
    Calls Try.prog 70 #[.int .i64 n, .func (.func 67) #[.pointer (some ⟨b, 0, none⟩)] #[]] w fun e w' => e = .returned (.map (some w.heap.size)) ∧ GatherIs b g n f rt c w w' := by
  have hmm := @run_makeMap Try.prog
  obtain ⟨i0, hi, hz0, hz1, hz2⟩ := info_parts Try.info3
  obtain ⟨B, hB⟩ := ex_eq w.heap.size
  have HS : Hid (∀ a b, a < n → b < n → (rt a = rt b ↔ f a = f b)) := fun a b ha hb => hx.same ha hb
  obtain ⟨hlb, hlg, _⟩ := hx.lt
  rw [← hB] at hlb hlg
  obtain ⟨W0, hW0⟩ := ex_eq (w.alloc (.map #[] 0))
  have H0 : Hid (W0.ownsGroups (H := Unit) Try.prog 3 (B + 1) 3 .i64 B 0 (.map [])) := by rw [hW0, hB]; exact World.ownsGroups_made _ _ _ _ _
  have K0 : KeptBut (fun k => k = g) w W0 := by rw [hW0]; exact kept_alloc w _ _
  have HX0 : Hid (PX W0 b g n f rt c) := hx.kept (S := fun _ => False) (by rw [hW0]; exact kept_alloc w _ _) (fun e => e) (fun e => e)
  have hs0 : W0.heap.size = B + 1 := by rw [hW0, hB]; simp
  have HH : Hid (∀ (a : Nat) W, a < n → PX W b g n f rt c → Calls Try.prog 67 #[.pointer (some ⟨b, 0, none⟩), .int .i64 a] W fun e w' => e = .returned (.int .i64 (rt a)) ∧ HeadIs b g n f rt c W w') := fun a W ha hW => head_any b g n f rt c a W ha hW
  have HW0 := hid hW0
  have HB := hid hB
  clear hx hW0 hB
  go_enter Try.func70, Try.ntmps70
  go_wp2
  rw [← HW0.out, ← HB.out]
  clear hmm HW0
  go_loopg [10] n (fun G i wz => ∃ (k : Nat) (D : DataW Unit), k ≤ n ∧ n - k ≤ G ∧ i = .int .i64 k ∧ Hid (PX wz b g n f rt c) ∧ Hid (wz.ownsGroups Try.prog 3 (B + 1) 3 .i64 B k D) ∧ Hid (Grp D f rt n k) ∧ Hid (KeptBut (fun k => k = g) w wz) ∧ B + 1 ≤ wz.heap.size)
  case atStart => exact ⟨0, .map [], Nat.zero_le _, by omega, rfl, HX0, H0, grp_new f rt n, K0, by omega⟩
  case round =>
    obtain ⟨k, D, hk, hG, rfl, hX, hO, hD, hK, hsz⟩ := hrel
    by_cases hlt : k < n
    · have q1 : (k : Int) < (n : Int) := by omega
      go_wp2_with fail
      refine (HH.out k _ hlt hX.out).mono ?_
      rintro e w1 ⟨rfl, h1⟩
      have hX1 := hid h1.1
      have hK1 : Hid (KeptBut (fun k => k = g) w w1) := hK.out.trans h1.2.1
      have hs1 : B + 1 ≤ w1.heap.size := by rw [h1.2.2]; exact hsz
      have hO1 : Hid (w1.ownsGroups Try.prog 3 (B + 1) 3 .i64 B k D) := hO.out.kept h1.2.1.grown (fun e => by simp at e; omega) (hO.out.rowsAbove (fun j hj => by cases hj; omega))
      obtain ⟨r, hr⟩ := ex_eq (rt k)
      rw [← hr]
      have hrn : r < n := by rw [hr]; exact (hX1.out.top_lt hlt).1
      have HAT : Hid (D.atKey (.int .i64 r) .nil = rowD (partTo f (f k) k)) := by
        show D.atKey (.int .i64 r) .nil = _
        rw [hr]; exact hD.out.at k hlt
      have HGS : Hid (∀ d, d = .slice (lits .i64 (partTo f (f k) k ++ [(k : Int)])) [] → Grp (D.put (.int .i64 r) d) f rt n (k + 1)) := fun d hd => by rw [hr]; exact grp_step hD.out hlt HS.out hd
      have hkey : keyOf Try.prog 3 (.int .i64 (r : Int)) = some (.int .i64 r) := keyOf_int_mk Try.underlying3 (WalkArith.wf_i64 (by omega))
      have HKY := hid hkey
      clear h1 hX hO hK hD hr hkey
      go_wp2_with (first
        | (at_lookup; refine wpList_lookup_groups _ rfl _ _ 95 rfl 3 28 3 .i64 keyI Try.underlying95 (zeroR _) (B + 1) B k _ rfl hO1.out (by unfold maxLen; omega) _ _ rfl HKY.out ?_; intro v zs hat hoi hzl hback)
        | (at_builtin; refine wpList_append_own_at _ rfl _ _ 28 rfl (B + 1) 3 i0 (.int .i64 0) 1 8 Try.underlying28 hi hz0 hz1 hz2 rfl (by decide) _ _ _ rfl (hoi.1.alloc _) ⟨w1.heap.size, 0, none⟩ 1 1 [.int .i64 k] rfl rfl (cell_one_new _ _ _) (ints_oneCell .i64 [(k : Int)]) (by unfold maxLen; omega) (by omega) (by simp; omega) ?_; intro v' w3 hown' hgrow hnil hloc)
        | (at_mapUpdate; refine wpList_mapUpdate_back _ rfl _ _ _ 95 rfl hback rfl rfl rfl ((World.grownBy_alloc _ _ _).trans hgrow) (hoi.appended hown' (WalkArith.wf_i64 (by omega))) (by simp; omega) (hloc.imp id (fun h => ⟨_, h, by simp⟩)) ?_; intro w4 hown4 hgrow4))
      have hall := (World.grownBy_alloc w1 _ _).trans hgrow
      have happ := hoi.appended hown' (WalkArith.wf_i64 (by omega))
      have hzs : zs = partTo f (f k) k := rowD_of hoi (hat.symm.trans HAT.out)
      have HD4 : Hid (Grp (D.put (.int .i64 r) (rowDatum .i64 v' (zs ++ [(k : Int)]))) f rt n (k + 1)) := HGS.out _ (by rw [happ.datum_pos (by simp), hzs])
      have hb1 : KeptBut (fun j => B ≤ j) w1 w3 := KeptBut.one hall (fun j hj => by have := (hoi.1.lt j hj).1; omega)
      have hb2 : KeptBut (fun j => B ≤ j) w3 w4 := KeptBut.one hgrow4 (fun j hj => by cases hj; exact Nat.le_refl _)
      have hb4 := hb1.trans hb2
      have HX4 : Hid (PX w4 b g n f rt c) := hX1.out.kept hb4 (by omega) (by omega)
      have HK4 : Hid (KeptBut (fun k => k = g) w w4) := ⟨hb4.os.trans hK1.out.os, hb4.tape.trans hK1.out.tape, hb4.output.trans hK1.out.output, Nat.le_trans hK1.out.size hb4.size, fun i hi hne => (hb4.block i (Nat.lt_of_lt_of_le hi hK1.out.size) (by rw [HB.out]; omega)).trans (hK1.out.block i hi hne)⟩
      have hs4 : B + 1 ≤ w4.heap.size := Nat.le_trans hs1 hb4.size
      have HO4 := hid hown4
      clear hown4 hgrow4 hall happ hzs hb1 hb2 hb4 hX1 hO1 hK1 HAT HGS hat hoi hzl hback hown' hgrow hnil hloc
      go_wp2
      go_roundg (n - (k + 1))
      case measure => omega
      case rel => exact ⟨k + 1, _, by omega, Nat.le_refl _, by go_num, HX4, HO4, HD4, HK4, hs4⟩
    · obtain rfl : k = n := by omega
      have HR : Hid (GatherIs b g k f rt c w wr) := by
        refine ⟨hX.out, ⟨D, ?_, hD.out⟩, hK.out, ?_⟩
        · rw [← HB.out]; exact hO.out
        · rw [← HB.out]; exact hsz
      clear hX hO hD hK
      go_wp2
      go_ret
      exact ⟨by rw [← HB.out]; rfl, HR.out⟩
end Go.Proofs.Ytplhpinaadgkkaa
namespace Go.Proofs.Ytplhpinaadgkkaa
open Go.RowKit Go.Lib Go.Shelf Go.Maps Go.MapKept Go.WideShapes
open Go.WideElems (Fit rd rg pl rd_key rd_val rg_of)
attribute [local go_sem] Oper.semAt_some

/-- A slice as a value: where it lies, how long it is, how long it may be. -/
def slv (c : Option Addr × Nat × Nat) : Value := .slice c.1 c.2.1 c.2.2
/-- A reading of a map's slices that keeps the very slice. -/
def heldR : Value → Option (DataW Value × List MemPlace)
  | .slice a n c => some (.held (.slice a n c), [])
  | _ => none
theorem heldR_inv {v : Value} {y : DataW Value × List MemPlace} (h : heldR v = some y) : ∃ c, v = slv c := by
  cases v <;> first | (cases h; done) | exact ⟨(_, _, _), rfl⟩
theorem heldR_slv (c : Option Addr × Nat × Nat) : heldR (slv c) = some (.held (slv c), []) := rfl
theorem heldR_own {w : World} {base : Nat} {e : TypeId} {q : IntKind} {v : Value} {zs : List Int} (h : w.ownsInts base e q v zs) : heldR v = some (.held v, []) := by
  rcases h.1.2 with ⟨rfl, _⟩ | ⟨g, cap, cur, rfl, _⟩ <;> rfl
/-- A map of rows, told with the very slices. -/
structure Held (w : World) (b base n : Nat) (D : DataW Unit) (D' : DataW Value) : Prop where
  owns : w.ownsMap Try.prog 3 heldR b n D'
  has : ∀ x : Int, has D' (.int .i64 x) = has D (.int .i64 x)
  row : ∀ (x : Int) v, D'.atKey (.int .i64 x) .nil = .held v → ∃ zs, w.ownsInts base 3 .i64 v zs ∧ D.atKey (.int .i64 x) .nil = rowDatum .i64 v zs
  apart : ∀ (x y : Int) v u, x ≠ y → D'.atKey (.int .i64 x) .nil = .held v → D'.atKey (.int .i64 y) .nil = .held u → v.ownBlock = none ∨ v.ownBlock ≠ u.ownBlock
theorem groups_held {w : World} {base b n : Nat} {D : DataW Unit} (h : w.ownsGroups Try.prog 3 base 3 .i64 b n D) : ∃ D', Held w b base n D D' := by
  obtain ⟨es, clock, hb, F, hs, rfl, hbb, hlen, hap⟩ := h
  have own : ∀ en ∈ es.toList, ∃ kl zs, keyOf Try.prog 3 en.key = some kl ∧ w.ownsInts base 3 .i64 en.val zs ∧ rg Try.prog 3 (rowElem (H := Unit) w base 3 .i64) en = (kl, rowDatum .i64 en.val zs) ∧ rd Try.prog 3 heldR en = some (kl, .held en.val) := fun en hen => by
    obtain ⟨y, hy⟩ := F.reads en hen
    obtain ⟨z, hz, hzd⟩ := rd_val hy
    obtain ⟨zs, ho, rfl⟩ := rowElem_inv hz
    refine ⟨y.1, zs, rd_key hy, ho, ?_, ?_⟩
    · rw [rg_of hy]
      exact Prod.ext rfl hzd
    · unfold rd
      rw [rd_key hy, heldR_own ho]
      rfl
  have F' : Fit Try.prog 3 heldR es clock := ⟨F.size, F.stamped, fun en hen => by obtain ⟨kl, zs, _, _, _, h4⟩ := own en hen; exact ⟨_, h4⟩⟩
  have hkl : ∀ x : Int, WideAt.IsKeyLit (.int .i64 x) := fun _ => trivial
  have at1 := fun x : Int => atKey_sorted (es.toList.map (rg Try.prog 3 (rowElem (H := Unit) w base 3 .i64))) (Maps.fit_rising keyI F) (.int .i64 x) (hkl x)
  have at2 := fun x : Int => atKey_sorted (es.toList.map (rg Try.prog 3 heldR)) (Maps.fit_rising keyI F') (.int .i64 x) (hkl x)
  have way : ∀ x : Int, (∃ en ∈ es.toList, keyOf Try.prog 3 en.key = some (.int .i64 x)) ∨ ((∀ p ∈ es.toList.map (rg Try.prog 3 (rowElem (H := Unit) w base 3 .i64)), p.1 ≠ .int .i64 x) ∧ ∀ p ∈ es.toList.map (rg Try.prog 3 heldR), p.1 ≠ .int .i64 x) := fun x => by
    by_cases hex : ∃ en ∈ es.toList, keyOf Try.prog 3 en.key = some (.int .i64 x)
    · exact Or.inl hex
    · refine Or.inr ⟨fun p hp e => ?_, fun p hp e => ?_⟩
      · obtain ⟨en, hen, rfl⟩ := List.mem_map.1 hp
        obtain ⟨kl, zs, h1, _, h3, _⟩ := own en hen
        rw [h3] at e
        exact hex ⟨en, hen, by rw [h1, ← e]⟩
      · obtain ⟨en, hen, rfl⟩ := List.mem_map.1 hp
        obtain ⟨kl, zs, h1, _, _, h4⟩ := own en hen
        rw [rg_of h4] at e
        exact hex ⟨en, hen, by rw [h1, ← e]⟩
  have yes : ∀ (x : Int) en, en ∈ es.toList → keyOf Try.prog 3 en.key = some (.int .i64 x) → (∃ zs, w.ownsInts base 3 .i64 en.val zs ∧ ∀ z, (DataW.map ((es.toList.map (rg Try.prog 3 (rowElem (H := Unit) w base 3 .i64))).foldr DataW.insert [])).atKey (.int .i64 x) z = rowDatum .i64 en.val zs) ∧ ∀ z, (DataW.map ((es.toList.map (rg Try.prog 3 heldR)).foldr DataW.insert [])).atKey (.int .i64 x) z = .held en.val := fun x en hen hk => by
    obtain ⟨kl, zs, h1, h2, h3, h4⟩ := own en hen
    obtain rfl : kl = .int .i64 x := Option.some.inj (h1.symm.trans hk)
    refine ⟨⟨zs, h2, fun z => ?_⟩, fun z => ?_⟩
    · exact ((at1 x).2 _ (List.mem_map.2 ⟨en, hen, rfl⟩) (by rw [h3]) z).trans (by rw [h3])
    · exact ((at2 x).2 _ (List.mem_map.2 ⟨en, hen, rfl⟩) (by rw [rg_of h4]) z).trans (by rw [rg_of h4])
  have find : ∀ (x : Int) v, (DataW.map ((es.toList.map (rg Try.prog 3 heldR)).foldr DataW.insert [])).atKey (.int .i64 x) .nil = .held v → ∃ en ∈ es.toList, keyOf Try.prog 3 en.key = some (.int .i64 x) ∧ en.val = v := fun x v hv => by
    rcases way x with ⟨en, hen, hk⟩ | ⟨_, h2⟩
    · have := (yes x en hen hk).2 .nil
      rw [hv] at this
      exact ⟨en, hen, hk, by simpa using this.symm⟩
    · rw [(at2 x).1 h2 .nil] at hv
      cases hv
  refine ⟨_, ⟨es, clock, hb, F', hs, rfl⟩, fun x => ?_, fun x v hv => ?_, fun x y v u hne hv hu => ?_⟩
  · rcases way x with ⟨en, hen, hk⟩ | ⟨h1, h2⟩
    · obtain ⟨⟨zs, _, h3⟩, h4⟩ := yes x en hen hk
      rw [has_true_of_atKey h3, has_true_of_atKey h4]
    · rw [has_false_of_atKey ((at1 x).1 h1), has_false_of_atKey ((at2 x).1 h2)]
  · obtain ⟨en, hen, hk, rfl⟩ := find x v hv
    obtain ⟨⟨zs, ho, h3⟩, _⟩ := yes x en hen hk
    exact ⟨zs, ho, h3 .nil⟩
  · obtain ⟨en, hen, hk, rfl⟩ := find x v hv
    obtain ⟨en2, hen2, hk2, rfl⟩ := find y u hu
    exact hap en hen en2 hen2 (fun e => by rw [e, hk2] at hk; simp at hk; exact hne hk.symm)

/-- What has come: no key twice, each slice the one at its key. -/
def Came1 (D' : DataW Value) (xs : List (Int × (Option Addr × Nat × Nat))) : Prop := (xs.map Prod.fst).Nodup ∧ (∀ x, x ∈ xs.map Prod.fst ↔ has D' (.int .i64 x) = true) ∧ ∀ x ∈ xs, D'.atKey (.int .i64 x.1) .nil = .held (slv x.2)

set_option maxRecDepth 100000 in
set_option maxHeartbeats 1000000 in
theorem vals1_in (m : Nat) (hm : 1 ≤ m) (l Bm b nn : Nat) (D' : DataW Value) (J Jx : List (Int × (Option Addr × Nat × Nat)) → World → Prop)
    (hY : ∀ pre x W, J pre W → pre.length < Maps.size D' → YieldAt Fence.wide (m - 1) Try.prog l #[slv x.2] W fun e W' =>
      (e = .returned (.bool true) ∧ J (pre ++ [x]) W' ∧ KeepsWalks W W') ∨ (e = .returned (.bool false) ∧ Jx (pre ++ [x]) W'))
    (W : World) (hJ : AbidesFrom W.heap.size J) (hm0 : W.cell? ⟨Bm, 0, none⟩ = some (.map (some b))) (hown : W.ownsMap Try.prog 3 heldR b nn D') (h0 : J [] W) :
    CallsIn Fence.wide m Try.prog 94 #[.func (.yield l) #[] #[], .pointer (some ⟨Bm, 0, none⟩)] W fun e W' => (∃ v, e = .returned v) ∧ ((∃ xs, Came1 D' xs ∧ J xs W') ∨ (∃ pre, True ∧ Jx pre W')) := by
  refine callsIn_of_wp Try.func94 rfl trivial ?_ rfl
  simp only [Try.ntmps94, List.size_toArray, List.length_cons, List.length_nil, Nat.reduceAdd, Nat.reduceSub, Array.replicate_succ, Array.replicate_zero, List.push_toArray, List.append_toArray, List.nil_append, List.cons_append]
  gi_wp2_with (first
    | (gi_at_range; refine wpListIn_range_own _ rfl _ 95 rfl 3 28 keyI Try.underlying95 _ b nn _ rfl hown ?_; intro w0 hrg0 hg0 hs0)
    | gi_in)
  go_frame
  gi_loopw [4] (fun _ wr => ∃ (left : Lit → Bool) (cnt : Nat) (xs : List (Int × (Option Addr × Nat × Nat))), wr.ranges Try.prog 3 heldR b W.heap.size nn D' left cnt ∧ xs.length + cnt ≤ Maps.size D' ∧ CollectedI D' left (xs.map Prod.fst) ∧ (∀ x ∈ xs, D'.atKey (.int .i64 x.1) .nil = .held (slv x.2)) ∧ J xs wr)
    (fun _ wr => wr.rangeLeft b W.heap.size)
  case atStart =>
    exact ⟨_, _, [], hrg0, by simp, CollectedI.start D', by simp, hJ [] W w0 none h0 hg0 (fun r e => by cases e)⟩
  case round =>
    obtain ⟨left, cnt, xs, hrg, hcs, hC, hV, hJs⟩ := hrel
    gi_wp2_with (first
      | (gi_at_next; refine wpListIn_next_ranges _ rfl _ rfl 3 keyI heldR encZ slv (fun key kl hk => by obtain ⟨x, hx, _⟩ := Maps.keyOf_i64 Try.underlying3 hk; exact ⟨x, hx⟩) (fun v _ hv => heldR_inv hv) b W.heap.size nn _ _ _ rfl hrg ?_ ?_)
      | gi_in)
    · intro hc0 hl0
      gi_wp2
      go_end0
      exact ⟨⟨_, rfl⟩, .inl ⟨xs, ⟨hC.1, fun x => by rw [hC.2 x, hl0]; simp, hV⟩, hJs⟩⟩
    · intro x ca cn cc kl yd yp w2 cnt2 hkey hlk hv hat hrg2 hlt hg2 hs2 hen
      obtain ⟨x', ex, rfl, _⟩ := Maps.keyOf_i64 Try.underlying3 hkey
      obtain rfl : x = x' := encZ_inj ex
      have hJ2 : J xs w2 := hJ xs wr w2 (some W.heap.size) hJs hg2 (fun r e => by cases e; exact ⟨Nat.le_refl _, hrg.iter_walk⟩)
      obtain ⟨fn, tmps, assign, body, hy, hR⟩ := hY xs (x, (ca, cn, cc)) w2 hJ2 (by omega)
      have hVc : D'.atKey (.int .i64 x) .nil = .held (slv (ca, cn, cc)) := by
        rw [heldR_slv] at hv
        simp only [Option.some.injEq, Prod.mk.injEq] at hv
        rw [hat .nil, ← hv.1]
      have HV2 : Hid (∀ z ∈ xs ++ [(x, (ca, cn, cc))], D'.atKey (.int .i64 z.1) .nil = .held (slv z.2)) := fun z hz => by
        rcases List.mem_append.1 hz with hz | hz
        · exact hV z hz
        · simp at hz; subst hz; exact hVc
      clear hs2 hVc hV
      gi_wp2
      refine hR.mono ?_
      have hC2 := hC.step hlk hat
      rintro e W3 (⟨rfl, hJ3, hk3⟩ | ⟨rfl, hJx3⟩)
      · gi_wp2
        have hrg3 := hrg2.of_walks hk3
        go_roundw
        case rel => exact ⟨_, cnt2, xs ++ [(x, (ca, cn, cc))], hrg3, by simp; omega, by rw [List.map_append]; exact hC2, HV2.out, hJ3⟩
        case measure => rw [hrg3.left_eq, hrg.left_eq]; exact hlt
      · gi_wp2
        refine bodyPost_ret (results_none rfl _ _ _) rfl ?_
        exact ⟨⟨_, rfl⟩, .inr ⟨_, trivial, hJx3⟩⟩
end Go.Proofs.Ytplhpinaadgkkaa
