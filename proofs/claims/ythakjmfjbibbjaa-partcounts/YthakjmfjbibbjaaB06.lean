/-
  The document's Is, Same, Count and Join of layer 4.
  Who leads to whom in a part of the program's. No program is named here.
  The document's Same, SameEdges, SameGraph: are two rows, two graphs the same?
-/
import Derived.Test.YthakjmfjbibbjaaB05
import Derived.Test.YthakjmfjbibbjaaB02
import Derived.Test.YthakjmfjbibbjaaB01
import Derived.BigQuiet
import Derived.Shelf.SlSortCmp.QuietGrown
namespace Go.Proofs.Ythakjmfjbibbjaa
open Go.RowKit Go.Lib

set_option maxHeartbeats 400000 in
theorem ris_any (b : Nat) (a : Option Addr) (n cap : Nat) (x : Int) (r : Bool) (w : World) (c0 : w.cell? ⟨b, 0, none⟩ = some (.slice a n cap)) (hr : r = decide (0 ≤ x ∧ x < n)) :
    Calls Try.prog 30 #[.pointer (some ⟨b, 0, none⟩), .int .i64 x] w fun e w' => e = .returned (.bool r) ∧ w' = w := by
  by_cases h : 0 ≤ x
  · by_cases h2 : x < n
    · rw [decide_eq_true (by omega)] at hr
      subst hr
      go_enter Try.func30, Try.ntmps30
      go_wp2
      go_ret
      exact ⟨rfl, rfl⟩
    · rw [decide_eq_false (by omega)] at hr
      subst hr
      go_enter Try.func30, Try.ntmps30
      go_wp2
      go_ret
      exact ⟨rfl, rfl⟩
  · rw [decide_eq_false (by omega)] at hr
    subst hr
    go_enter Try.func30, Try.ntmps30
    go_wp2
    go_ret
    exact ⟨rfl, rfl⟩

set_option maxHeartbeats 1000000 in
set_option maxRecDepth 100000 in
theorem rsame_any (b g : Nat) (a : Option Addr) (n cap : Nat) (f : Nat → Nat) (x y : Int) (r : Bool) (w : World) (h : QAt w b g a n cap f) (hr : r = true ↔ (0 ≤ x ∧ x < n) ∧ (0 ≤ y ∧ y < n) ∧ f x.toNat = f y.toNat) :
    Calls Try.prog 14 #[.pointer (some ⟨b, 0, none⟩), .int .i64 x, .int .i64 y] w fun e w' => e = .returned (.bool r) ∧ Below w.heap.size w w' := by
  have c0 := h.box
  obtain ⟨r1, hr1⟩ := ex_eq (decide (0 ≤ x ∧ x < n))
  obtain ⟨r2, hr2⟩ := ex_eq (decide (0 ≤ y ∧ y < n))
  have HX : Hid (∀ W, W.cell? ⟨b, 0, none⟩ = some (.slice a n cap) → Calls Try.prog 30 #[.pointer (some ⟨b, 0, none⟩), .int .i64 x] W fun e w' => e = .returned (.bool r1) ∧ w' = W) := fun W hc => ris_any b a n cap x r1 W hc hr1
  have HY : Hid (∀ W, W.cell? ⟨b, 0, none⟩ = some (.slice a n cap) → Calls Try.prog 30 #[.pointer (some ⟨b, 0, none⟩), .int .i64 y] W fun e w' => e = .returned (.bool r2) ∧ w' = W) := fun W hc => ris_any b a n cap y r2 W hc hr2
  have HQ := hid h
  cases r1 with
  | false =>
    have h1 := of_decide_eq_false hr1.symm
    obtain rfl : r = false := by cases r with | false => rfl | true => exact absurd (hr.1 rfl).1 h1
    clear h hr hr1 hr2 h1
    go_enter Try.func14, Try.ntmps14
    go_wp2_with fail
    go_quiet (first | (go_at_call_of 30 x; refine Calls.quiet_of_same (HX.out _ c0)) | (go_at_call_of 30 y; refine Calls.quiet_of_same (HY.out _ c0)))
    go_wp2
    go_ret
    exact ⟨rfl, below_drewN (Below.refl _ _) _⟩
  | true =>
    cases r2 with
    | false =>
      have h1 := of_decide_eq_false hr2.symm
      obtain rfl : r = false := by cases r with | false => rfl | true => exact absurd (hr.1 rfl).2.1 h1
      clear h hr hr1 hr2 h1
      go_enter Try.func14, Try.ntmps14
      go_wp2_with fail
      go_quiet (first | (go_at_call_of 30 x; refine Calls.quiet_of_same (HX.out _ c0)) | (go_at_call_of 30 y; refine Calls.quiet_of_same (HY.out _ c0)))
      go_wp2
      go_ret
      exact ⟨rfl, below_drewN (Below.refl _ _) _⟩
    | true =>
      have h1 := of_decide_eq_true hr1.symm
      have h2 := of_decide_eq_true hr2.symm
      obtain ⟨i, rfl⟩ : ∃ i : Nat, x = i := ⟨x.toNat, by omega⟩
      obtain ⟨k, rfl⟩ : ∃ k : Nat, y = k := ⟨y.toNat, by omega⟩
      have hin : i < n := by omega
      have hkn : k < n := by omega
      obtain ⟨ha, ci, _⟩ := h.iat hin
      obtain ⟨_, ck, _⟩ := h.iat hkn
      subst ha
      obtain ⟨fi, hfi⟩ := ex_eq (f i)
      obtain ⟨fk, hfk⟩ := ex_eq (f k)
      rw [← hfi] at ci
      rw [← hfk] at ck
      have q1 : (i : Int) < (n : Int) := by omega
      have q2 : (k : Int) < (n : Int) := by omega
      have q3 : (0 : Int) ≤ (i : Int) := by omega
      have q4 : (0 : Int) ≤ (k : Int) := by omega
      have hr3 : r = true ↔ fi = fk := by
        rw [hr, hfi, hfk]
        exact ⟨fun h => h.2.2, fun h => ⟨⟨q3, q1⟩, ⟨q4, q2⟩, h⟩⟩
      clear h hr hr1 hr2 h1 h2 HQ hfi hfk
      have hrr : r = ((fi : Int) == (fk : Int)) := by
        cases r with
        | true => rw [hr3.1 rfl]; simp
        | false => exact (beq_eq_false_iff_ne.2 (fun e => by have := hr3.2 (by omega); cases this)).symm
      rw [hrr]
      clear hrr hr3
      go_enter Try.func14, Try.ntmps14
      go_wp2_with fail
      go_quiet (first | (go_at_call_of 30 (i : Int); refine Calls.quiet_of_same (HX.out _ c0)) | (go_at_call_of 30 (k : Int); refine Calls.quiet_of_same (HY.out _ c0)))
      go_wp2
      go_ret
      exact ⟨rfl, below_drewN (Below.refl _ _) _⟩

/-- How many least numbers there are below k. -/
def cntF (f : Nat → Nat) (k : Nat) : Nat := ((List.range k).filter (fun i => f i == i)).length
theorem cntF_succ (f : Nat → Nat) (k : Nat) : cntF f (k + 1) = cntF f k + (if f k = k then 1 else 0) := by
  unfold cntF
  rw [List.range_succ, List.filter_append, List.length_append]
  by_cases h : f k = k <;> simp [h]
theorem cntF_le (f : Nat → Nat) (k : Nat) : cntF f k ≤ k := Nat.le_trans (List.length_filter_le _ _) (by simp)

set_option maxHeartbeats 1000000 in
set_option maxRecDepth 100000 in
theorem rcount_any (b g : Nat) (a : Option Addr) (n cap : Nat) (f : Nat → Nat) (w : World) (hn : n ≤ 1000) (h : QAt w b g a n cap f) :
    Calls Try.prog 18 #[.pointer (some ⟨b, 0, none⟩)] w fun e w' => e = .returned (.int .i64 (cntF f n)) ∧ w' = w := by
  have c0 := h.box
  have HQ := hid h
  clear h
  go_enter Try.func18, Try.ntmps18
  go_wp2
  go_loopg [3, 4] n (fun G c i wz => ∃ k m : Nat, k ≤ n ∧ n - k ≤ G ∧ c = .int .i64 m ∧ i = .int .i64 k ∧ Hid (m = cntF f k) ∧ wz = w)
  case atStart => exact ⟨0, 0, Nat.zero_le _, by omega, rfl, rfl, rfl, rfl⟩
  case round =>
    obtain ⟨k, m, hk, hG, rfl, rfl, hm, rfl⟩ := hrel
    have hmk : m ≤ k := by rw [hm.out]; exact cntF_le _ _
    by_cases hlt : k < n
    · obtain ⟨ha, ci, _⟩ := HQ.out.iat hlt
      subst ha
      obtain ⟨fi, hfi⟩ := ex_eq (f k)
      rw [← hfi] at ci
      have q1 : (k : Int) < (n : Int) := by omega
      by_cases he : fi = k
      · have HNX : Hid (m + 1 = cntF f (k + 1)) := by show m + 1 = _; rw [cntF_succ, if_pos (by rw [← hfi]; exact he), hm.out]
        subst he
        clear hfi hm
        go_wp2
        go_roundg (n - (fi + 1))
        case measure => omega
        case rel => exact ⟨fi + 1, m + 1, by omega, Nat.le_refl _, by go_num, by go_num, HNX, rfl⟩
      · have HNX : Hid (m = cntF f (k + 1)) := by show m = _; rw [cntF_succ, if_neg (by rw [← hfi]; exact he), hm.out]; rfl
        have he2 : ((fi : Int) == (k : Int)) = false := beq_eq_false_iff_ne.2 (by omega)
        clear hfi hm
        go_wp2
        go_roundg (n - (k + 1))
        case measure => omega
        case rel => exact ⟨k + 1, m, by omega, Nat.le_refl _, rfl, by go_num, HNX, rfl⟩
    · obtain rfl : k = n := by omega
      go_wp2
      go_ret
      exact ⟨by rw [hm.out]; rfl, rfl⟩

/-- What Join makes of the classes, whatever it is handed. -/
def joinR (n : Nat) (f : Nat → Nat) (x y : Int) : Nat → Nat := if (0 ≤ x ∧ x < n) ∧ (0 ≤ y ∧ y < n) then joinF f x.toNat y.toNat else f
theorem QAt.congr {w : World} {b g : Nat} {a : Option Addr} {n cap : Nat} {f f' : Nat → Nat} (h : QAt w b g a n cap f) (e : ∀ i, i < n → f i = f' i) : QAt w b g a n cap f' :=
  ⟨h.box, fun h0 => ⟨(h.row h0).1, (h.row h0).2.congr (fun j hj => by rw [e j hj])⟩, h.ne⟩
theorem QAt.put {w : World} {b g : Nat} {a : Option Addr} {n cap : Nat} {f : Nat → Nat} (h : QAt w b g a n cap f) {i : Nat} (hi : i < n) (x : Nat) : QAt (w.setCell ⟨g, i, none⟩ (.int .i64 x)) b g a n cap (fun j => if j = i then x else f j) := by
  refine ⟨?_, fun h0 => ⟨(h.row h0).1, ((h.row h0).2.put hi (x : Int)).congr (fun j _ => by by_cases e : j = i <;> simp [e])⟩, h.ne⟩
  rw [World.cell?_setCell_other _ _ _ _ (fun e => h.ne (congrArg Addr.block e))]
  exact h.box
/-- What Join leaves. -/
def JoinIs (b g : Nat) (a : Option Addr) (n cap : Nat) (f : Nat → Nat) (x y : Int) (w w' : World) : Prop := QAt w' b g a n cap (joinR n f x y) ∧ KeptBut (fun k => 0 < n ∧ k = g) w w' ∧ w'.heap.size = w.heap.size
theorem joinIs_same {b g : Nat} {a : Option Addr} {n cap : Nat} {f : Nat → Nat} {x y : Int} {w : World} (h : QAt w b g a n cap f) (hr : ¬ ((0 ≤ x ∧ x < n) ∧ (0 ≤ y ∧ y < n) ∧ f x.toNat ≠ f y.toNat)) (k : Nat) : JoinIs b g a n cap f x y w (w.drewN k) := by
  have hB := below_drewN (Below.refl w.heap.size w) k
  refine ⟨(h.below hB).congr (fun i _ => ?_), ⟨hB.os, hB.tape, hB.output, hB.size, fun j hj _ => hB.block j hj⟩, rfl⟩
  unfold joinR
  split
  · next hin =>
    have : f x.toNat = f y.toNat := by
      by_cases e : f x.toNat = f y.toNat
      · exact e
      · exact absurd ⟨hin.1, hin.2, e⟩ hr
    rw [joinF_one this]
  · rfl

set_option maxHeartbeats 2000000 in
set_option maxRecDepth 100000 in
theorem rjoin_any (b g : Nat) (a : Option Addr) (n cap : Nat) (f : Nat → Nat) (x y : Int) (r : Bool) (w : World) (hn : n ≤ 1000) (h : QAt w b g a n cap f) (hr : r = true ↔ (0 ≤ x ∧ x < n) ∧ (0 ≤ y ∧ y < n) ∧ f x.toNat ≠ f y.toNat) :
    Calls Try.prog 16 #[.pointer (some ⟨b, 0, none⟩), .int .i64 x, .int .i64 y] w fun e w' => e = .returned (.bool r) ∧ JoinIs b g a n cap f x y w w' := by
  have c0 := h.box
  obtain ⟨r1, hr1⟩ := ex_eq (decide (0 ≤ x ∧ x < n))
  obtain ⟨r2, hr2⟩ := ex_eq (decide (0 ≤ y ∧ y < n))
  have HX : Hid (∀ W, W.cell? ⟨b, 0, none⟩ = some (.slice a n cap) → Calls Try.prog 30 #[.pointer (some ⟨b, 0, none⟩), .int .i64 x] W fun e w' => e = .returned (.bool r1) ∧ w' = W) := fun W hc => ris_any b a n cap x r1 W hc hr1
  have HY : Hid (∀ W, W.cell? ⟨b, 0, none⟩ = some (.slice a n cap) → Calls Try.prog 30 #[.pointer (some ⟨b, 0, none⟩), .int .i64 y] W fun e w' => e = .returned (.bool r2) ∧ w' = W) := fun W hc => ris_any b a n cap y r2 W hc hr2
  have HJ : Hid (r = false → ∀ k, JoinIs b g a n cap f x y w (w.drewN k)) := fun h0 k => joinIs_same h (fun e => by have := hr.2 e; rw [h0] at this; cases this) k
  have HQ := hid h
  cases r1 with
  | false =>
    have h1 := of_decide_eq_false hr1.symm
    obtain rfl : r = false := by cases r with | false => rfl | true => exact absurd (hr.1 rfl).1 h1
    clear h hr hr1 hr2 h1
    go_enter Try.func16, Try.ntmps16
    go_wp2_with fail
    go_quiet (first | (go_at_call_of 30 x; refine Calls.quiet_of_same (HX.out _ c0)) | (go_at_call_of 30 y; refine Calls.quiet_of_same (HY.out _ c0)))
    go_wp2
    go_ret
    exact ⟨rfl, HJ.out trivial _⟩
  | true =>
    cases r2 with
    | false =>
      have h1 := of_decide_eq_false hr2.symm
      obtain rfl : r = false := by cases r with | false => rfl | true => exact absurd (hr.1 rfl).2.1 h1
      clear h hr hr1 hr2 h1
      go_enter Try.func16, Try.ntmps16
      go_wp2_with fail
      go_quiet (first | (go_at_call_of 30 x; refine Calls.quiet_of_same (HX.out _ c0)) | (go_at_call_of 30 y; refine Calls.quiet_of_same (HY.out _ c0)))
      go_wp2
      go_ret
      exact ⟨rfl, HJ.out trivial _⟩
    | true =>
      have h1 := of_decide_eq_true hr1.symm
      have h2 := of_decide_eq_true hr2.symm
      obtain ⟨i, rfl⟩ : ∃ i : Nat, x = i := ⟨x.toNat, by omega⟩
      obtain ⟨k, rfl⟩ : ∃ k : Nat, y = k := ⟨y.toNat, by omega⟩
      have hin : i < n := by omega
      have hkn : k < n := by omega
      obtain ⟨ha, ci, _⟩ := h.iat hin
      obtain ⟨_, ck, _⟩ := h.iat hkn
      subst ha
      obtain ⟨fi, hfi⟩ := ex_eq (f i)
      obtain ⟨fk, hfk⟩ := ex_eq (f k)
      rw [← hfi] at ci
      rw [← hfk] at ck
      have q1 : (i : Int) < (n : Int) := by omega
      have q2 : (k : Int) < (n : Int) := by omega
      have q3 : (0 : Int) ≤ (i : Int) := by omega
      have q4 : (0 : Int) ≤ (k : Int) := by omega
      have hr3 : r = true ↔ fi ≠ fk := by
        rw [hr, hfi, hfk]
        exact ⟨fun h => h.2.2, fun h => ⟨⟨q3, q1⟩, ⟨q4, q2⟩, h⟩⟩
      have HJF : Hid (∀ j, joinR n f i k j = if f j = max fi fk then min fi fk else f j) := fun j => by
        unfold joinR
        rw [if_pos ⟨⟨q3, q1⟩, ⟨q4, q2⟩⟩, hfi, hfk]
        rfl
      clear h hr hr1 hr2 h1 h2 hfi hfk
      by_cases he : fi = fk
      · obtain rfl : r = false := by cases r with | false => rfl | true => exact absurd he (hr3.1 rfl)
        subst he
        clear hr3
        go_enter Try.func16, Try.ntmps16
        go_wp2_with fail
        go_quiet (first | (go_at_call_of 30 (i : Int); refine Calls.quiet_of_same (HX.out _ c0)) | (go_at_call_of 30 (k : Int); refine Calls.quiet_of_same (HY.out _ c0)))
        go_wp2
        go_ret
        exact ⟨rfl, HJ.out trivial _⟩
      · obtain rfl : r = true := hr3.2 he
        have he2 : ((fi : Int) == (fk : Int)) = false := beq_eq_false_iff_ne.2 (by omega)
        obtain ⟨lo, hlo⟩ : ∃ lo : Nat, min (fi : Int) (fk : Int) = (lo : Int) := ⟨min fi fk, by omega⟩
        obtain ⟨hi', hhi⟩ : ∃ hi' : Nat, max (fi : Int) (fk : Int) = (hi' : Int) := ⟨max fi fk, by omega⟩
        have HLO : Hid (lo = min fi fk ∧ hi' = max fi fk) := ⟨by omega, by omega⟩
        clear hr3 HJ
        go_enter Try.func16, Try.ntmps16
        go_wp2_with fail
        go_quiet (first | (go_at_call_of 30 (i : Int); refine Calls.quiet_of_same (HX.out _ c0)) | (go_at_call_of 30 (k : Int); refine Calls.quiet_of_same (HY.out _ c0)))
        go_wp2_with fail
        obtain ⟨W, hW⟩ := ex_eq (w.drewN nq)
        rw [← hW]
        have hbW : Below w.heap.size w W := by rw [hW]; exact below_drewN (Below.refl _ _) _
        have hsW : W.heap.size = w.heap.size := by rw [hW]; rfl
        have HQW := hid (HQ.out.below hbW)
        have d0 := HQW.out.box
        have di : W.cell? ⟨g, i, none⟩ = some (.int .i64 fi) := by rw [hW]; exact ci
        have dk : W.cell? ⟨g, k, none⟩ = some (.int .i64 fk) := by rw [hW]; exact ck
        clear c0 ci ck hW HX HY he2 HQ
        go_quiet (fail)
        go_wp2_with fail
        go_quiet (fail)
        go_wp2
        have HJF2 : Hid (∀ j, joinR n f i k j = if f j = hi' then lo else f j) := fun j => by rw [HJF.out j, HLO.out.1, HLO.out.2]
        clear HJF HLO hlo hhi di dk d0 he q1 q2 q3 q4
        go_loopg [9] n (fun G j wz => ∃ t : Nat, t ≤ n ∧ n - t ≤ G ∧ j = .int .i64 t ∧ Hid (QAt wz b g (some ⟨g, 0, none⟩) n cap (fun j => if j < t then joinR n f i k j else f j)) ∧ Hid (KeptBut (fun k => k = g) w wz ∧ wz.heap.size = w.heap.size))
        case atStart => exact ⟨0, Nat.zero_le _, by omega, rfl, (HQW.out.below (below_drewN (below_drewN (Below.refl _ _) _) _)).congr (fun j _ => by simp), (KeptBut.of_below (below_drewN (below_drewN hbW _) _)).mono (fun k hk hs => absurd hs (by omega)), hsW⟩
        case round =>
          obtain ⟨t, ht, hG, rfl, hq, hk2⟩ := hrel
          have d0 := hq.out.box
          by_cases hlt : t < n
          · obtain ⟨_, ct, ft⟩ := hq.out.iat hlt
            obtain ⟨z, hz⟩ := ex_eq (f t)
            have ct' : wr.cell? ⟨g, t, none⟩ = some (.int .i64 (z : Nat)) := by
              rw [ct]
              simp [hz]
            have q1 : (t : Int) < (n : Int) := by omega
            clear ct
            by_cases he : z = hi'
            · have he2 : ((z : Int) == (hi' : Int)) = true := by rw [he]; simp
              have HNX : Hid (QAt (wr.setCell ⟨g, t, none⟩ (.int .i64 lo)) b g (some ⟨g, 0, none⟩) n cap (fun j => if j < t + 1 then joinR n f i k j else f j)) := (hq.out.put hlt lo).congr (fun j _ => by
                by_cases e1 : j = t
                · subst e1
                  rw [if_pos rfl, if_pos (by omega), HJF2.out, if_pos (by omega)]
                · rw [if_neg e1]
                  by_cases e2 : j < t
                  · rw [if_pos e2, if_pos (by omega)]
                  · rw [if_neg e2, if_neg (by omega)])
              have HKX : Hid (KeptBut (fun k => k = g) w (wr.setCell ⟨g, t, none⟩ (.int .i64 lo)) ∧ (wr.setCell ⟨g, t, none⟩ (.int .i64 lo)).heap.size = w.heap.size) := ⟨hk2.out.1.trans (kept_set wr ⟨g, t, none⟩ _), by simp; exact hk2.out.2⟩
              subst he
              clear hq hk2 hz he2
              go_wp2
              go_roundg (n - (t + 1))
              case measure => omega
              case rel => exact ⟨t + 1, by omega, Nat.le_refl _, by go_num, HNX, HKX⟩
            · have he2 : ((z : Int) == (hi' : Int)) = false := beq_eq_false_iff_ne.2 (by omega)
              have HNX : Hid (QAt wr b g (some ⟨g, 0, none⟩) n cap (fun j => if j < t + 1 then joinR n f i k j else f j)) := hq.out.congr (fun j _ => by
                by_cases e1 : j = t
                · subst e1
                  rw [if_neg (by omega), if_pos (by omega), HJF2.out, if_neg (by omega)]
                · by_cases e2 : j < t
                  · rw [if_pos e2, if_pos (by omega)]
                  · rw [if_neg e2, if_neg (by omega)])
              clear hq hz
              go_wp2
              go_roundg (n - (t + 1))
              case measure => omega
              case rel => exact ⟨t + 1, by omega, Nat.le_refl _, by go_num, HNX, hk2⟩
          · obtain rfl : t = n := by omega
            go_wp2
            go_ret
            exact ⟨rfl, hq.out.congr (fun j hj => by rw [if_pos hj]), hk2.out.1.mono (fun k _ e => ⟨by omega, e⟩), hk2.out.2⟩
end Go.Proofs.Ythakjmfjbibbjaa
namespace Go.Proofs.Ythakjmfjbibbjaa

/-- Each number below n leads to one of its class, and rk falls on the way; of each class just one leads to itself. -/
structure Leads (n : Nat) (f L rk : Nat → Nat) : Prop where
  lt : ∀ a, a < n → L a < n
  cls : ∀ a, a < n → f (L a) = f a
  down : ∀ a, a < n → L a ≠ a → rk (L a) < rk a
  one : ∀ a b, a < n → b < n → L a = a → L b = b → f a = f b → a = b
theorem leads_new (n : Nat) : Leads n (fun i => i) (fun i => i) (fun _ => 0) := ⟨fun _ h => h, fun _ _ => rfl, fun _ _ h => absurd rfl h, fun _ _ _ _ _ _ h => h⟩
theorem Leads.top {n : Nat} {f L rk : Nat → Nat} (h : Leads n f L rk) : ∀ k a, rk a ≤ k → a < n → ∃ t, t < n ∧ L t = t ∧ f t = f a
  | 0, a, hk, ha => by
    by_cases e : L a = a
    · exact ⟨a, ha, e, rfl⟩
    · have := h.down a ha e; omega
  | k + 1, a, hk, ha => by
    by_cases e : L a = a
    · exact ⟨a, ha, e, rfl⟩
    · have := h.down a ha e
      obtain ⟨t, h1, h2, h3⟩ := h.top k (L a) (by omega) (h.lt a ha)
      exact ⟨t, h1, h2, h3.trans (h.cls a ha)⟩
/-- rt tells who stands for each one's class. -/
def Tops (n : Nat) (f L rt : Nat → Nat) : Prop := ∀ a, a < n → rt a < n ∧ L (rt a) = rt a ∧ f (rt a) = f a
theorem Leads.tops {n : Nat} {f L rk : Nat → Nat} (h : Leads n f L rk) : ∃ rt, Tops n f L rt := by
  have := Classical.axiomOfChoice (r := fun a t => a < n → t < n ∧ L t = t ∧ f t = f a) (fun a => by
    by_cases ha : a < n
    · obtain ⟨t, ht⟩ := h.top (rk a) a (Nat.le_refl _) ha; exact ⟨t, fun _ => ht⟩
    · exact ⟨0, fun h => absurd h ha⟩)
  exact this
theorem Tops.at {n : Nat} {f L rk rt : Nat → Nat} (h : Tops n f L rt) (hl : Leads n f L rk) {a t : Nat} (ha : a < n) (ht : t < n) (h1 : L t = t) (h2 : f t = f a) : t = rt a :=
  hl.one _ _ ht (h a ha).1 h1 (h a ha).2.1 (h2.trans (h a ha).2.2.symm)
theorem Tops.same {n : Nat} {f L rk rt : Nat → Nat} (h : Tops n f L rt) (hl : Leads n f L rk) {a b : Nat} (ha : a < n) (hb : b < n) : rt a = rt b ↔ f a = f b :=
  ⟨fun e => by rw [← (h a ha).2.2, ← (h b hb).2.2, e], fun e => h.at hl hb (h a ha).1 (h a ha).2.1 ((h a ha).2.2.trans e)⟩
/-- The way made shorter. -/
theorem Leads.halve {n : Nat} {f L rk : Nat → Nat} (h : Leads n f L rk) {a : Nat} (ha : a < n) (hne : L a ≠ a) : Leads n f (fun j => if j = a then L (L a) else L j) rk ∧ ∀ t, L t = t → (if t = a then L (L a) else L t) = t := by
  have hd := h.down a ha hne
  have hl := h.lt a ha
  have hll := h.lt _ hl
  have hrk : rk (L (L a)) < rk a := by
    by_cases e : L (L a) = L a
    · rw [e]; exact hd
    · exact Nat.lt_trans (h.down _ hl e) hd
  refine ⟨⟨fun j hj => ?_, fun j hj => ?_, fun j hj => ?_, fun i j hi hj => ?_⟩, fun t ht => ?_⟩
  · by_cases e : j = a
    · simp only [e, if_true]; exact hll
    · simp only [e, if_false]; exact h.lt j hj
  · by_cases e : j = a
    · simp only [e, if_true]; rw [h.cls _ hl, h.cls a ha]
    · simp only [e, if_false]; exact h.cls j hj
  · by_cases e : j = a
    · simp only [e, if_true]; intro _; exact hrk
    · simp only [e, if_false]; exact h.down j hj
  · by_cases e : i = a
    · subst e
      simp only [if_true]
      intro h1
      rw [h1] at hrk; omega
    · by_cases e2 : j = a
      · subst e2
        simp only [if_true, e, if_false]
        intro _ h1
        rw [h1] at hrk; omega
      · simp only [e, e2, if_false]; exact h.one i j hi hj
  · by_cases e : t = a
    · subst e; exact absurd ht hne
    · rw [if_neg e]; exact ht
/-- Two classes made one. -/
theorem Leads.join {n : Nat} {f L rk : Nat → Nat} (h : Leads n f L rk) {a b s t : Nat} (hs : s < n) (ht : t < n) (lt : L t = t) (fs : f s = f a) (ft : f t = f b) (hne : f a ≠ f b) :
    Leads n (joinF f a b) (fun j => if j = t then s else L j) (fun j => if f j = f t then rk j + rk s + 1 else rk j) := by
  have hst : s ≠ t := fun e => hne (by rw [← fs, ← ft, e])
  have hfst : f s ≠ f t := by rw [fs, ft]; exact hne
  refine ⟨fun j hj => ?_, fun j hj => ?_, fun j hj => ?_, fun i j hi hj => ?_⟩
  · by_cases e : j = t
    · simp only [e, if_true]; exact hs
    · simp only [e, if_false]; exact h.lt j hj
  · by_cases e : j = t
    · simp only [e, if_true]
      exact (joinF_same _ _ _ _ _).2 (Or.inr (Or.inl ⟨fs, ft⟩))
    · simp only [e, if_false]
      exact (joinF_same _ _ _ _ _).2 (Or.inl (h.cls j hj))
  · by_cases e : j = t
    · subst e
      simp only [if_true, hfst, if_false]
      intro _; omega
    · simp only [e, if_false]
      intro hlj
      have hd := h.down j hj hlj
      have hc := h.cls j hj
      rw [hc]
      by_cases e2 : f j = f t
      · simp only [e2, if_true]; omega
      · simp only [e2, if_false]; exact hd
  · by_cases e : i = t
    · simp only [e, if_true]; intro h1; exact absurd h1 hst
    · by_cases e2 : j = t
      · simp only [e2, if_true]; intro _ h1; exact absurd h1 hst
      · simp only [e, e2, if_false]
        intro h1 h2 h3
        rcases (joinF_same _ _ _ _ _).1 h3 with h4 | ⟨h4, h5⟩ | ⟨h4, h5⟩
        · exact h.one i j hi hj h1 h2 h4
        · exact absurd (h.one j t hj ht h2 lt (h5.trans ft.symm)) e2
        · exact absurd (h.one i t hi ht h1 lt (h4.trans ft.symm)) e
theorem cntF_join {n : Nat} {f : Nat → Nat} (h : Pt n f) {a b : Nat} (ha : a < n) (hb : b < n) (hne : f a ≠ f b) : cntF f n = cntF (joinF f a b) n + 1 := reps_join h ha hb hne
theorem cntF_new (n : Nat) : cntF (fun i => i) n = n := by
  unfold cntF
  rw [List.filter_eq_self.2 (fun i _ => by simp)]
  simp
end Go.Proofs.Ythakjmfjbibbjaa
namespace Go.Proofs.Ythakjmfjbibbjaa
open Go.RowKit Go.Lib

theorem same_upto {α : Type} {xs ys : List α} (hl : xs.length = ys.length) (h : ∀ j (h1 : j < xs.length) (h2 : j < ys.length), xs[j] = ys[j]) : xs = ys := List.ext_getElem hl h

set_option maxHeartbeats 1000000 in
set_option maxRecDepth 100000 in
theorem same_any (a1 a2 : Option Addr) (c1 c2 : Nat) (xs ys : List Int) (r : Bool) (w : World) (hN : xs.length ≤ 1000000) (h1 : IAt w a1 xs) (h2 : IAt w a2 ys) (hr : r = true ↔ xs = ys) :
    Calls Try.prog 31 #[.slice a1 xs.length c1, .slice a2 ys.length c2] w fun e w' => e = .returned (.bool r) ∧ Below w.heap.size w w' := by
  have H1 : Hid (IAt w a1 xs) := h1
  have H2 : Hid (IAt w a2 ys) := h2
  have HR : Hid (r = true ↔ xs = ys) := hr
  obtain ⟨N, hNe⟩ := ex_eq xs.length
  obtain ⟨M, hMe⟩ := ex_eq ys.length
  have HN : Hid (N = xs.length) := hNe
  have HM : Hid (M = ys.length) := hMe
  rw [← hNe] at hN ⊢
  rw [← hMe]
  clear h1 h2 hr hNe hMe
  by_cases hl : N = M
  · subst hl
    go_enter Try.func31, Try.ntmps31
    go_wp2
    go_loopw [5] (fun i wr => ∃ k : Nat, k ≤ N ∧ i = .int .i64 k ∧ Hid (∀ j (h1 : j < xs.length) (h2 : j < ys.length), j < k → xs[j] = ys[j]) ∧ Below w.heap.size w wr) (fun i _ => N - (RowKit.intOf i).toNat)
    case atStart => exact ⟨0, Nat.zero_le _, rfl, fun j _ _ h => absurd h (by omega), Below.refl _ _⟩
    case round =>
      obtain ⟨k, hk, rfl, heq, hbr⟩ := hrel
      by_cases hlt : k < N
      · have k1 : k < xs.length := by rw [← HN.out]; exact hlt
        have k2 : k < ys.length := by rw [← HM.out]; exact hlt
        obtain ⟨g1, o1, rfl, hg1, hc1⟩ := H1.out (by omega)
        obtain ⟨g2, o2, rfl, hg2, hc2⟩ := H2.out (by omega)
        have d1 := (hbr.cell (p := ⟨g1, o1 + k, none⟩) hg1).trans (hc1 k k1)
        have d2 := (hbr.cell (p := ⟨g2, o2 + k, none⟩) hg2).trans (hc2 k k2)
        obtain ⟨x, hx⟩ := ex_eq xs[k]
        obtain ⟨y, hy⟩ := ex_eq ys[k]
        rw [← hx] at d1
        rw [← hy] at d2
        have HXY : Hid (x = xs[k] ∧ y = ys[k]) := ⟨hx, hy⟩
        have q1 : (k : Int) < (N : Int) := by omega
        clear hc1 hc2 hx hy
        by_cases hxy : x = y
        · subst hxy
          have HEQ : Hid (∀ j (h1 : j < xs.length) (h2 : j < ys.length), j < k + 1 → xs[j] = ys[j]) := fun j h1 h2 hj => by
            by_cases e : j < k
            · exact heq.out j h1 h2 e
            · obtain rfl : j = k := by omega
              rw [← HXY.out.1, ← HXY.out.2]
          go_wp2
          go_quiet (fail)
          go_wp2
          go_roundw
          case rel => exact ⟨k + 1, by omega, by go_num, HEQ, below_drewN hbr _⟩
          case measure => simp [RowKit.intOf]; omega
        · obtain rfl : r = false := b_false HR.out (fun e => hxy (by rw [HXY.out.1, HXY.out.2]; simp only [e]))
          have hq : (x == y) = false := beq_eq_false_iff_ne.2 hxy
          clear hxy HR
          go_wp2
          go_quiet (fail)
          go_wp2
          go_ret
          exact ⟨rfl, below_drewN hbr _⟩
      · obtain rfl : k = N := by omega
        obtain rfl : r = true := HR.out.2 (same_upto (by rw [← HN.out, ← HM.out]) (fun j h1 h2 => heq.out j h1 h2 (by rw [HN.out]; exact h1)))
        clear HR
        go_wp2
        go_ret
        exact ⟨rfl, hbr⟩
  · obtain rfl : r = false := b_false HR.out (fun e => hl (by rw [HN.out, HM.out, e]))
    have hq : ((N : Int) == (M : Int)) = false := beq_eq_false_iff_ne.2 (by omega)
    clear HR hl
    go_enter Try.func31, Try.ntmps31
    go_wp2
    go_ret
    exact ⟨rfl, Below.refl _ _⟩

end Go.Proofs.Ythakjmfjbibbjaa
