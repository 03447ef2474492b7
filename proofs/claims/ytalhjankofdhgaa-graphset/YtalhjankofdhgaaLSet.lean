/-
  carcanetlaw03.GraphSet answers true.
-/
import Derived.Test.YtalhjankofdhgaaRAny
import Derived.Test.YtalhjankofdhgaaGHas
import Derived.Deep.RegionHeld3
import Derived.BigQuiet
namespace Go.Proofs.Ytalhjankofdhgaa
open Go.RowKit Go.Lib

theorem Try.info4 : (Try.prog.info? 4).map (fun i => (i.zero, i.size, i.bytes)) = some (some (.bool false), 1, 1) := by kernel_rfl
theorem boolS_of (p : Prop) : ∃ r : Bool, r = true ↔ p := by
  by_cases h : p
  · exact ⟨true, ⟨fun _ => h, fun _ => rfl⟩⟩
  · exact ⟨false, ⟨fun h' => (by cases h'), fun h' => absurd h' h⟩⟩
theorem hpairS {n x y : Int} {es : List (Int × Int)} (hR : RightG n es) : ((x, y) ∈ es ∨ (y, x) ∈ es) ↔ (min x y, max x y) ∈ es := by
  constructor
  · rintro (h | h)
    · have h' := hR.2.2.2.1 _ h
      simp only at h'
      rw [show min x y = x by omega, show max x y = y by omega]; exact h
    · have h' := hR.2.2.2.1 _ h
      simp only at h'
      rw [show min x y = y by omega, show max x y = x by omega]; exact h
  · intro h
    by_cases hxy : x ≤ y
    · left; rwa [show min x y = x by omega, show max x y = y by omega] at h
    · right; rwa [show min x y = y by omega, show max x y = x by omega] at h
theorem has_rightS (n : Int) (a : Option Addr) (cap : Nat) (es : List (Int × Int)) (x y : Int) (r : Bool) (w : World) (hR : RightG n es) (hE : EAt w a es) (hr : r = true ↔ (min x y, max x y) ∈ es) :
    Calls Try.prog 16 #[.agg #[.int .i64 n, .slice a es.length cap], .int .i64 x, .int .i64 y] w fun e w' => e = .returned (.bool r) ∧ Below w.heap.size w w' := by
  have hl := hR.2.2.1
  have hd : decide (y ∈ nbL x es) = r := by
    have h1 : y ∈ nbL x es ↔ r = true := by rw [nbL_right hR, hpairS hR, hr]
    cases r with
    | true => exact decide_eq_true (h1.2 rfl)
    | false => exact decide_eq_false (fun h => by have := h1.1 h; cases this)
  rw [← hd]
  exact has_any n a cap es x y true (nbL x es) w (by omega) hE ⟨fun _ => hR, fun _ => rfl⟩ rfl

/-- An edge of l tells the place j of the pairs. -/
def mark (m : Nat) (Q : List (Int × Int)) (j : Nat) : Bool := Q.any (fun e => !(e.1 == e.2) && ((j : Int) == e.1 * m + e.2 || (j : Int) == e.2 * m + e.1))
theorem mark_snoc (m : Nat) (Q : List (Int × Int)) (e : Int × Int) (j : Nat) : mark m (Q ++ [e]) j = (mark m Q j || (!(e.1 == e.2) && ((j : Int) == e.1 * m + e.2 || (j : Int) == e.2 * m + e.1))) := by
  unfold mark; rw [List.any_append]; simp
theorem mark_take {m : Nat} {P : List (Int × Int)} {k : Nat} (hk : k < P.length) (j : Nat) : mark m (P.take (k + 1)) j = (mark m (P.take k) j || (!(P[k].1 == P[k].2) && ((j : Int) == P[k].1 * m + P[k].2 || (j : Int) == P[k].2 * m + P[k].1))) := by
  rw [List.take_succ_eq_append_getElem hk, mark_snoc]
theorem place_one {m a b x y : Int} (hb : 0 ≤ b ∧ b < m) (hy : 0 ≤ y ∧ y < m) (h : a * m + b = x * m + y) : a = x ∧ b = y := by
  have hm : 0 ≤ m := by omega
  by_cases h1 : a = x
  · subst h1; exact ⟨rfl, by omega⟩
  · by_cases h2 : a < x
    · have h3 := Int.mul_le_mul_of_nonneg_right (show a + 1 ≤ x by omega) hm
      rw [Int.add_mul, Int.one_mul] at h3
      omega
    · have h3 := Int.mul_le_mul_of_nonneg_right (show x + 1 ≤ a by omega) hm
      rw [Int.add_mul, Int.one_mul] at h3
      omega
theorem mark_has {m : Nat} {P ys : List (Int × Int)} (hP : AllIn m P) (hN : IsNorm P ys) {a b J : Nat} (hb : b < m) (hJ : (J : Int) = (a : Int) * m + b) : mark m P J = true ↔ (min (a : Int) b, max (a : Int) b) ∈ ys := by
  rw [hN.2, mem_prs]
  unfold mark
  rw [List.any_eq_true]
  constructor
  · rintro ⟨e, he, h⟩
    have hin := hP e he
    simp only [Bool.and_eq_true, Bool.not_eq_true', beq_eq_false_iff_ne, Bool.or_eq_true, beq_iff_eq] at h
    refine ⟨e, he, h.1, ?_⟩
    rcases h.2 with h2 | h2
    · obtain ⟨h3, h4⟩ := place_one ⟨by omega, by omega⟩ hin.2 (hJ.symm.trans h2)
      rw [h3, h4]
    · obtain ⟨h3, h4⟩ := place_one ⟨by omega, by omega⟩ hin.1 (hJ.symm.trans h2)
      rw [h3, h4, Int.min_comm, Int.max_comm]
  · rintro ⟨e, he, hne, h⟩
    refine ⟨e, he, ?_⟩
    simp only [Prod.mk.injEq] at h
    simp only [Bool.and_eq_true, Bool.not_eq_true', beq_eq_false_iff_ne, Bool.or_eq_true, beq_iff_eq]
    refine ⟨hne, ?_⟩
    have h2 : (e.1 = a ∧ e.2 = b) ∨ (e.1 = b ∧ e.2 = a) := by omega
    rcases h2 with ⟨h3, h4⟩ | ⟨h3, h4⟩
    · left; rw [h3, h4]; exact hJ
    · right; rw [h3, h4]; exact hJ
theorem place_lt {m p q : Nat} (hp : p < m) (hq : q < m) : p * m + q < m * m := by
  have h : (p + 1) * m ≤ m * m := Nat.mul_le_mul_right m hp
  rw [Nat.add_mul, Nat.one_mul] at h
  omega

/-- A row of truths that may be written, place by place. -/
def RowB (w : World) (g n : Nat) (c : Nat → Bool) : Prop := g < w.heap.size ∧ ∀ j, j < n → w.cell? ⟨g, j, none⟩ = some (.bool (c j)) ∧ w.frozen? ⟨g, j, none⟩ = false
theorem RowB.put {w : World} {g n : Nat} {c : Nat → Bool} (h : RowB w g n c) {i : Nat} (hi : i < n) (x : Bool) : RowB (w.setCell ⟨g, i, none⟩ (.bool x)) g n (fun j => if j = i then x else c j) := by
  refine ⟨by simpa using h.1, fun j hj => ?_⟩
  obtain ⟨a, fa⟩ := h.2 j hj
  simp only [World.frozen?_setCell]
  refine ⟨?_, fa⟩
  by_cases e : j = i
  · subst e
    rw [if_pos rfl]
    exact World.cell?_setCell_same' _ _ _ (by rw [a]; rfl)
  · rw [if_neg e, World.cell?_setCell_other _ _ _ _ (by simp <;> omega)]
    exact a
theorem RowB.congr {w : World} {g n : Nat} {c d : Nat → Bool} (h : RowB w g n c) (e : ∀ j, j < n → c j = d j) : RowB w g n d := ⟨h.1, fun j hj => by rw [← e j hj]; exact h.2 j hj⟩
theorem RowB.below {w w' : World} {g n : Nat} {c : Nat → Bool} (h : RowB w g n c) (hB : Below w.heap.size w w') : RowB w' g n c := by
  refine ⟨Nat.lt_of_lt_of_le h.1 hB.size, fun j hj => ⟨(hB.cell (p := ⟨g, j, none⟩) h.1).trans (h.2 j hj).1, ?_⟩⟩
  rw [← (h.2 j hj).2]
  unfold World.frozen?
  rw [hB.block g h.1]
theorem RowB.drew {w : World} {g n : Nat} {c : Nat → Bool} (h : RowB w g n c) : RowB w.drew g n c := h
theorem made_bools (n : Nat) : (madeCells (Value.bool false).cells (n * 1)).toList = List.replicate n (.bool false) := by
  apply List.ext_getElem
  · simp [madeCells]
  · intro i h1 h2
    simp [madeCells, Value.cells, Nat.mod_one]
theorem rowB_made {w : World} {base g n : Nat} {e : TypeId} (h : w.ownsRow base e 1 (.slice (some ⟨g, 0, none⟩) n n) n (madeCells (Value.bool false).cells (n * 1)).toList) : RowB w g n (fun _ => false) := by
  rw [made_bools] at h
  have hg : g < w.heap.size := (h.lt g rfl).2
  refine ⟨hg, fun j hj => ?_⟩
  rcases h.2 with ⟨hv, _⟩ | ⟨g', cap, cur, hv, _, hgb, _⟩
  · simp at hv
  · simp only [Value.slice.injEq, Option.some.injEq, Addr.mk.injEq, and_true, true_and] at hv
    obtain ⟨rfl, _⟩ := hv
    have := h.cells (g := g) rfl j (.bool false) (by rw [List.getElem?_replicate, if_pos hj])
    rw [add_at, Nat.zero_add] at this
    exact ⟨this, frozen_of_heap hgb _⟩

set_option maxHeartbeats 4000000 in
set_option maxRecDepth 100000 in
theorem set_law (n : Int) (a : Option Addr) (N cap : Nat) (l : List (Int × Int)) (w : World) (hl : N = l.length) (hE : EAt w a l) :
    Calls Try.prog 6 #[.int .i64 n, .slice a N cap] w fun e w' => e = .returned (.bool true) ∧ Below w.heap.size w w' := by
  obtain ⟨i1, hj, hy0, hy1, hy2⟩ := info_parts Try.info39
  obtain ⟨m, hm0, hm31⟩ := rnd_of n (m := 31) (by omega)
  have hm1 : (bits .and .i64 n 65535).tmod 31 = (m : Int) := hm0
  have HL := hid hl
  have HE := hid hE
  clear hl hE hm0
  go_enter Try.func6, Try.ntmps6
  go_wp2_with fail
  refine (shown_any _).mono ?_
  rintro e w1 ⟨rfl, hb1⟩
  have HE1 := hid (HE.out.below hb1)
  have HB1 := hid hb1
  clear HE hb1
  go_wp2
  clear hm1
  obtain ⟨b0, hb0⟩ := ex_eq w1.heap.size
  have HB0 := hid hb0
  have HEB : Hid (∀ X, Below b0 w1 X → EAt X a l) := fun X h => HE1.out.below (by rw [← hb0]; exact h)
  clear hb0
  go_loopg [6, 7] 300 (fun G v i wz => ∃ k : Nat, k ≤ 300 ∧ 300 - k ≤ G ∧ i = .int .i64 k ∧ Hid (∃ P, Told wz b0 m k v P) ∧ Below b0 w1 wz)
  case atStart => exact ⟨0, Nat.zero_le _, by omega, rfl, ⟨_, told_nil _ _ _⟩, Below.refl _ _⟩
  case round =>
    obtain ⟨k, hk, hG, rfl, hto, hb2⟩ := hrel
    have hszr : b0 ≤ wr.heap.size := by rw [HB0.out]; rw [HB0.out] at hb2; exact hb2.size
    go_upto_region 5 with fail
    go_cut [29] from 18 to 28 (fun c wx => c = .bool (decide (k < N ∧ k < 300 ∧ 0 < m)) ∧ wx = wr)
    case first =>
      have hway : ((k : Int) < (N : Int) ∧ (k : Int) < 300 ∧ 0 < (m : Int)) ∨ ¬ (k : Int) < (N : Int) ∨ ((k : Int) < (N : Int) ∧ ¬ (k : Int) < 300) ∨ ((k : Int) < (N : Int) ∧ (k : Int) < 300 ∧ ¬ 0 < (m : Int)) := by omega
      clear hj hy0 hy1 hy2 hb2 hto
      rcases hway with ⟨v1, v2, v3⟩ | v1 | ⟨v1, v2⟩ | ⟨v1, v2, v3⟩
      all_goals
        go_wp2_with fail
        go_meet
      all_goals first | exact ⟨congrArg Value.bool (decide_eq_decide.2 (by omega)), rfl⟩ | exact ⟨congrArg Value.bool (decide_eq_false (p := k < N ∧ k < 300 ∧ 0 < m) (by omega)).symm, rfl⟩
    case rest =>
      obtain ⟨rfl, hwc⟩ := hcut
      rw [hwc]
      clear hwc
      by_cases hgo : k < N ∧ k < 300 ∧ 0 < m
      · rw [decide_eq_true hgo]
        obtain ⟨hlt, hk3, hmp⟩ := hgo
        have hkr : k < l.length := by rw [← HL.out]; exact hlt
        obtain ⟨g, off, rfl, d0, d1⟩ := (HEB.out _ hb2).at' hkr
        obtain ⟨e1, he1⟩ := ex_eq l[k].1
        obtain ⟨e2, he2⟩ := ex_eq l[k].2
        rw [← he1] at d0
        rw [← he2] at d1
        have HC : Hid (∀ X, Below b0 w1 X → X.cell? ⟨g, off + k * 2, none⟩ = some (.int .i64 e1) ∧ X.cell? ⟨g, off + k * 2 + 1, none⟩ = some (.int .i64 e2)) := fun X hX => by
          obtain ⟨g', off', ha', z0, z1⟩ := (HEB.out X hX).at' hkr
          cases ha'
          rw [he1, he2]; exact ⟨z0, z1⟩
        clear he1 he2
        obtain ⟨p, hp, hpm⟩ := rnd_of e1 hmp
        obtain ⟨q, hq, hqm⟩ := rnd_of e2 hmp
        obtain ⟨P, hP⟩ := hto.out
        obtain ⟨aS, cs, hsv, hsl, _⟩ := eat_own hP.own
        subst hsv
        have HTO := hid hP
        have hPl := hP.len
        obtain ⟨K, hK⟩ := ex_eq P.length
        have HK := hid hK
        have q1 : (k : Int) < (N : Int) := by omega
        have q2 : (k : Int) < 300 := by omega
        have q3 : (0 : Int) < (m : Int) := by omega
        have q4 : ¬ (m : Int) = 0 := by omega
        have q5 : (0 : Int) ≤ (k : Int) := by omega
        have q6 : ¬ m = 0 := by omega
        rw [← hK] at hPl
        have HOW : Hid ((wr.drew.alloc (.cells #[.int .i64 p, .int .i64 q] 39)).ownsRow b0 39 2 (.slice aS K cs) K (cellsE P)) := by
          have h := HTO.out.own
          rw [← hK] at h
          exact World.ownsRow.alloc (w := wr.drew) h _
        have HNW : Hid (∀ i v, [Value.int .i64 (p : Int), .int .i64 (q : Int)][i]? = some v → (wr.drew.alloc (.cells #[.int .i64 p, .int .i64 q] 39)).cell? ((⟨wr.heap.size, 0, none⟩ : Addr).add i) = some v) := cells_two (heap_alloc_new wr.drew _)
        have HON : Hid (∀ v ∈ [Value.int .i64 (p : Int), .int .i64 (q : Int)], v.oneCell' = true) := fun v hv => by simp at hv; rcases hv with rfl | rfl <;> rfl
        have H63 : Hid (K + 1 ≤ maxLen) := by show K + 1 ≤ maxLen; unfold maxLen; omega
        have HBY : Hid ((K + 1) * 16 ≤ 140737488355328) := by show (K + 1) * 16 ≤ 140737488355328; omega
        have HBS : Hid (b0 ≤ (wr.drew.alloc (.cells #[.int .i64 p, .int .i64 q] 39)).heap.size) := by show b0 ≤ _; simp; omega
        have HKP : Hid (∀ w4, (wr.drew.alloc (.cells #[.int .i64 p, .int .i64 q] 39)).grownBy w4 (Value.slice aS K cs).ownBlock → Below b0 w1 w4) := fun w4 hg => by
          refine Below.grown (hb2.drew.alloc (by show b0 ≤ wr.heap.size; omega) _) hg (by simp; omega) (fun b hb => ?_)
          rw [hK] at hb
          exact (HTO.out.own.lt b hb).1
        have hS := hid2 (show wr.drew.cell? ⟨g, off + k * 2, none⟩ = some (.int .i64 e1) from d0) (show wr.drew.cell? ⟨g, off + k * 2 + 1, none⟩ = some (.int .i64 e2) from d1)
        have hSA := hid2 (cell_alloc_old hS.1 (Obj.cells #[.int .i64 p, .int .i64 q] 39 (0, 0))) (cell_alloc_old hS.2 (Obj.cells #[.int .i64 p, .int .i64 q] 39 (0, 0)))
        clear hK hP hsl hto
        rw [← HK.out]
        go_wp2_with fail
        go_region_held3 (fun X => X.cell? ⟨g, off + k * 2, none⟩ = some (.int .i64 e1) ∧ X.cell? ⟨g, off + k * 2 + 1, none⟩ = some (.int .i64 e2)) (first | exact hS | exact hSA | trivial)
          (first | (refine step_append_any _ rfl (.tmp 32) (.tmp 50) 22 rfl b0 39 i1 _ 2 16 Try.underlying22 hj hy0 hy1 hy2 rfl (by decide) (.slice aS K cs) K (cellsE P) (by simp [Act.eval]) HOW.out (some ⟨wr.heap.size, 0, none⟩) 1 1 [.int .i64 p, .int .i64 q] (by simp [Act.eval]) (fun h => by cases h) rfl (fun p hp => by cases hp; exact HNW.out) HON.out H63.out HBY.out HBS.out ?_; intro v4 w4 hown4 hgrow _; have hb4 := HKP.out _ hgrow; have hS := HC.out _ hb4))
        all_goals
          have HNX : Hid (∃ P, Told w4 b0 m (k + 1) v4 P) := ⟨_, HTO.out.put hpm hqm (by rw [← HK.out]; exact hown4)⟩
          clear hown4 hgrow hS hSA HOW HNW HON H63 HBY HBS HKP HC hj hy0 hy1 hy2 d0 d1
          go_wp2
          go_roundg (300 - (k + 1))
          case measure => omega
          case rel => exact ⟨k + 1, by omega, Nat.le_refl _, by go_num, HNX, hb4⟩
      · rw [decide_eq_false hgo]
        obtain ⟨P, hP⟩ := hto.out
        obtain ⟨aS, cs, hsv, hsl, hea⟩ := eat_own hP.own
        subst hsv
        obtain ⟨K, hK⟩ := ex_eq P.length
        have HK := hid hK
        have HBW : Hid (Below w.heap.size w wr) := HB1.out.trans (hb2.mono (by rw [HB0.out]; exact HB1.out.size))
        have C1 : Hid (Calls Try.prog 11 #[.int .i64 m, .slice aS K cs] wr fun e w' => ∃ ys a' cap', e = .returned (.tuple #[.agg #[.int .i64 m, .slice a' ys.length cap'], .int .i64 0]) ∧ (RightG m ys ∧ IsNorm P ys) ∧ EAt w' a' ys ∧ Below wr.heap.size wr w') := by
          show Calls _ _ _ _ _
          have h3 := hP.len
          rw [hK]
          exact (normal_any m aS cs P wr (by omega) hea).mono fun _ _ ⟨er, ys, a', cap', h1, h2, h3, h4, h5⟩ => by
            obtain ⟨rfl, g1, g2, g3⟩ := normE_told h2 (by omega) hP.all (by omega)
            exact ⟨ys, a', cap', h1, ⟨g3, g1⟩, h4, h5⟩
        have HALL := hid hP.all
        have HEA := hid hea
        have hPl := hP.len
        rw [← hK] at hPl
        rw [← hK]
        clear hK hP hsl hea hto hj hy0 hy1 hy2 hgo hb2 HEB HE1
        go_wp2_with fail
        refine C1.out.mono ?_
        rintro e w5 ⟨ys, a5, c5, rfl, hR5, hE5, hb5⟩
        obtain ⟨Y, hY⟩ := ex_eq ys.length
        rw [← hY]
        obtain ⟨V5, hV5⟩ := ex_eq (w5.alloc (.cells #[.int .i64 m, .slice a5 Y c5] 25))
        obtain ⟨B, hB⟩ := ex_eq w5.heap.size
        have hbV5 : Below w5.heap.size w5 V5 := by rw [hV5]; exact below_new _ _
        have HG5 : Hid (GC V5 B m a5 Y c5 ys) := by
          show GC V5 _ _ _ _ _ _
          rw [hV5, hB]; exact gc_new hE5
        have hBX5 : Below wr.heap.size wr V5 := hb5.trans (hbV5.mono hb5.size)
        have HB5 : Hid (Below w.heap.size w V5) := HBW.out.trans (hBX5.mono HBW.out.size)
        have HE5 := hid (HEA.out.below hBX5)
        have HY := hid hY
        have HR5 := hid hR5.1
        have HN5 := hid hR5.2
        have HV5 := hid hV5
        have HBB := hid hB
        clear hY hV5 hB hbV5 hBX5 hE5 hb5 hR5 C1 HEA HBW HB1
        go_upto_region 9 with fail
        rw [← HV5.out, ← HBB.out]
        clear HV5 HBB
        obtain ⟨g0, g1⟩ := HG5.out.cells
        obtain ⟨b1, hb1⟩ := ex_eq V5.heap.size
        have HB1 := hid hb1
        obtain ⟨M, hM⟩ := ex_eq (m * m)
        have hMM : (m : Int) * (m : Int) = (M : Int) := by rw [hM]; exact (Int.natCast_mul m m).symm
        have hM9 : M ≤ 900 := by
          have := Nat.mul_le_mul (show m ≤ 30 by omega) (show m ≤ 30 by omega)
          omega
        have HM := hid hM
        obtain ⟨i0, hi, hz0, hz1, hz2⟩ := info_parts Try.info4
        obtain ⟨w6, hrun, hown, hgrow⟩ := run_make_full (P := Try.prog) V5 V5.heap.size 40 4 i0 (.bool false) 1 Try.underlying40 hi hz0 hz1 .i64 .i64 M (by rw [hz2]; omega) (by unfold maxLen; omega) (Nat.le_refl _)
        have HRW : Hid (RowB w6 b1 M (mark m (P.take 0))) := by
          show RowB w6 b1 M _
          rw [hb1]
          exact (rowB_made hown).congr (fun j _ => by simp [mark])
        have hb6 : Below b1 V5 w6 := by rw [hb1]; exact Below.grown (Below.refl _ _) hgrow (Nat.le_refl _) (fun k hk => by cases hk)
        clear hown hgrow hi hz0 hz1 hz2 hM
        rw [← hb1] at hrun
        clear hb1
        go_wp2
        have HEV : Hid (∀ X, Below b1 V5 X → EAt X aS P) := fun X h => HE5.out.below (by rw [← HB1.out]; exact h)
        have hK3 : K ≤ 300 := by omega
        clear hrun g0 g1 HB0 hszr hk hG hPl
        go_loopg [11] K (fun G i wz => ∃ j : Nat, j ≤ K ∧ K - j ≤ G ∧ i = .int .i64 j ∧ Hid (RowB wz b1 M (mark m (P.take j))) ∧ Below b1 V5 wz)
        case atStart => exact ⟨0, Nat.zero_le _, by omega, rfl, HRW, hb6⟩
        case round =>
          obtain ⟨j, hjK, hG, rfl, hrow, hbr⟩ := hrel
          by_cases hlt : j < K
          · have hjr : j < P.length := by rw [← HK.out]; exact hlt
            obtain ⟨g, off, hg, d0, d1⟩ := (HEV.out _ hbr).at' hjr
            subst hg
            have hin := HALL.out _ (List.getElem_mem hjr)
            obtain ⟨p, hp⟩ : ∃ p : Nat, (p : Int) = P[j].1 := ⟨P[j].1.toNat, by omega⟩
            obtain ⟨q, hq⟩ : ∃ q : Nat, (q : Int) = P[j].2 := ⟨P[j].2.toNat, by omega⟩
            rw [← hp] at d0
            rw [← hq] at d1
            rw [← hp, ← hq] at hin
            have hpm : p < m := by omega
            have hqm : q < m := by omega
            have HMK : Hid (∀ i, mark m (P.take (j + 1)) i = (mark m (P.take j) i || (!((p : Int) == (q : Int)) && ((i : Int) == (p : Int) * m + q || (i : Int) == (q : Int) * m + p)))) := fun i => by rw [mark_take hjr, ← hp, ← hq]
            have q1 : (j : Int) < (K : Int) := by omega
            have q5 : (0 : Int) ≤ (j : Int) := by omega
            have HDD : Hid (∀ X, Below b1 V5 X → X.cell? ⟨g, off + j * 2, none⟩ = some (.int .i64 p) ∧ X.cell? ⟨g, off + j * 2 + 1, none⟩ = some (.int .i64 q)) := fun X hX => by
              obtain ⟨g', off', e, z0, z1⟩ := (HEV.out X hX).at' hjr
              cases e
              rw [hp, hq]; exact ⟨z0, z1⟩
            clear hp hq hin
            by_cases hpq : p = q
            · subst hpq
              have HRX : Hid (RowB wr b1 M (mark m (P.take (j + 1)))) := hrow.out.congr (fun i _ => by rw [HMK.out i]; simp)
              clear HMK hrow
              go_wp2_with fail
              go_quiet (fail)
              go_wp2
              go_roundg (K - (j + 1))
              case measure => omega
              case rel => exact ⟨j + 1, by omega, Nat.le_refl _, by go_num, HRX.out.below (below_drewN (Below.refl _ _) _), below_drewN hbr _⟩
            · have hpq2 : ¬ (p : Int) = (q : Int) := by omega
              have hpq3 : ((p : Int) == (q : Int)) = false := beq_eq_false_iff_ne.2 hpq2
              go_wp2_with fail
              go_quiet (fail)
              go_upto_region 16 with fail
              obtain ⟨W, hW⟩ := ex_eq (wr.drewN nq)
              rw [← hW]
              have hbW : Below b1 V5 W := by rw [hW]; exact below_drewN hbr _
              have hrW : Hid (RowB W b1 M (mark m (P.take j))) := by
                show RowB W b1 M _
                rw [hW]; exact hrow.out.below (below_drewN (Below.refl _ _) _)
              obtain ⟨I1, hI1⟩ := ex_eq (p * m)
              obtain ⟨I2, hI2⟩ := ex_eq (q * m)
              obtain ⟨J1, hJ1⟩ := ex_eq (I1 + q)
              obtain ⟨J2, hJ2⟩ := ex_eq (I2 + p)
              have hM1 : J1 < M := by rw [hJ1, hI1, HM.out]; exact place_lt hpm hqm
              have hM2 : J2 < M := by rw [hJ2, hI2, HM.out]; exact place_lt hqm hpm
              have n1 : (p : Int) * (m : Int) = (I1 : Int) := by rw [hI1]; exact (Int.natCast_mul p m).symm
              have n2 : (q : Int) * (m : Int) = (I2 : Int) := by rw [hI2]; exact (Int.natCast_mul q m).symm
              have n3 : (I1 : Int) + (q : Int) = (J1 : Int) := by omega
              have n4 : (I2 : Int) + (p : Int) = (J2 : Int) := by omega
              have n5 : I1 ≤ 900 := by omega
              have n6 : I2 ≤ 900 := by omega
              have t1 : (0 : Int) ≤ (J1 : Int) := by omega
              have t2 : (J1 : Int) < (M : Int) := by omega
              have t3 : (0 : Int) ≤ (J2 : Int) := by omega
              have t4 : (J2 : Int) < (M : Int) := by omega
              have r1 : IntKind.i64.wrap (I1 : Int) = (I1 : Int) := by rw [IntKind.wrap_i64]; omega
              have r2 : IntKind.i64.wrap (I2 : Int) = (I2 : Int) := by rw [IntKind.wrap_i64]; omega
              have r3 : IntKind.i64.wrap (J1 : Int) = (J1 : Int) := by rw [IntKind.wrap_i64]; omega
              have r4 : IntKind.i64.wrap (J2 : Int) = (J2 : Int) := by rw [IntKind.wrap_i64]; omega
              have hr1 := hrW.out.put hM1 true
              have hr2 := hr1.put hM2 true
              have HRX : Hid (∀ X, X = (W.setCell ⟨b1, J1, none⟩ (.bool true)).setCell ⟨b1, J2, none⟩ (.bool true) → RowB X b1 M (mark m (P.take (j + 1)))) := fun X hX => by
                rw [hX]
                refine hr2.congr (fun i _ => ?_)
                rw [HMK.out i, hpq3, n1, n2, n3, n4]
                by_cases z2 : i = J2
                · subst z2; simp
                · by_cases z1 : i = J1
                  · subst z1; simp
                  · have y1 : ((i : Int) == (J1 : Int)) = false := beq_eq_false_iff_ne.2 (by omega)
                    have y2 : ((i : Int) == (J2 : Int)) = false := beq_eq_false_iff_ne.2 (by omega)
                    simp [z1, z2, y1, y2]
              obtain ⟨s1, f1⟩ := hrW.out.2 J1 hM1
              obtain ⟨s2, f2⟩ := hr1.2 J2 hM2
              obtain ⟨c1, hc1⟩ := ex_eq (mark m (P.take j) J1)
              rw [← hc1] at s1
              obtain ⟨x0, x1⟩ := HDD.out W hbW
              have hS := hid2 (show W.drew.cell? ⟨g, off + j * 2, none⟩ = some (.int .i64 p) from x0) (show W.drew.cell? ⟨g, off + j * 2 + 1, none⟩ = some (.int .i64 q) from x1)
              obtain ⟨W2, hW2⟩ := ex_eq (W.drew.setCell ⟨b1, J1, none⟩ (.bool true))
              have hbW2 : Below b1 V5 W2 := by rw [hW2]; exact hbW.drew.setCell (p := ⟨b1, J1, none⟩) (Nat.le_refl _) _
              have hS2 := HDD.out W2 hbW2
              have hS3 := hid2 (show W2.drew.cell? ⟨g, off + j * 2, none⟩ = some (.int .i64 p) from hS2.1) (show W2.drew.cell? ⟨g, off + j * 2 + 1, none⟩ = some (.int .i64 q) from hS2.2)
              have s3 : W2.cell? ⟨b1, J2, none⟩ = some (.bool (if J2 = J1 then true else mark m (P.take j) J2)) := by rw [hW2]; exact s2
              have f3 : W2.frozen? ⟨b1, J2, none⟩ = false := by rw [hW2]; exact f2
              obtain ⟨c2, hc2⟩ := ex_eq (if J2 = J1 then true else mark m (P.take j) J2)
              rw [← hc2] at s3
              have HW2 := hid hW2
              have HBW2 := hid hbW2
              rw [hW2] at hS2
              clear hW hc1 hc2 hI1 hI2 hJ1 hJ2 hrow HMK d0 d1 hr1 hr2 s2 f2 hW2 hbW2 hbr hbW
              go_cut [11] from 70 to 116 (fun v11 wx => v11 = .int .i64 j ∧ wx = W.drew.setCell ⟨b1, J1, none⟩ (.bool true))
              case first =>
                clear hS3 s3 f3
                go_region_held3 (fun X => X.cell? ⟨g, off + j * 2, none⟩ = some (.int .i64 p) ∧ X.cell? ⟨g, off + j * 2 + 1, none⟩ = some (.int .i64 q)) (first | exact hS | exact hS2) (fail)
                all_goals (try go_wp2_with fail)
                all_goals go_meet
                all_goals exact ⟨rfl, rfl⟩
              case rest =>
                obtain ⟨rfl, hwc⟩ := hcut
                rw [hwc, ← HW2.out]
                have hb3 : Below b1 V5 (W2.drew.setCell ⟨b1, J2, none⟩ (.bool true)) := HBW2.out.drew.setCell (p := ⟨b1, J2, none⟩) (Nat.le_refl _) _
                have hS4 := HDD.out _ hb3
                clear hwc hS hS2 s1 f1 x0 x1
                have HRY : Hid (RowB (W2.drew.setCell ⟨b1, J2, none⟩ (.bool true)) b1 M (mark m (P.take (j + 1)))) := by
                  have := HRX.out _ rfl
                  rw [HW2.out]
                  exact this
                go_upto_region 17 with fail
                go_region_held3 (fun X => X.cell? ⟨g, off + j * 2, none⟩ = some (.int .i64 p) ∧ X.cell? ⟨g, off + j * 2 + 1, none⟩ = some (.int .i64 q)) (first | exact hS3 | exact hS4) (fail)
                all_goals
                  go_wp2
                  go_roundg (K - (j + 1))
                  case measure => omega
                  case rel => exact ⟨j + 1, by omega, Nat.le_refl _, by go_num, HRY, hb3⟩
          · obtain rfl : j = K := by omega
            have htk : P.take j = P := by rw [HK.out, List.take_length]
            rw [htk] at hrow
            have HGV : Hid (∀ X, Below b1 V5 X → GC X B m a5 Y c5 ys) := fun X h => HG5.out.on (by rw [← HB1.out]; exact h)
            have CH : Hid (∀ W (x y : Int) (r : Bool), (r = true ↔ (min x y, max x y) ∈ ys) → EAt W a5 ys → Calls Try.prog 16 #[.agg #[.int .i64 m, .slice a5 Y c5], .int .i64 x, .int .i64 y] W fun e w' => e = .returned (.bool r) ∧ Below W.heap.size W w') := fun W x y r hr hE => by
              rw [HY.out]; exact has_rightS m a5 c5 ys x y r W HR5.out hE hr
            clear htk hG hlt hjK HEV HE5 HRW hb6
            go_wp2
            go_loopg [12] m (fun G i wz => ∃ x : Nat, x ≤ m ∧ m - x ≤ G ∧ i = .int .i64 x ∧ Hid (RowB wz b1 M (mark m P)) ∧ Below b1 V5 wz)
            case atStart => exact ⟨0, Nat.zero_le _, by omega, rfl, hrow, hbr⟩
            case round =>
              obtain ⟨x, hxm, hGx, rfl, hrow3, hb3⟩ := hrel
              by_cases hxl : x < m
              · have q1 : (x : Int) < (m : Int) := by omega
                go_wp2
                clear q1
                go_loopg [13] m (fun G i wz => ∃ y : Nat, y ≤ m ∧ m - y ≤ G ∧ i = .int .i64 y ∧ Hid (RowB wz b1 M (mark m P)) ∧ Below b1 V5 wz)
                case atStart => exact ⟨0, Nat.zero_le _, by omega, rfl, hrow3, hb3⟩
                case round =>
                  obtain ⟨y, hym, hGy, rfl, hrow4, hb4⟩ := hrel
                  by_cases hyl : y < m
                  · obtain ⟨I1, hI1⟩ := ex_eq (x * m)
                    obtain ⟨J1, hJ1⟩ := ex_eq (I1 + y)
                    have hM1 : J1 < M := by rw [hJ1, hI1, HM.out]; exact place_lt hxl hyl
                    have n1 : (x : Int) * (m : Int) = (I1 : Int) := by rw [hI1]; exact (Int.natCast_mul x m).symm
                    have n3 : (I1 : Int) + (y : Int) = (J1 : Int) := by omega
                    have n5 : I1 ≤ 900 := by omega
                    have t1 : (0 : Int) ≤ (J1 : Int) := by omega
                    have t2 : (J1 : Int) < (M : Int) := by omega
                    have r1 : IntKind.i64.wrap (I1 : Int) = (I1 : Int) := by rw [IntKind.wrap_i64]; omega
                    have r3 : IntKind.i64.wrap (J1 : Int) = (J1 : Int) := by rw [IntKind.wrap_i64]; omega
                    have q1 : (y : Int) < (m : Int) := by omega
                    obtain ⟨r, hr⟩ := ex_eq (mark m P J1)
                    have hrm : r = true ↔ (min (x : Int) y, max (x : Int) y) ∈ ys := by rw [hr]; exact mark_has HALL.out HN5.out hyl (by rw [← n3, ← n1])
                    have HCH : Hid (∀ W, Below b1 V5 W → Calls Try.prog 16 #[.agg #[.int .i64 m, .slice a5 Y c5], .int .i64 x, .int .i64 y] W fun e w' => e = .returned (.bool r) ∧ Below W.heap.size W w') := fun W h => CH.out W x y r hrm (HGV.out W h).at_
                    have HKP : Hid (∀ W, Below b1 V5 W → RowB W b1 M (mark m P) → W.cell? ⟨B, 0, none⟩ = some (.int .i64 m) ∧ W.cell? ⟨B, 1, none⟩ = some (.slice a5 Y c5) ∧ W.cell? ⟨b1, J1, none⟩ = some (.bool r)) := fun W h h' => ⟨(HGV.out W h).n0, (HGV.out W h).e0, by rw [hr]; exact (h'.2 J1 hM1).1⟩
                    have hS := HKP.out wr.drew hb4.drew hrow4.out
                    have HKB : Hid (∀ w', Below wr.drew.heap.size wr.drew w' → Below b1 V5 w' ∧ RowB w' b1 M (mark m P)) := fun w' h => ⟨hb4.drew.trans (h.mono (by have := hrow4.out.1; show b1 ≤ wr.heap.size; omega)), (RowB.drew hrow4.out).below h⟩
                    have HB4 := hid hb4.drew
                    clear hr hrm hI1 hJ1
                    cases r with
                    | false =>
                      go_wp2_with fail
                      go_region_held3 (fun X => X.cell? ⟨B, 0, none⟩ = some (.int .i64 m) ∧ X.cell? ⟨B, 1, none⟩ = some (.slice a5 Y c5) ∧ X.cell? ⟨b1, J1, none⟩ = some (.bool false)) (first | exact hS | exact hS7)
                        (first | (go_at_call 16; refine (HCH.out _ HB4.out).mono ?_; rintro e w7 ⟨rfl, hb7⟩; obtain ⟨hb8, hrow8⟩ := HKB.out w7 hb7; have HR8 := hid hrow8; have hS7 := HKP.out w7 hb8 hrow8))
                      all_goals
                        clear hS hS7 hrow8 hb7 HKP HKB HCH
                        go_wp2
                        go_roundg (m - (y + 1))
                        case measure => omega
                        case rel => exact ⟨y + 1, by omega, Nat.le_refl _, by go_num, HR8, hb8⟩
                    | true =>
                      go_wp2_with fail
                      go_region_held3 (fun X => X.cell? ⟨B, 0, none⟩ = some (.int .i64 m) ∧ X.cell? ⟨B, 1, none⟩ = some (.slice a5 Y c5) ∧ X.cell? ⟨b1, J1, none⟩ = some (.bool true)) (first | exact hS | exact hS7)
                        (first | (go_at_call 16; refine (HCH.out _ HB4.out).mono ?_; rintro e w7 ⟨rfl, hb7⟩; obtain ⟨hb8, hrow8⟩ := HKB.out w7 hb7; have HR8 := hid hrow8; have hS7 := HKP.out w7 hb8 hrow8))
                      all_goals
                        clear hS hS7 hrow8 hb7 HKP HKB HCH
                        go_wp2
                        go_roundg (m - (y + 1))
                        case measure => omega
                        case rel => exact ⟨y + 1, by omega, Nat.le_refl _, by go_num, HR8, hb8⟩
                  · obtain rfl : y = m := by omega
                    go_wp2
                    go_roundg (y - (x + 1))
                    case measure => omega
                    case rel => exact ⟨x + 1, by omega, Nat.le_refl _, by go_num, hrow4, hb4⟩
              · obtain rfl : x = m := by omega
                have HB3 : Hid (Below w.heap.size w wr) := HB5.out.trans (hb3.mono (by rw [HB1.out]; exact HB5.out.size))
                have HG3 := hid (HGV.out wr hb3)
                obtain ⟨g0, g1⟩ := HG3.out.cells
                have C1 := hid (CH.out wr (-1) 0 false ⟨fun h => (by cases h), fun h => by have := HR5.out.2.2.2.1 _ h; simp only at this; omega⟩ HG3.out.at_)
                clear hMM hrow hrow3 hbr hb3 HGV
                go_wp2_with fail
                refine C1.out.mono ?_
                rintro e w7 ⟨rfl, hb7⟩
                have HG7 := hid (HG3.out.on hb7)
                have HB7 : Hid (Below w.heap.size w w7) := HB3.out.trans (hb7.mono HB3.out.size)
                clear g0 g1 hb7 HG3 HB3 C1
                obtain ⟨g0, g1⟩ := HG7.out.cells
                have C2 := hid (CH.out w7 0 x false ⟨fun h => (by cases h), fun h => by have := HR5.out.2.2.2.1 _ h; simp only at this; omega⟩ HG7.out.at_)
                clear CH
                go_wp2_with fail
                refine C2.out.mono ?_
                rintro e w8 ⟨rfl, hb8⟩
                have HB8 : Hid (Below w.heap.size w w8) := HB7.out.trans (hb8.mono HB7.out.size)
                clear hb8
                go_wp2
                go_ret
                exact ⟨rfl, HB8.out⟩
end Go.Proofs.Ytalhjankofdhgaa
