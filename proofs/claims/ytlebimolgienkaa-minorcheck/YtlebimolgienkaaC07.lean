/-
  The document's Any: a graph that is right, from anything.
  carcanetlaw03.GraphSum answers true.
  A row of truths that the call has made, place by place.
  Rows that lie in one array, each with its own room, headers in another: what one number more makes of them.
  graph.Degrees once more: its row is a new one.
-/
import Derived.Test.YtlebimolgienkaaC06
import Derived.Test.YtlebimolgienkaaC05
import Derived.Test.YtlebimolgienkaaC02
import Derived.Deep.RegionHeld3
import Derived.Deep.RegionLaw
namespace Go.Proofs.Ytlebimolgienkaa
open Go.RowKit Go.Lib

theorem and_low (n : Int) : bits .and .i64 n 65535 = n % 65536 := by
  have hm : (BitVec.ofInt 64 65535).toNat = 2 ^ 16 - 1 := by decide
  have e : (BitVec.ofInt 64 n &&& BitVec.ofInt 64 65535).toNat = (n % ((2 ^ 64 : Nat) : Int)).toNat % 2 ^ 16 := by
    rw [BitVec.toNat_and, BitVec.toNat_ofInt, hm, Nat.and_two_pow_sub_one_eq_mod]
  show IntKind.i64.wrap ((BitVec.ofInt 64 n &&& BitVec.ofInt 64 65535).toNat : Nat) = n % 65536
  rw [e, IntKind.wrap_i64]
  omega
theorem rnd_of (x : Int) {m : Nat} (hm : 0 < m) : ∃ p : Nat, (bits .and .i64 x 65535).tmod (m : Int) = (p : Int) ∧ p < m := by
  rw [and_low]
  have h0 : 0 ≤ x % 65536 := by omega
  obtain ⟨a, ha⟩ := Int.eq_ofNat_of_zero_le h0
  rw [ha]
  refine ⟨a % m, ?_, Nat.mod_lt _ hm⟩
  rw [Int.tmod_eq_emod_of_nonneg (by omega)]
  exact (Int.natCast_emod a m).symm
theorem allIn_put {n : Int} {l : List (Int × Int)} {p q : Int} (h : AllIn n l) (hp : 0 ≤ p ∧ p < n) (hq : 0 ≤ q ∧ q < n) : AllIn n (l ++ [(p, q)]) := fun e he => by
  rcases List.mem_append.1 he with h1 | h1
  · exact h e h1
  · simp at h1; subst h1; exact ⟨hp, hq⟩
/-- Told edges, each between two of m vertices, lie behind each other in a row of the call's own. -/
structure Told (w : World) (base m k : Nat) (v : Value) (P : List (Int × Int)) : Prop where
  own : w.ownsRow base 56 2 v P.length (cellsE P)
  all : AllIn m P
  len : P.length ≤ k
  pos : 0 < m ∨ P = []
theorem told_nil (w : World) (base m : Nat) : Told w base m 0 (.slice none 0 0) [] := ⟨World.ownsRow_nil _ _ _ _, fun e he => absurd he (by simp), Nat.le_refl _, Or.inr rfl⟩
theorem Told.put {w w4 : World} {base m k p q : Nat} {v v4 : Value} {P : List (Int × Int)} (h : Told w base m k v P) (hp : p < m) (hq : q < m) (ho : w4.ownsRow base 56 2 v4 (P.length + 1) (cellsE P ++ [.int .i64 p, .int .i64 q])) : Told w4 base m (k + 1) v4 (P ++ [((p : Int), (q : Int))]) :=
  ⟨by rw [cellsE_append, List.length_append]; exact ho, allIn_put h.all ⟨by omega, by omega⟩ ⟨by omega, by omega⟩, by have := h.len; simp; omega, Or.inl (by omega)⟩
theorem normE_told {m : Nat} {P ys : List (Int × Int)} {er : Int} (h : NormE m P er ys) (hm : m ≤ 1000) (ha : AllIn m P) (hl : P.length ≤ 4000) : er = 0 ∧ IsNorm P ys ∧ ys.length ≤ P.length ∧ RightG m ys := by
  rcases h with ⟨h, _⟩ | ⟨h, _⟩ | ⟨_, h, _⟩ | ⟨_, _, _, _, zs, hz, hzl⟩ | ⟨h1, h2, h3, hz, hzl⟩
  · omega
  · omega
  · exact absurd ha h
  · have := hz.len; omega
  · exact ⟨h3, hz, hz.len, hz.right h2 h1.1 h1.2 hzl⟩

set_option maxHeartbeats 4000000 in
set_option maxRecDepth 100000 in
theorem any_any (n0 : Int) (a : Option Addr) (N cap : Nat) (l : List (Int × Int)) (most : Nat) (w : World) (hmost : most ≤ 1000) (hl : N = l.length) (hE : EAt w a l) :
    Calls Try.prog 35 #[.int .i64 n0, .slice a N cap, .int .i64 most] w fun e w' => ∃ (m : Nat) (ys : List (Int × Int)) (a' : Option Addr) (cap' : Nat), e = .returned (.agg #[.int .i64 m, .slice a' ys.length cap']) ∧ m ≤ most ∧ RightG m ys ∧ ys.length ≤ 300 ∧ Sl a' cap' ys.length ∧ EAt w' a' ys ∧ Below w.heap.size w w' := by
  obtain ⟨i1, hj, hy0, hy1, hy2⟩ := info_parts Try.info56
  obtain ⟨m, hm0, hm1⟩ := rnd_of n0 (m := most + 1) (by omega)
  have HM : Hid ((bits .and .i64 n0 65535).tmod ((most : Int) + 1) = (m : Int)) := by
    show _ = _
    rw [← hm0]; rfl
  have HE : Hid (EAt w a l) := hE
  have HN : Hid (N = l.length) := hl
  have hmost0 : (0 : Int) ≤ (most : Int) := by omega
  have hmost1 : (most : Int) ≤ 1000 := by omega
  have hmost2 : ¬ (most : Int) + 1 = 0 := by omega
  obtain ⟨W1, hW1⟩ := ex_eq (w.alloc (.cells #[.int .i64 0, .slice none 0 0] 26))
  have HW1 := hid hW1
  have hB1 : Below w.heap.size w W1 := by rw [hW1]; exact below_new _ _
  have hs1 : W1.heap.size = w.heap.size + 1 := by rw [hW1]; simp
  have HO1 : Hid (W1.heap[w.heap.size]? = some (.cells #[.int .i64 0, .slice none 0 0] 26)) := by
    show _ = _
    rw [hW1]; exact heap_alloc_new _ _
  clear hE hl hm0 hW1
  go_enter Try.func35, Try.ntmps35
  go_wp2
  rw [HM.out, ← HW1.out]
  clear HM HW1 hmost0 hmost1 hmost2
  go_loopg [7, 8] 300 (fun G v i wz => ∃ k : Nat, k ≤ 300 ∧ 300 - k ≤ G ∧ i = .int .i64 k ∧ Hid (∃ P, Told wz (w.heap.size + 1) m k v P) ∧ Below (w.heap.size + 1) W1 wz)
  case atStart => exact ⟨0, Nat.zero_le _, by omega, rfl, ⟨_, told_nil _ _ _⟩, Below.refl _ _⟩
  case round =>
    obtain ⟨k, hk, hG, rfl, hto, hb2⟩ := hrel
    have hszr := hb2.size
    rw [hs1] at hszr
    have hbw : Below w.heap.size w wr := hB1.trans (hb2.mono (by omega))
    by_cases hgo : k < N ∧ k < 300 ∧ 0 < m
    · obtain ⟨hlt, hk3, hmp⟩ := hgo
      have hkr : k < l.length := by rw [← HN.out]; exact hlt
      obtain ⟨g, off, rfl, d0, d1⟩ := (HE.out.below hbw).at' hkr
      obtain ⟨e1, he1⟩ := ex_eq l[k].1
      obtain ⟨e2, he2⟩ := ex_eq l[k].2
      rw [← he1] at d0
      rw [← he2] at d1
      have HC : Hid (∀ X, Below w.heap.size w X → X.cell? ⟨g, off + k * 2, none⟩ = some (.int .i64 e1) ∧ X.cell? ⟨g, off + k * 2 + 1, none⟩ = some (.int .i64 e2)) := fun X hX => by
        obtain ⟨g', off', ha', z0, z1⟩ := (HE.out.below hX).at' hkr
        cases ha'
        rw [he1, he2]; exact ⟨z0, z1⟩
      clear he1 he2
      obtain ⟨p, hp, hpm⟩ := rnd_of e1 hmp
      obtain ⟨q, hq, hqm⟩ := rnd_of e2 hmp
      obtain ⟨P, hP⟩ := hto.out
      obtain ⟨aS, cs, hsv, hsl, _⟩ := eat_own hP.own
      subst hsv
      have HTO := hid hP
      have HSL : Hid (aS = none → P.length = 0 ∧ cs = 0) := fun ha => by have h1 := hsl.2.1 ha; have h2 := hsl.1; exact ⟨by omega, h1⟩
      have hPl := hP.len
      obtain ⟨K, hK⟩ := ex_eq P.length
      have HK := hid hK
      have q1 : (k : Int) < (N : Int) := by omega
      have q2 : (k : Int) < 300 := by omega
      have q3 : (0 : Int) < (m : Int) := by omega
      have q4 : ¬ (m : Int) = 0 := by omega
      have q5 : (0 : Int) ≤ (k : Int) := by omega
      have q6 : ¬ m = 0 := by omega
      rw [← hK] at hPl
      have HOW : Hid ((wr.drew.alloc (.cells #[.int .i64 p, .int .i64 q] 56)).ownsRow (w.heap.size + 1) 56 2 (.slice aS K cs) K (cellsE P)) := by
        have h := HTO.out.own
        rw [← hK] at h
        exact World.ownsRow.alloc (w := wr.drew) h _
      have HNW : Hid (∀ i v, [Value.int .i64 (p : Int), .int .i64 (q : Int)][i]? = some v → (wr.drew.alloc (.cells #[.int .i64 p, .int .i64 q] 56)).cell? ((⟨wr.heap.size, 0, none⟩ : Addr).add i) = some v) := cells_two (heap_alloc_new wr.drew _)
      have HON : Hid (∀ v ∈ [Value.int .i64 (p : Int), .int .i64 (q : Int)], v.oneCell' = true) := fun v hv => by simp at hv; rcases hv with rfl | rfl <;> rfl
      have H63 : Hid (K + 1 ≤ maxLen) := by show K + 1 ≤ maxLen; unfold maxLen; omega
      have HBY : Hid ((K + 1) * 16 ≤ 140737488355328) := by show (K + 1) * 16 ≤ 140737488355328; omega
      have HBS : Hid (w.heap.size + 1 ≤ (wr.drew.alloc (.cells #[.int .i64 p, .int .i64 q] 56)).heap.size) := by show w.heap.size + 1 ≤ _; simp; omega
      have HKP : Hid (∀ w4, (wr.drew.alloc (.cells #[.int .i64 p, .int .i64 q] 56)).grownBy w4 (Value.slice aS K cs).ownBlock → Below (w.heap.size + 1) W1 w4) := fun w4 hg => by
        refine Below.grown (hb2.drew.alloc (by show w.heap.size + 1 ≤ wr.heap.size; omega) _) hg (by simp; omega) (fun b hb => ?_)
        rw [hK] at hb
        exact (HTO.out.own.lt b hb).1
      have hS := hid2 (show wr.drew.cell? ⟨g, off + k * 2, none⟩ = some (.int .i64 e1) from d0) (show wr.drew.cell? ⟨g, off + k * 2 + 1, none⟩ = some (.int .i64 e2) from d1)
      have hSA := hid2 (cell_alloc_old hS.1 (Obj.cells #[.int .i64 p, .int .i64 q] 56 (0, 0))) (cell_alloc_old hS.2 (Obj.cells #[.int .i64 p, .int .i64 q] 56 (0, 0)))
      clear hK hP hsl hto
      rw [← HK.out]
      go_wp2_with fail
      go_region_held3 (fun X => X.cell? ⟨g, off + k * 2, none⟩ = some (.int .i64 e1) ∧ X.cell? ⟨g, off + k * 2 + 1, none⟩ = some (.int .i64 e2)) (first | exact hS | exact hSA | trivial)
        (first | (refine step_append_any _ rfl (.tmp 30) (.tmp 48) 22 rfl (w.heap.size + 1) 56 i1 _ 2 16 Try.underlying22 hj hy0 hy1 hy2 rfl (by decide) (.slice aS K cs) K (cellsE P) (by simp [Act.eval]) HOW.out (some ⟨wr.heap.size, 0, none⟩) 1 1 [.int .i64 p, .int .i64 q] (by simp [Act.eval]) (fun h => by cases h) rfl (fun p hp => by cases hp; exact HNW.out) HON.out H63.out HBY.out HBS.out ?_; intro v4 w4 hown4 hgrow _; have hb4 := HKP.out _ hgrow; have hS := HC.out _ (hB1.trans (hb4.mono (Nat.le_succ _)))))
      all_goals
        have HNX : Hid (∃ P, Told w4 (w.heap.size + 1) m (k + 1) v4 P) := ⟨_, HTO.out.put hpm hqm (by rw [← HK.out]; exact hown4)⟩
        clear hown4 hgrow hS hSA HOW HNW HON H63 HBY HBS HKP HC hj hy0 hy1 hy2 d0 d1
        go_wp2
        go_roundg (300 - (k + 1))
        case measure => omega
        case rel => exact ⟨k + 1, by omega, Nat.le_refl _, by go_num, HNX, hb4⟩
    · obtain ⟨P, hP⟩ := hto.out
      obtain ⟨aS, cs, hsv, hsl, hea⟩ := eat_own hP.own
      subst hsv
      have HTO := hid hP
      obtain ⟨K, hK⟩ := ex_eq P.length
      have HK := hid hK
      have HRN : Hid (Calls Try.prog 74 #[.int .i64 m, .slice aS K cs] wr fun e w' => ∃ ys a' cap', e = .returned (.tuple #[.agg #[.int .i64 m, .slice a' ys.length cap'], .int .i64 0]) ∧ RightG m ys ∧ ys.length ≤ 300 ∧ Sl a' cap' ys.length ∧ EAt w' a' ys ∧ Below wr.heap.size wr w') := by
        show Calls _ _ _ _ _
        have h3 := hP.len
        rw [hK]
        exact (rnormal_any m aS cs P wr (by omega) hea).mono fun _ _ ⟨er, ys, a', cap', h1, h2, h3, h4, h5⟩ => by
          obtain ⟨rfl, g1, g2, g3⟩ := normE_told h2 (by omega) hP.all (by omega)
          exact ⟨ys, a', cap', h1, g3, by omega, h3, h4, h5⟩
      rw [← hK]
      clear hK hP hsl hea hto hj hy0 hy1 hy2
      have hway : ¬ (k : Int) < (N : Int) ∨ ((k : Int) < (N : Int) ∧ ¬ (k : Int) < 300) ∨ ((k : Int) < (N : Int) ∧ (k : Int) < 300 ∧ ¬ 0 < (m : Int)) := by omega
      clear hgo
      rcases hway with v1 | ⟨v1, v2⟩ | ⟨v1, v2, v3⟩
      all_goals
        go_wp2_with fail
        refine HRN.out.mono ?_
        rintro e w5 ⟨ys, a5, c5, rfl, hR5, hl5, hs5, hE5, hb5⟩
        obtain ⟨M, hM⟩ := ex_eq ys.length
        rw [← hM]
        have HM := hid hM
        obtain ⟨V5, hV5⟩ := ex_eq (w5.alloc (.cells #[.int .i64 m, .slice a5 M c5] 26))
        have hbV5 : Below w5.heap.size w5 V5 := by rw [hV5]; exact below_new _ _
        have HG5 : Hid (GC V5 w5.heap.size m a5 M c5 ys) := by
          show GC V5 _ _ _ _ _ _
          rw [hV5]; exact gc_new hE5
        have hBX5 : Below wr.heap.size wr V5 := hb5.trans (hbV5.mono hb5.size)
        have HB5 : Hid (Below w.heap.size w V5) := hbw.trans (hBX5.mono hbw.size)
        have HR5 := hid hR5
        have HL5 := hid hl5
        have HS5 := hid hs5
        have hO5 : V5.heap[w.heap.size]? = some (.cells #[.int .i64 0, .slice none 0 0] 26) := (hBX5.block _ (by omega)).trans ((hb2.block _ (by omega)).trans HO1.out)
        have HNE := hid (eat_off_box hO5 HG5.out.at_)
        obtain ⟨x0, x1⟩ := two_cells hO5
        have xf := frozen_of_heap hO5
        obtain ⟨g0, g1⟩ := HG5.out.cells
        rw [hV5] at g0 g1 x0 x1 xf
        have HV5 := hid hV5
        clear hM hE5 hb5 hbV5 hBX5 hR5 hl5 hs5 hO5 hV5 hb2 hbw
        go_wp2
        rw [← HV5.out]
        rw [← HV5.out] at x0 x1
        refine bodyPost_ret (v := .agg #[.int .i64 m, .slice a5 M c5]) ?_ rfl ⟨m, ys, a5, c5, by rw [← HM.out], by omega, HR5.out, HL5.out, HS5.out, (HG5.out.at_.set (p := ⟨w.heap.size, 0, none⟩) HNE.out _).set (p := ⟨w.heap.size, 1, none⟩) HNE.out _, (HB5.out.setCell (p := ⟨w.heap.size, 0, none⟩) (by simp) _).setCell (p := ⟨w.heap.size, 1, none⟩) (by simp) _⟩
        rw [results_cell1 rfl]
        go_simp
end Go.Proofs.Ytlebimolgienkaa
namespace Go.Proofs.Ytlebimolgienkaa
open Go.RowKit Go.Lib

/-- A sum over the vertices below n. -/
def sumN (f : Nat → Nat) : Nat → Nat
  | 0 => 0
  | n + 1 => sumN f n + f n
theorem sumN_add (f g : Nat → Nat) (n : Nat) : sumN (fun v => f v + g v) n = sumN f n + sumN g n := by
  induction n with
  | zero => rfl
  | succ n ih => simp only [sumN, ih]; omega
theorem sumN_congr {f g : Nat → Nat} (h : ∀ v, f v = g v) (n : Nat) : sumN f n = sumN g n := by
  induction n with
  | zero => rfl
  | succ n ih => simp only [sumN, ih, h]
theorem sumN_zero (n : Nat) : sumN (fun _ => 0) n = 0 := by
  induction n with
  | zero => rfl
  | succ n ih => simp only [sumN, ih]
theorem sumN_at (a n : Nat) : sumN (fun v => if v = a then 1 else 0) n = if a < n then 1 else 0 := by
  induction n with
  | zero => rfl
  | succ n ih =>
    simp only [sumN, ih]
    by_cases h1 : a < n
    · rw [if_pos h1, if_neg (by omega), if_pos (by omega)]
    · by_cases h2 : n = a
      · rw [if_neg h1, if_pos h2, if_pos (by omega)]
      · rw [if_neg h1, if_neg h2, if_neg (by omega)]
theorem sumN_le (f : Nat → Nat) {a n : Nat} (h : a ≤ n) : sumN f a ≤ sumN f n := by
  induction n with
  | zero => obtain rfl : a = 0 := by omega
            exact Nat.le_refl _
  | succ n ih =>
    by_cases e : a = n + 1
    · subst e; exact Nat.le_refl _
    · have := ih (by omega)
      simp only [sumN]; omega
theorem other_len {a b v : Nat} (h : a ≠ b) : (other (v : Int) ((a : Int), (b : Int))).length = (if v = a then 1 else 0) + (if v = b then 1 else 0) := by
  unfold other
  by_cases h1 : v = a
  · subst h1
    rw [if_pos rfl, if_pos rfl, if_neg h]; rfl
  · by_cases h2 : v = b
    · subst h2
      rw [if_neg (fun e => h1 (by have e' : (a : Int) = v := e; omega)), if_pos rfl, if_neg h1, if_pos rfl]; rfl
    · rw [if_neg (fun e => h1 (by have e' : (a : Int) = v := e; omega)), if_neg (fun e => h2 (by have e' : (b : Int) = v := e; omega)), if_neg h1, if_neg h2]; rfl
theorem deg_sum (m : Nat) : ∀ es : List (Int × Int), (∀ e ∈ es, 0 ≤ e.1 ∧ e.1 < e.2 ∧ e.2 < m) → sumN (fun v => (nbL v es).length) m = 2 * es.length
  | [], _ => sumN_zero m
  | e :: es, h => by
    have h0 := h e (by simp)
    have ih := deg_sum m es (fun x hx => h x (by simp [hx]))
    obtain ⟨a, ha⟩ : ∃ a : Nat, e.1 = a := ⟨e.1.toNat, by omega⟩
    obtain ⟨b, hb⟩ : ∃ b : Nat, e.2 = b := ⟨e.2.toNat, by omega⟩
    have he : e = ((a : Int), (b : Int)) := by rw [← ha, ← hb]
    have hab : a ≠ b := by omega
    rw [sumN_congr (g := fun v => ((if v = a then 1 else 0) + (if v = b then 1 else 0)) + (nbL v es).length) (fun v => by
      show (other (v : Int) e ++ nbL v es).length = _
      rw [List.length_append, he, other_len hab])]
    rw [sumN_add, sumN_add, sumN_at, sumN_at, ih, if_pos (by omega), if_pos (by omega)]
    simp; omega
end Go.Proofs.Ytlebimolgienkaa
namespace Go.Proofs.Ytlebimolgienkaa
open Go.RowKit Go.Lib

theorem Try.info4 : (Try.prog.info? 4).map (fun i => (i.zero, i.size, i.bytes)) = some (some (.bool false), 1, 1) := by kernel_rfl
/-- A row of truths that may be written, place by place. -/
def RowB (w : World) (g n : Nat) (c : Nat → Bool) : Prop := g < w.heap.size ∧ ∀ j, j < n → w.cell? ⟨g, j, none⟩ = some (.bool (c j)) ∧ w.frozen? ⟨g, j, none⟩ = false
theorem RowB.put {w : World} {g n : Nat} {c : Nat → Bool} (h : RowB w g n c) {i : Nat} (hi : i < n) (x : Bool) : RowB (w.setCell ⟨g, i, none⟩ (.bool x)) g n (fun j => if j = i then x else c j) := by
  refine ⟨by simpa using h.1, fun j hj => ?_⟩
  obtain ⟨a, fa⟩ := h.2 j hj
  simp only [World.frozen?_setCell]
  refine ⟨?_, fa⟩
  by_cases e : j = i
  · subst e
    rw [if_pos rfl]
    exact World.cell?_setCell_same' _ _ _ (by rw [a]; rfl)
  · rw [if_neg e, World.cell?_setCell_other _ _ _ _ (by simp <;> omega)]
    exact a
theorem RowB.congr {w : World} {g n : Nat} {c d : Nat → Bool} (h : RowB w g n c) (e : ∀ j, j < n → c j = d j) : RowB w g n d := ⟨h.1, fun j hj => by rw [← e j hj]; exact h.2 j hj⟩
theorem RowB.below {w w' : World} {g n : Nat} {c : Nat → Bool} (h : RowB w g n c) (hB : Below w.heap.size w w') : RowB w' g n c := by
  refine ⟨Nat.lt_of_lt_of_le h.1 hB.size, fun j hj => ⟨(hB.cell (p := ⟨g, j, none⟩) h.1).trans (h.2 j hj).1, ?_⟩⟩
  rw [← (h.2 j hj).2]
  unfold World.frozen?
  rw [hB.block g h.1]
theorem RowB.drew {w : World} {g n : Nat} {c : Nat → Bool} (h : RowB w g n c) : RowB w.drew g n c := h
theorem made_bools (n : Nat) : (madeCells (Value.bool false).cells (n * 1)).toList = List.replicate n (.bool false) := by
  apply List.ext_getElem
  · simp [madeCells]
  · intro i h1 h2
    simp [madeCells, Value.cells, Nat.mod_one]
theorem rowB_made {w : World} {base g n : Nat} {e : TypeId} (h : w.ownsRow base e 1 (.slice (some ⟨g, 0, none⟩) n n) n (madeCells (Value.bool false).cells (n * 1)).toList) : RowB w g n (fun _ => false) := by
  rw [made_bools] at h
  have hg : g < w.heap.size := (h.lt g rfl).2
  refine ⟨hg, fun j hj => ?_⟩
  rcases h.2 with ⟨hv, _⟩ | ⟨g', cap, cur, hv, _, hgb, _⟩
  · simp at hv
  · simp only [Value.slice.injEq, Option.some.injEq, Addr.mk.injEq, and_true, true_and] at hv
    obtain ⟨rfl, _⟩ := hv
    have := h.cells (g := g) rfl j (.bool false) (by rw [List.getElem?_replicate, if_pos hj])
    rw [add_at, Nat.zero_add] at this
    exact ⟨this, frozen_of_heap hgb _⟩
end Go.Proofs.Ytlebimolgienkaa
namespace Go.Proofs.Ytlebimolgienkaa
open Go.RowKit Go.Lib

/-- append of one value where there is room, as one step of a region that draws. -/
theorem step_append_put {P : Program} {ops : Array Oper} {o : Oper} {a : Act} {w : World} {K : Act → World → Prop} {Q : Exit → Act → World → Prop} {E : Prop}
    (hg : o.guard = none) (s x : Operand) (t : TypeId) (hop : o.op = Op.call { callee := Callee.builtin Builtin.append, args := #[s, x], argTypes := #[t, t] })
    (e : TypeId) (i : TypeInfo) (h1 : P.underlying t = some (.slice e)) (h2 : P.info? e = some i) (h4 : i.size = 1)
    (b off n cap : Nat) (hs : a.eval s = .slice (some ⟨b, off, none⟩) n cap)
    (g : Nat) (c : Nat) (u : Value) (hx : a.eval x = .slice (some ⟨g, 0, none⟩) 1 c) (hc : w.cell? ⟨g, 0, none⟩ = some u) (h1c : u.oneCell' = true)
    (hroom : n < cap) (hspare : (w.cell? ⟨b, off + n, none⟩).isSome = true ∧ w.frozen? ⟨b, off + n, none⟩ = false)
    (hK : ∀ w', Hid (w' = w.setCell ⟨b, off + n, none⟩ u) → K (a.put o.dst (.slice (some ⟨b, off, none⟩) (n + 1) cap)) w') :
    if Region.wanted o (yielded ops a.tmps) = true then Oper.wp P o a w K Q else E := by
  refine step_append_room hg s x t hop e i 1 h1 h2 h4 b off n cap hs ⟨g, 0, none⟩ 1 c [u] hx rfl (fun j v hj => ?_) (fun v hv => by simp at hv; rw [hv]; exact h1c) (by omega) (fun j hj => ?_) ?_
  · cases j with
    | zero => simp at hj; subst hj; exact hc
    | succ j => simp at hj
  · obtain rfl : j = 0 := by simp at hj; exact hj
    simpa using hspare
  · rw [Nat.mul_one]
    exact hK _ rfl

/-- Rows in block R, each in a room of its own, headers in block N. -/
structure NB (w : World) (N R m T : Nat) (dg off : Nat → Nat) (B : Nat → List Int) : Prop where
  ltN : N < w.heap.size
  ne : N ≠ R
  hd : ∀ j, j < m → ∃ s, w.cell? ⟨N, j, none⟩ = some (.slice (some ⟨R, s, none⟩) (B j).length (dg j)) ∧ w.frozen? ⟨N, j, none⟩ = false ∧ (0 < dg j → s = off j)
  fit : ∀ j, j < m → (B j).length ≤ dg j
  rm : ∃ c, Row1 w R T c ∧ ∀ j, j < m → ∀ i (h : i < (B j).length), c (off j + i) = (B j)[i]
/-- Rooms that lie behind each other. -/
def Rooms (m T : Nat) (dg off : Nat → Nat) : Prop := (∀ j, j < m → off j + dg j ≤ T) ∧ ∀ i j, i < m → j < m → i < j → off i + dg i ≤ off j
theorem rooms_sum {m T : Nat} {dg : Nat → Nat} (h : sumN dg m = T) : Rooms m T dg (sumN dg) := by
  have hs : ∀ j, sumN dg j + dg j = sumN dg (j + 1) := fun j => rfl
  refine ⟨fun j hj => ?_, fun i j hi hj hij => ?_⟩
  · rw [hs, ← h]; exact sumN_le dg (by omega)
  · rw [hs]; exact sumN_le dg (by omega)
theorem NB.drew {w : World} {N R m T : Nat} {dg off : Nat → Nat} {B : Nat → List Int} (h : NB w N R m T dg off B) : NB w.drew N R m T dg off B := ⟨h.ltN, h.ne, h.hd, h.fit, h.rm⟩
theorem Row1.kept {S : Nat → Prop} {w w' : World} {g n : Nat} {c : Nat → Int} (h : Row1 w g n c) (hk : KeptBut S w w') (hg : ¬ S g) : Row1 w' g n c :=
  ⟨Nat.lt_of_lt_of_le h.1 hk.size, fun j hj => ⟨(hk.cell (p := ⟨g, j, none⟩) h.1 hg).trans (h.2 j hj).1, (hk.frozen (p := ⟨g, j, none⟩) h.1 hg).trans (h.2 j hj).2⟩⟩
theorem NB.alloc {w : World} {N R m T : Nat} {dg off : Nat → Nat} {B : Nat → List Int} (h : NB w N R m T dg off B) (o : Obj) : NB (w.alloc o) N R m T dg off B := by
  have hk := kept_alloc w o (fun _ => False)
  refine ⟨Nat.lt_of_lt_of_le h.ltN hk.size, h.ne, fun j hj => ?_, h.fit, ?_⟩
  · obtain ⟨s, h1, h2, h3⟩ := h.hd j hj
    exact ⟨s, (hk.cell (p := ⟨N, j, none⟩) h.ltN (fun e => e)).trans h1, (hk.frozen (p := ⟨N, j, none⟩) h.ltN (fun e => e)).trans h2, h3⟩
  · obtain ⟨c, h1, h2⟩ := h.rm
    exact ⟨c, h1.alloc o, h2⟩
theorem NB.push {w : World} {N R m T : Nat} {dg off : Nat → Nat} {B : Nat → List Int} (h : NB w N R m T dg off B) (hr : Rooms m T dg off) {j : Nat} (hj : j < m) (hlt : (B j).length < dg j) (x : Int) :
    NB ((w.setCell ⟨R, off j + (B j).length, none⟩ (.int .i64 x)).setCell ⟨N, j, none⟩ (.slice (some ⟨R, off j, none⟩) ((B j).length + 1) (dg j))) N R m T dg off (fun u => if u = j then B j ++ [x] else B u) := by
  obtain ⟨c, hc, hB⟩ := h.rm
  have hroom := hr.1 j hj
  have hput := hc.put (i := off j + (B j).length) (by omega) x
  have hk := kept_set (w.setCell ⟨R, off j + (B j).length, none⟩ (.int .i64 x)) ⟨N, j, none⟩ (.slice (some ⟨R, off j, none⟩) ((B j).length + 1) (dg j))
  refine ⟨by simpa using h.ltN, h.ne, fun u hu => ?_, fun u hu => ?_, ⟨_, hput.kept hk (fun e => h.ne e.symm), fun u hu i hi => ?_⟩⟩
  · obtain ⟨s, h1, h2, h3⟩ := h.hd u hu
    have h1' : (w.setCell ⟨R, off j + (B j).length, none⟩ (.int .i64 x)).cell? ⟨N, u, none⟩ = some (.slice (some ⟨R, s, none⟩) (B u).length (dg u)) := by
      rw [World.cell?_setCell_other _ _ _ _ (fun e => h.ne (congrArg Addr.block e).symm)]; exact h1
    by_cases e : u = j
    · subst e
      simp only [if_pos]
      refine ⟨off u, ?_, by rw [World.frozen?_setCell, World.frozen?_setCell]; exact h2, fun _ => rfl⟩
      rw [List.length_append]
      exact World.cell?_setCell_same' _ _ _ (by rw [h1']; rfl)
    · simp only [if_neg e]
      refine ⟨s, ?_, by rw [World.frozen?_setCell, World.frozen?_setCell]; exact h2, h3⟩
      rw [World.cell?_setCell_other _ _ _ _ (by simp <;> omega)]; exact h1'
  · by_cases e : u = j
    · subst e; simp only [if_pos, List.length_append, List.length_singleton]; omega
    · simp only [if_neg e]; exact h.fit u hu
  · by_cases e : u = j
    · subst e
      simp only [if_pos] at hi ⊢
      rw [List.length_append, List.length_singleton] at hi
      by_cases e2 : i < (B u).length
      · rw [List.getElem_append_left e2, if_neg (by omega)]; exact hB u hu i e2
      · obtain rfl : i = (B u).length := by omega
        rw [if_pos rfl]; simp
    · simp only [if_neg e] at hi ⊢
      have hf := h.fit u hu
      rw [if_neg, hB u hu i hi]
      have := hr.2 u j hu hj
      have := hr.2 j u hj hu
      omega
theorem NB.congr {w : World} {N R m T : Nat} {dg off : Nat → Nat} {B B' : Nat → List Int} (h : NB w N R m T dg off B) (e : ∀ j, j < m → B j = B' j) : NB w N R m T dg off B' :=
  ⟨h.ltN, h.ne, fun j hj => by rw [← e j hj]; exact h.hd j hj, fun j hj => by rw [← e j hj]; exact h.fit j hj, by
    obtain ⟨c, h1, h2⟩ := h.rm
    refine ⟨c, h1, fun j hj i hi => ?_⟩
    have e' := e j hj
    have hi' : i < (B j).length := by rw [e']; exact hi
    rw [h2 j hj i hi']
    congr 1⟩
/-- What holds on the way, while one number more goes to row j (o, n, c: its slice). -/
structure Half (w w4 : World) (N R m T : Nat) (dg off : Nat → Nat) (B : Nat → List Int) (j E o n c : Nat) (x : Int) : Prop where
  hd : w4.cell? ⟨N, j, none⟩ = some (.slice (some ⟨R, o, none⟩) n c) ∧ w4.frozen? ⟨N, j, none⟩ = false
  var : ∀ i, w4.cell? ⟨E, i, none⟩ = w.cell? ⟨E, i, none⟩
  nb : NB (w4.setCell ⟨N, j, none⟩ (.slice (some ⟨R, o, none⟩) (n + 1) c)) N R m T dg off (fun u => if u = j then B j ++ [x] else B u)
  var2 : ∀ i, (w4.setCell ⟨N, j, none⟩ (.slice (some ⟨R, o, none⟩) (n + 1) c)).cell? ⟨E, i, none⟩ = w.cell? ⟨E, i, none⟩
  low : ∀ b w0, b ≤ N → b ≤ R → Below b w0 w → Below b w0 (w4.setCell ⟨N, j, none⟩ (.slice (some ⟨R, o, none⟩) (n + 1) c))
  size : w.heap.size ≤ (w4.setCell ⟨N, j, none⟩ (.slice (some ⟨R, o, none⟩) (n + 1) c)).heap.size
theorem NB.half {w : World} {N R m T : Nat} {dg off : Nat → Nat} {B : Nat → List Int} (h : NB w N R m T dg off B) (hr : Rooms m T dg off) {j : Nat} (hj : j < m) (hlt : (B j).length < dg j) (x : Int) {E : Nat} (hE : E < w.heap.size) (hEN : E ≠ N) (hER : E ≠ R) :
    ∃ o n c, w.cell? ⟨N, j, none⟩ = some (.slice (some ⟨R, o, none⟩) n c) ∧ n < c ∧ (w.drew.alloc (.cells #[.int .i64 x] 3)).cell? ⟨w.heap.size, 0, none⟩ = some (.int .i64 x) ∧
      (((w.drew.alloc (.cells #[.int .i64 x] 3)).cell? ⟨R, o + n, none⟩).isSome = true ∧ (w.drew.alloc (.cells #[.int .i64 x] 3)).frozen? ⟨R, o + n, none⟩ = false) ∧
      ∀ w4, w4 = (w.drew.alloc (.cells #[.int .i64 x] 3)).setCell ⟨R, o + n, none⟩ (.int .i64 x) → Half w w4 N R m T dg off B j E o n c x := by
  have hA := h.drew.alloc (.cells #[.int .i64 x] 3)
  obtain ⟨s, h1, h2, h3⟩ := h.hd j hj
  have hs := h3 (by omega)
  subst hs
  obtain ⟨c, hc, hB⟩ := hA.rm
  have hroom := hr.1 j hj
  obtain ⟨r1, r2⟩ := hc.2 (off j + (B j).length) (by omega)
  obtain ⟨s', g1, g2, g3⟩ := hA.hd j hj
  have hs' := g3 (by omega)
  subst hs'
  refine ⟨off j, (B j).length, dg j, h1, hlt, cell_of_heap (heap_alloc_new w.drew _) 0, ⟨by rw [r1]; rfl, r2⟩, fun w4 hw => ?_⟩
  have hne : ∀ i, (⟨R, off j + (B j).length, none⟩ : Addr) ≠ ⟨N, i, none⟩ := fun i e => h.ne (congrArg Addr.block e).symm
  have hv : ∀ i, w4.cell? ⟨E, i, none⟩ = w.cell? ⟨E, i, none⟩ := fun i => by
    rw [hw, World.cell?_setCell_other _ _ _ _ (fun e => hER (congrArg Addr.block e).symm)]
    exact (kept_alloc w.drew _ (fun _ => False)).cell (p := ⟨E, i, none⟩) hE (fun e => e)
  refine ⟨⟨?_, ?_⟩, hv, ?_, fun i => ?_, fun b w0 hbN hbR hb => ?_, ?_⟩
  · rw [hw, World.cell?_setCell_other _ _ _ _ (hne j)]; exact g1
  · rw [hw, World.frozen?_setCell]; exact g2
  · rw [hw]; exact hA.push hr hj hlt x
  · rw [World.cell?_setCell_other _ _ _ _ (fun e => hEN (congrArg Addr.block e).symm)]; exact hv i
  · rw [hw]
    exact ((hb.drew.alloc (Nat.le_of_lt (Nat.lt_of_le_of_lt hbN h.ltN)) _).setCell (p := ⟨R, off j + (B j).length, none⟩) hbR _).setCell (p := ⟨N, j, none⟩) hbN _
  · rw [hw]; simp
/-- The neighbours of each vertex, in memory. -/
def NearAt (w : World) (g m : Nat) (es : List (Int × Int)) : Prop := g < w.heap.size ∧ ∀ j, j < m → ∃ aj cj, w.cell? ⟨g, j, none⟩ = some (.slice aj (nbL j es).length cj) ∧ IAt w aj (nbL j es) ∧ Slw aj cj (nbL j es).length
theorem NearAt.below {w w' : World} {g m : Nat} {es : List (Int × Int)} (h : NearAt w g m es) (hb : Below w.heap.size w w') : NearAt w' g m es := by
  refine ⟨Nat.lt_of_lt_of_le h.1 hb.size, fun j hj => ?_⟩
  obtain ⟨aj, cj, h1, h2, h3⟩ := h.2 j hj
  exact ⟨aj, cj, (hb.cell (p := ⟨g, j, none⟩) h.1).trans h1, h2.below hb, h3⟩
theorem NB.near {w : World} {N R m T : Nat} {dg off : Nat → Nat} {es : List (Int × Int)} (h : NB w N R m T dg off (fun j => nbL j es)) (hr : Rooms m T dg off) : NearAt w N m es := by
  obtain ⟨c, hc, hB⟩ := h.rm
  refine ⟨h.ltN, fun j hj => ?_⟩
  obtain ⟨s, h1, _, h3⟩ := h.hd j hj
  refine ⟨_, _, h1, fun h0 => ?_, h.fit j hj, fun e => by cases e⟩
  have hf := h.fit j hj
  have hs := h3 (by omega)
  subst hs
  refine ⟨R, off j, rfl, hc.1, fun i hi => ?_⟩
  have hrm := hr.1 j hj
  have hi' : off j + i < T := by omega
  rw [(hc.2 _ hi').1, hB j hj i hi]
/-- One edge more. -/
theorem nb_next {es : List (Int × Int)} {k p q : Nat} (hk : k < es.length) (h1 : (p : Int) = es[k].1) (h2 : (q : Int) = es[k].2) (hpq : p < q) (j : Nat) :
    (if j = q then nbL (q : Int) (es.take k) ++ [(p : Int)] else if j = p then nbL (p : Int) (es.take k) ++ [(q : Int)] else nbL (j : Int) (es.take k)) = nbL (j : Int) (es.take (k + 1)) := by
  rw [nbL_take hk]
  unfold other
  rw [← h1, ← h2]
  by_cases e1 : j = q
  · subst e1
    rw [if_pos rfl, if_neg (by omega), if_pos rfl]
  · rw [if_neg e1]
    by_cases e2 : j = p
    · subst e2
      rw [if_pos rfl, if_pos rfl]
    · rw [if_neg e2, if_neg (by omega), if_neg (by omega), List.append_nil]
/-- There is room for one edge more. -/
theorem nb_room {es : List (Int × Int)} {k p q : Nat} (hk : k < es.length) (h1 : (p : Int) = es[k].1) (h2 : (q : Int) = es[k].2) (hpq : p < q) : (nbL (p : Int) (es.take k)).length < (nbL (p : Int) es).length ∧ (nbL (q : Int) (es.take k)).length < (nbL (q : Int) es).length := by
  have hp := (nbL_prefix (p : Int) es (k + 1)).length_le
  have hq := (nbL_prefix (q : Int) es (k + 1)).length_le
  rw [← nb_next hk h1 h2 hpq] at hp hq
  rw [if_neg (by omega), if_pos rfl, List.length_append] at hp
  rw [if_pos rfl, List.length_append] at hq
  simp at hp hq
  omega
end Go.Proofs.Ytlebimolgienkaa
namespace Go.Proofs.Ytlebimolgienkaa
open Go.RowKit Go.Lib

set_option maxHeartbeats 1000000 in
set_option maxRecDepth 100000 in
theorem degreesN_any (n : Int) (a : Option Addr) (cap : Nat) (es : List (Int × Int)) (b : Bool) (w : World) (hN : es.length ≤ 1000000) (hE : EAt w a es) (hb : b = true ↔ RightG n es) :
    Calls Try.prog 117 #[.agg #[.int .i64 n, .slice a es.length cap]] w fun e w' => ∃ a' cap' D, e = .returned (.slice a' D.length cap') ∧ D = (if b = true then (List.range n.toNat).map (fun v : Nat => ((nbL v es).length : Int)) else []) ∧ IAt w' a' D ∧ Below w.heap.size w w' ∧ ∀ g off, a' = some ⟨g, off, none⟩ → w.heap.size ≤ g := by
  obtain ⟨N, hNe⟩ : ∃ N, N = es.length := ⟨_, rfl⟩
  have HR : Hid (∀ W, EAt W a es → Calls Try.prog 36 #[.agg #[.int .i64 n, .slice a N cap]] W fun e w' => e = .returned (.bool b) ∧ Below W.heap.size W w') := fun W h => by rw [hNe]; exact right_any n a cap es b W hN h hb
  rw [← hNe] at hN ⊢
  have HN : Hid (N = es.length) := hNe
  have HE : Hid (EAt w a es) := hE
  have HB : Hid (b = true ↔ RightG n es) := hb
  clear hNe hE hb
  go_enter Try.func117, Try.ntmps117
  have hbA : Below w.heap.size w (w.alloc (.cells #[.int .i64 n, .slice a N cap] 26)) := (Below.refl _ _).alloc (Nat.le_refl _) _
  have HEA : Hid (EAt (w.alloc (.cells #[.int .i64 n, .slice a N cap] 26)) a es) := HE.out.below hbA
  have hOA : (w.alloc (.cells #[.int .i64 n, .slice a N cap] 26)).heap[w.heap.size]? = some (.cells #[.int .i64 n, .slice a N cap] 26) := heap_alloc_new _ _
  have hsA : (w.alloc (.cells #[.int .i64 n, .slice a N cap] 26)).heap.size = w.heap.size + 1 := by simp
  have HOA : Hid ((w.alloc (.cells #[.int .i64 n, .slice a N cap] 26)).heap[w.heap.size]? = some (.cells #[.int .i64 n, .slice a N cap] 26)) := hOA
  clear hOA
  go_wp2_with fail
  refine (HR.out _ HEA.out).mono ?_
  rintro e w1 ⟨rfl, hb1⟩
  rw [hsA] at hb1
  have hbw : Below w.heap.size w w1 := hbA.trans (hb1.mono (by omega))
  have o1 := (hb1.block w.heap.size (by omega)).trans HOA.out
  have HE1 : Hid (EAt w1 a es) := HE.out.below hbw
  have hs1 := hb1.size
  rw [hsA] at hs1
  have c0 := cell_of_heap o1 0
  have c1 := cell_of_heap o1 1
  clear hb1 hbA hsA HR HEA HOA
  cases b with
  | false =>
    go_wp2
    go_ret
    exact ⟨none, 0, [], rfl, rfl, iat_nil _ _, hbw, fun g off h => by cases h⟩
  | true =>
    have HRG : Hid (RightG n es) := HB.out.1 rfl
    obtain ⟨m, rfl⟩ : ∃ m : Nat, n = m := ⟨n.toNat, by have := HRG.out.1; omega⟩
    have hm : m ≤ 1000 := by have := HRG.out.2.1; omega
    have hNN : N ≤ 4000 := by have := HRG.out.2.2.1; rw [← HN.out] at this; exact this
    obtain ⟨i0, hi, hz0, hz1, hz2⟩ := info_parts Try.info3
    obtain ⟨w2, hrun, hown, hgrow⟩ := run_make_full (P := Try.prog) w1 w1.heap.size 28 3 i0 (.int .i64 0) 1 Try.underlying28 hi hz0 hz1 .i64 .i64 m (by rw [hz2]; omega) (by unfold maxLen; omega) (Nat.le_refl _)
    have hs2 : w1.heap.size < w2.heap.size := by
      rcases hown.2 with ⟨hv, _⟩ | ⟨g', cap, cur, hv, _, hgb, _⟩
      · simp at hv
      · simp only [Value.slice.injEq, Option.some.injEq, Addr.mk.injEq, and_true, true_and] at hv
        obtain ⟨rfl, _⟩ := hv
        exact (Array.getElem?_eq_some_iff.1 hgb).1
    have HRW : Hid (Row1 w2 w1.heap.size m (fun v => ((nbL (v : Int) (es.take 0)).length : Int))) := (row1_made hown hs2).congr (fun j _ => by simp [nbL])
    have hb2 : Below w1.heap.size w1 w2 := Below.grown (Below.refl _ _) hgrow (Nat.le_refl _) (fun k hk => by cases hk)
    have c1' : w2.cell? ⟨w.heap.size, 1, none⟩ = some (.slice a N cap) := (hb2.cell (p := ⟨w.heap.size, 1, none⟩) (by simp; omega)).trans c1
    have HRN : Hid (∀ W, W = w1 → (Instr.makeSlice 28 (.int .i64 m) (.int .i64 m)).run Try.prog W = .ok (.slice (some ⟨w1.heap.size, 0, none⟩) m m) w2) := fun W h => by rw [h]; exact hrun
    clear hown hgrow hi hz0 hz1 hz2 HB c1 HRN
    go_wp2
    go_loopw [15] (fun i wr => ∃ k : Nat, k ≤ N ∧ i = .int .i64 k ∧ Hid (Row1 wr w1.heap.size m (fun v => ((nbL (v : Int) (es.take k)).length : Int))) ∧ Below w1.heap.size w1 wr) (fun i _ => N - (RowKit.intOf i).toNat)
    case atStart => exact ⟨0, Nat.zero_le _, rfl, HRW, hb2⟩
    case round =>
      obtain ⟨k, hk, rfl, hrow, hbr⟩ := hrel
      by_cases hlt : k < N
      · have hkr : k < es.length := by rw [← HN.out]; exact hlt
        obtain ⟨g, off, rfl, hg, hcs⟩ := HE1.out.at hkr
        have hin := (HRG.out.at k hkr).1
        obtain ⟨p, hp⟩ : ∃ p : Nat, (p : Int) = es[k].1 := ⟨es[k].1.toNat, by omega⟩
        obtain ⟨q, hq⟩ : ∃ q : Nat, (q : Int) = es[k].2 := ⟨es[k].2.toNat, by omega⟩
        have d := hcs wr hbr k hkr
        rw [← hp, ← hq] at d hin
        obtain ⟨d0, d1⟩ := d
        have i1 : p < q := by omega
        have i2 : q < m := by omega
        have HD := deg_next (m := m) hkr hp hq i1
        obtain ⟨x1, hx1⟩ := ex_eq (nbL (p : Int) (es.take k)).length
        obtain ⟨x2, hx2⟩ := ex_eq (nbL (q : Int) (es.take k)).length
        have hl1 : x1 ≤ 4000 := by rw [hx1]; exact Nat.le_trans (nbL_len _ _) (by rw [List.length_take]; omega)
        have hl2 : x2 ≤ 4000 := by rw [hx2]; exact Nat.le_trans (nbL_len _ _) (by rw [List.length_take]; omega)
        obtain ⟨c, hc⟩ := ex_eq (fun v : Nat => ((nbL (v : Int) (es.take k)).length : Int))
        rw [← hc] at hrow
        have hcp : c p = x1 := by rw [hc, hx1]
        have hcq : c q = x2 := by rw [hc, hx2]
        have hrA := hrow.out.alloc (.cells #[.int .i64 p, .int .i64 q] 56)
        have r1 := hrA.2 p (by omega)
        have HR1 := hrA.put (i := p) (by omega) ((x1 : Int) + 1)
        have r2 := HR1.2 q i2
        rw [hcp] at r1
        have hqq : (fun j => if j = p then (x1 : Int) + 1 else c j) q = (x2 : Int) := by
          show (if q = p then (x1 : Int) + 1 else c q) = (x2 : Int)
          rw [if_neg (by omega), hcq]
        rw [hqq] at r2
        have HR2 := HR1.put (i := q) i2 ((x2 : Int) + 1)
        have HRX : Hid (Row1 (((wr.alloc (.cells #[.int .i64 p, .int .i64 q] 56)).setCell ⟨w1.heap.size, p, none⟩ (.int .i64 ((x1 : Int) + 1))).setCell ⟨w1.heap.size, q, none⟩ (.int .i64 ((x2 : Int) + 1))) w1.heap.size m (fun v => ((nbL (v : Int) (es.take (k + 1))).length : Int))) := HR2.congr (fun j hj => by
          rw [← HD j hj, hx1, hx2, hc])
        obtain ⟨r1, r1f⟩ := r1
        obtain ⟨r2, r2f⟩ := r2
        have hbX : Below w1.heap.size w1 (((wr.alloc (.cells #[.int .i64 p, .int .i64 q] 56)).setCell ⟨w1.heap.size, p, none⟩ (.int .i64 ((x1 : Int) + 1))).setCell ⟨w1.heap.size, q, none⟩ (.int .i64 ((x2 : Int) + 1))) := ((hbr.alloc hbr.size _).setCell (p := ⟨w1.heap.size, p, none⟩) (Nat.le_refl _) _).setCell (p := ⟨w1.heap.size, q, none⟩) (Nat.le_refl _) _
        have hsr : w1.heap.size < wr.heap.size := hrow.out.1
        have bx1 : ((wr.alloc (.cells #[.int .i64 p, .int .i64 q] 56)).setCell ⟨w1.heap.size, p, none⟩ (.int .i64 ((x1 : Int) + 1))).cell? ⟨wr.heap.size, 1, none⟩ = some (.int .i64 q) := by
          rw [World.cell?_setCell_other _ _ _ _ (by simp <;> omega)]
          exact cell_of_heap (heap_alloc_new _ _) 1
        have q1 : (p : Int) < (m : Int) := by omega
        have q2 : (q : Int) < (m : Int) := by omega
        clear hsr hqq HD hx1 hx2 hc hcp hcq hrA HR1 HR2 hp hq hin hcs hrow
        go_wp2
        go_roundw
        case rel => exact ⟨k + 1, by omega, by go_num, HRX, hbX⟩
        case measure => simp [RowKit.intOf]; omega
      · obtain rfl : k = N := by omega
        have htk : es.take k = es := by rw [HN.out, List.take_length]
        rw [htk] at hrow
        go_wp2
        go_ret
        have hl : ((List.range m).map (fun v : Nat => ((nbL (v : Int) es).length : Int))).length = m := by simp
        refine ⟨some ⟨w1.heap.size, 0, none⟩, m, (List.range m).map (fun v : Nat => ((nbL (v : Int) es).length : Int)), by rw [hl]; rfl, ?_, hrow.out.iat, hbw.trans (hbr.mono (by omega)), fun g off h => by cases h; omega⟩
        simp
end Go.Proofs.Ytlebimolgienkaa
