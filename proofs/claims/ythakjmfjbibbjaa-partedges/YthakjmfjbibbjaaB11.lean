/-
  The document's Any: a graph that is right, from anything.
  A row of truths that the call has made, place by place.
-/
import Derived.Test.YthakjmfjbibbjaaB10
import Derived.Test.YthakjmfjbibbjaaB05
import Derived.Test.YthakjmfjbibbjaaB02
namespace Go.Proofs.Ythakjmfjbibbjaa
open Go.RowKit Go.Lib

theorem and_low (n : Int) : bits .and .i64 n 65535 = n % 65536 := by
  have hm : (BitVec.ofInt 64 65535).toNat = 2 ^ 16 - 1 := by decide
  have e : (BitVec.ofInt 64 n &&& BitVec.ofInt 64 65535).toNat = (n % ((2 ^ 64 : Nat) : Int)).toNat % 2 ^ 16 := by
    rw [BitVec.toNat_and, BitVec.toNat_ofInt, hm, Nat.and_two_pow_sub_one_eq_mod]
  show IntKind.i64.wrap ((BitVec.ofInt 64 n &&& BitVec.ofInt 64 65535).toNat : Nat) = n % 65536
  rw [e, IntKind.wrap_i64]
  omega
theorem rnd_of (x : Int) {m : Nat} (hm : 0 < m) : ∃ p : Nat, (bits .and .i64 x 65535).tmod (m : Int) = (p : Int) ∧ p < m := by
  rw [and_low]
  have h0 : 0 ≤ x % 65536 := by omega
  obtain ⟨a, ha⟩ := Int.eq_ofNat_of_zero_le h0
  rw [ha]
  refine ⟨a % m, ?_, Nat.mod_lt _ hm⟩
  rw [Int.tmod_eq_emod_of_nonneg (by omega)]
  exact (Int.natCast_emod a m).symm
theorem allIn_put {n : Int} {l : List (Int × Int)} {p q : Int} (h : AllIn n l) (hp : 0 ≤ p ∧ p < n) (hq : 0 ≤ q ∧ q < n) : AllIn n (l ++ [(p, q)]) := fun e he => by
  rcases List.mem_append.1 he with h1 | h1
  · exact h e h1
  · simp at h1; subst h1; exact ⟨hp, hq⟩
/-- Told edges, each between two of m vertices, lie behind each other in a row of the call's own. -/
structure Told (w : World) (base m k : Nat) (v : Value) (P : List (Int × Int)) : Prop where
  own : w.ownsRow base 45 2 v P.length (cellsE P)
  all : AllIn m P
  len : P.length ≤ k
  pos : 0 < m ∨ P = []
theorem told_nil (w : World) (base m : Nat) : Told w base m 0 (.slice none 0 0) [] := ⟨World.ownsRow_nil _ _ _ _, fun e he => absurd he (by simp), Nat.le_refl _, Or.inr rfl⟩
theorem Told.put {w w4 : World} {base m k p q : Nat} {v v4 : Value} {P : List (Int × Int)} (h : Told w base m k v P) (hp : p < m) (hq : q < m) (ho : w4.ownsRow base 45 2 v4 (P.length + 1) (cellsE P ++ [.int .i64 p, .int .i64 q])) : Told w4 base m (k + 1) v4 (P ++ [((p : Int), (q : Int))]) :=
  ⟨by rw [cellsE_append, List.length_append]; exact ho, allIn_put h.all ⟨by omega, by omega⟩ ⟨by omega, by omega⟩, by have := h.len; simp; omega, Or.inl (by omega)⟩
theorem normE_told {m : Nat} {P ys : List (Int × Int)} {er : Int} (h : NormE m P er ys) (hm : m ≤ 1000) (ha : AllIn m P) (hl : P.length ≤ 4000) : er = 0 ∧ IsNorm P ys ∧ ys.length ≤ P.length ∧ RightG m ys := by
  rcases h with ⟨h, _⟩ | ⟨h, _⟩ | ⟨_, h, _⟩ | ⟨_, _, _, _, zs, hz, hzl⟩ | ⟨h1, h2, h3, hz, hzl⟩
  · omega
  · omega
  · exact absurd ha h
  · have := hz.len; omega
  · exact ⟨h3, hz, hz.len, hz.right h2 h1.1 h1.2 hzl⟩

set_option maxHeartbeats 4000000 in
set_option maxRecDepth 100000 in
theorem any_any (n0 : Int) (a : Option Addr) (N cap : Nat) (l : List (Int × Int)) (most : Nat) (w : World) (hmost : most ≤ 1000) (hl : N = l.length) (hE : EAt w a l) :
    Calls Try.prog 24 #[.int .i64 n0, .slice a N cap, .int .i64 most] w fun e w' => ∃ (m : Nat) (ys : List (Int × Int)) (a' : Option Addr) (cap' : Nat), e = .returned (.agg #[.int .i64 m, .slice a' ys.length cap']) ∧ m ≤ most ∧ RightG m ys ∧ ys.length ≤ 300 ∧ Sl a' cap' ys.length ∧ EAt w' a' ys ∧ Below w.heap.size w w' := by
  obtain ⟨i1, hj, hy0, hy1, hy2⟩ := info_parts Try.info45
  obtain ⟨m, hm0, hm1⟩ := rnd_of n0 (m := most + 1) (by omega)
  have HM : Hid ((bits .and .i64 n0 65535).tmod ((most : Int) + 1) = (m : Int)) := by
    show _ = _
    rw [← hm0]; rfl
  have HE : Hid (EAt w a l) := hE
  have HN : Hid (N = l.length) := hl
  have hmost0 : (0 : Int) ≤ (most : Int) := by omega
  have hmost1 : (most : Int) ≤ 1000 := by omega
  have hmost2 : ¬ (most : Int) + 1 = 0 := by omega
  obtain ⟨W1, hW1⟩ := ex_eq (w.alloc (.cells #[.int .i64 0, .slice none 0 0] 38))
  have HW1 := hid hW1
  have hB1 : Below w.heap.size w W1 := by rw [hW1]; exact below_new _ _
  have hs1 : W1.heap.size = w.heap.size + 1 := by rw [hW1]; simp
  have HO1 : Hid (W1.heap[w.heap.size]? = some (.cells #[.int .i64 0, .slice none 0 0] 38)) := by
    show _ = _
    rw [hW1]; exact heap_alloc_new _ _
  clear hE hl hm0 hW1
  go_enter Try.func24, Try.ntmps24
  go_wp2
  rw [HM.out, ← HW1.out]
  clear HM HW1 hmost0 hmost1 hmost2
  go_loopg [7, 8] 300 (fun G v i wz => ∃ k : Nat, k ≤ 300 ∧ 300 - k ≤ G ∧ i = .int .i64 k ∧ Hid (∃ P, Told wz (w.heap.size + 1) m k v P) ∧ Below (w.heap.size + 1) W1 wz)
  case atStart => exact ⟨0, Nat.zero_le _, by omega, rfl, ⟨_, told_nil _ _ _⟩, Below.refl _ _⟩
  case round =>
    obtain ⟨k, hk, hG, rfl, hto, hb2⟩ := hrel
    have hszr := hb2.size
    rw [hs1] at hszr
    have hbw : Below w.heap.size w wr := hB1.trans (hb2.mono (by omega))
    by_cases hgo : k < N ∧ k < 300 ∧ 0 < m
    · obtain ⟨hlt, hk3, hmp⟩ := hgo
      have hkr : k < l.length := by rw [← HN.out]; exact hlt
      obtain ⟨g, off, rfl, d0, d1⟩ := (HE.out.below hbw).at' hkr
      obtain ⟨e1, he1⟩ := ex_eq l[k].1
      obtain ⟨e2, he2⟩ := ex_eq l[k].2
      rw [← he1] at d0
      rw [← he2] at d1
      have HC : Hid (∀ X, Below w.heap.size w X → X.cell? ⟨g, off + k * 2, none⟩ = some (.int .i64 e1) ∧ X.cell? ⟨g, off + k * 2 + 1, none⟩ = some (.int .i64 e2)) := fun X hX => by
        obtain ⟨g', off', ha', z0, z1⟩ := (HE.out.below hX).at' hkr
        cases ha'
        rw [he1, he2]; exact ⟨z0, z1⟩
      clear he1 he2
      obtain ⟨p, hp, hpm⟩ := rnd_of e1 hmp
      obtain ⟨q, hq, hqm⟩ := rnd_of e2 hmp
      obtain ⟨P, hP⟩ := hto.out
      obtain ⟨aS, cs, hsv, hsl, _⟩ := eat_own hP.own
      subst hsv
      have HTO := hid hP
      have HSL : Hid (aS = none → P.length = 0 ∧ cs = 0) := fun ha => by have h1 := hsl.2.1 ha; have h2 := hsl.1; exact ⟨by omega, h1⟩
      have hPl := hP.len
      obtain ⟨K, hK⟩ := ex_eq P.length
      have HK := hid hK
      have q1 : (k : Int) < (N : Int) := by omega
      have q2 : (k : Int) < 300 := by omega
      have q3 : (0 : Int) < (m : Int) := by omega
      have q4 : ¬ (m : Int) = 0 := by omega
      have q5 : (0 : Int) ≤ (k : Int) := by omega
      have q6 : ¬ m = 0 := by omega
      rw [← hK] at hPl
      have HOW : Hid ((wr.drew.alloc (.cells #[.int .i64 p, .int .i64 q] 45)).ownsRow (w.heap.size + 1) 45 2 (.slice aS K cs) K (cellsE P)) := by
        have h := HTO.out.own
        rw [← hK] at h
        exact World.ownsRow.alloc (w := wr.drew) h _
      have HNW : Hid (∀ i v, [Value.int .i64 (p : Int), .int .i64 (q : Int)][i]? = some v → (wr.drew.alloc (.cells #[.int .i64 p, .int .i64 q] 45)).cell? ((⟨wr.heap.size, 0, none⟩ : Addr).add i) = some v) := cells_two (heap_alloc_new wr.drew _)
      have HON : Hid (∀ v ∈ [Value.int .i64 (p : Int), .int .i64 (q : Int)], v.oneCell' = true) := fun v hv => by simp at hv; rcases hv with rfl | rfl <;> rfl
      have H63 : Hid (K + 1 ≤ maxLen) := by show K + 1 ≤ maxLen; unfold maxLen; omega
      have HBY : Hid ((K + 1) * 16 ≤ 140737488355328) := by show (K + 1) * 16 ≤ 140737488355328; omega
      have HBS : Hid (w.heap.size + 1 ≤ (wr.drew.alloc (.cells #[.int .i64 p, .int .i64 q] 45)).heap.size) := by show w.heap.size + 1 ≤ _; simp; omega
      have HKP : Hid (∀ w4, (wr.drew.alloc (.cells #[.int .i64 p, .int .i64 q] 45)).grownBy w4 (Value.slice aS K cs).ownBlock → Below (w.heap.size + 1) W1 w4) := fun w4 hg => by
        refine Below.grown (hb2.drew.alloc (by show w.heap.size + 1 ≤ wr.heap.size; omega) _) hg (by simp; omega) (fun b hb => ?_)
        rw [hK] at hb
        exact (HTO.out.own.lt b hb).1
      have hS := hid2 (show wr.drew.cell? ⟨g, off + k * 2, none⟩ = some (.int .i64 e1) from d0) (show wr.drew.cell? ⟨g, off + k * 2 + 1, none⟩ = some (.int .i64 e2) from d1)
      have hSA := hid2 (cell_alloc_old hS.1 (Obj.cells #[.int .i64 p, .int .i64 q] 45 (0, 0))) (cell_alloc_old hS.2 (Obj.cells #[.int .i64 p, .int .i64 q] 45 (0, 0)))
      clear hK hP hsl hto
      rw [← HK.out]
      go_wp2_with fail
      go_region_held3 (fun X => X.cell? ⟨g, off + k * 2, none⟩ = some (.int .i64 e1) ∧ X.cell? ⟨g, off + k * 2 + 1, none⟩ = some (.int .i64 e2)) (first | exact hS | exact hSA | trivial)
        (first | (refine step_append_any _ rfl (.tmp 30) (.tmp 48) 36 rfl (w.heap.size + 1) 45 i1 _ 2 16 Try.underlying36 hj hy0 hy1 hy2 rfl (by decide) (.slice aS K cs) K (cellsE P) (by simp [Act.eval]) HOW.out (some ⟨wr.heap.size, 0, none⟩) 1 1 [.int .i64 p, .int .i64 q] (by simp [Act.eval]) (fun h => by cases h) rfl (fun p hp => by cases hp; exact HNW.out) HON.out H63.out HBY.out HBS.out ?_; intro v4 w4 hown4 hgrow _; have hb4 := HKP.out _ hgrow; have hS := HC.out _ (hB1.trans (hb4.mono (Nat.le_succ _)))))
      all_goals
        have HNX : Hid (∃ P, Told w4 (w.heap.size + 1) m (k + 1) v4 P) := ⟨_, HTO.out.put hpm hqm (by rw [← HK.out]; exact hown4)⟩
        clear hown4 hgrow hS hSA HOW HNW HON H63 HBY HBS HKP HC hj hy0 hy1 hy2 d0 d1
        go_wp2
        go_roundg (300 - (k + 1))
        case measure => omega
        case rel => exact ⟨k + 1, by omega, Nat.le_refl _, by go_num, HNX, hb4⟩
    · obtain ⟨P, hP⟩ := hto.out
      obtain ⟨aS, cs, hsv, hsl, hea⟩ := eat_own hP.own
      subst hsv
      have HTO := hid hP
      obtain ⟨K, hK⟩ := ex_eq P.length
      have HK := hid hK
      have HRN : Hid (Calls Try.prog 43 #[.int .i64 m, .slice aS K cs] wr fun e w' => ∃ ys a' cap', e = .returned (.tuple #[.agg #[.int .i64 m, .slice a' ys.length cap'], .int .i64 0]) ∧ RightG m ys ∧ ys.length ≤ 300 ∧ Sl a' cap' ys.length ∧ EAt w' a' ys ∧ Below wr.heap.size wr w') := by
        show Calls _ _ _ _ _
        have h3 := hP.len
        rw [hK]
        exact (rnormal_any m aS cs P wr (by omega) hea).mono fun _ _ ⟨er, ys, a', cap', h1, h2, h3, h4, h5⟩ => by
          obtain ⟨rfl, g1, g2, g3⟩ := normE_told h2 (by omega) hP.all (by omega)
          exact ⟨ys, a', cap', h1, g3, by omega, h3, h4, h5⟩
      rw [← hK]
      clear hK hP hsl hea hto hj hy0 hy1 hy2
      have hway : ¬ (k : Int) < (N : Int) ∨ ((k : Int) < (N : Int) ∧ ¬ (k : Int) < 300) ∨ ((k : Int) < (N : Int) ∧ (k : Int) < 300 ∧ ¬ 0 < (m : Int)) := by omega
      clear hgo
      rcases hway with v1 | ⟨v1, v2⟩ | ⟨v1, v2, v3⟩
      all_goals
        go_wp2_with fail
        refine HRN.out.mono ?_
        rintro e w5 ⟨ys, a5, c5, rfl, hR5, hl5, hs5, hE5, hb5⟩
        obtain ⟨M, hM⟩ := ex_eq ys.length
        rw [← hM]
        have HM := hid hM
        obtain ⟨V5, hV5⟩ := ex_eq (w5.alloc (.cells #[.int .i64 m, .slice a5 M c5] 38))
        have hbV5 : Below w5.heap.size w5 V5 := by rw [hV5]; exact below_new _ _
        have HG5 : Hid (GC V5 w5.heap.size m a5 M c5 ys) := by
          show GC V5 _ _ _ _ _ _
          rw [hV5]; exact gc_new hE5
        have hBX5 : Below wr.heap.size wr V5 := hb5.trans (hbV5.mono hb5.size)
        have HB5 : Hid (Below w.heap.size w V5) := hbw.trans (hBX5.mono hbw.size)
        have HR5 := hid hR5
        have HL5 := hid hl5
        have HS5 := hid hs5
        have hO5 : V5.heap[w.heap.size]? = some (.cells #[.int .i64 0, .slice none 0 0] 38) := (hBX5.block _ (by omega)).trans ((hb2.block _ (by omega)).trans HO1.out)
        have HNE := hid (eat_off_box hO5 HG5.out.at_)
        obtain ⟨x0, x1⟩ := two_cells hO5
        have xf := frozen_of_heap hO5
        obtain ⟨g0, g1⟩ := HG5.out.cells
        rw [hV5] at g0 g1 x0 x1 xf
        have HV5 := hid hV5
        clear hM hE5 hb5 hbV5 hBX5 hR5 hl5 hs5 hO5 hV5 hb2 hbw
        go_wp2
        rw [← HV5.out]
        rw [← HV5.out] at x0 x1
        refine bodyPost_ret (v := .agg #[.int .i64 m, .slice a5 M c5]) ?_ rfl ⟨m, ys, a5, c5, by rw [← HM.out], by omega, HR5.out, HL5.out, HS5.out, (HG5.out.at_.set (p := ⟨w.heap.size, 0, none⟩) HNE.out _).set (p := ⟨w.heap.size, 1, none⟩) HNE.out _, (HB5.out.setCell (p := ⟨w.heap.size, 0, none⟩) (by simp) _).setCell (p := ⟨w.heap.size, 1, none⟩) (by simp) _⟩
        rw [results_cell1 rfl]
        go_simp
end Go.Proofs.Ythakjmfjbibbjaa
namespace Go.Proofs.Ythakjmfjbibbjaa
open Go.RowKit Go.Lib

theorem Try.info4 : (Try.prog.info? 4).map (fun i => (i.zero, i.size, i.bytes)) = some (some (.bool false), 1, 1) := by kernel_rfl
/-- A row of truths that may be written, place by place. -/
def RowB (w : World) (g n : Nat) (c : Nat → Bool) : Prop := g < w.heap.size ∧ ∀ j, j < n → w.cell? ⟨g, j, none⟩ = some (.bool (c j)) ∧ w.frozen? ⟨g, j, none⟩ = false
theorem RowB.put {w : World} {g n : Nat} {c : Nat → Bool} (h : RowB w g n c) {i : Nat} (hi : i < n) (x : Bool) : RowB (w.setCell ⟨g, i, none⟩ (.bool x)) g n (fun j => if j = i then x else c j) := by
  refine ⟨by simpa using h.1, fun j hj => ?_⟩
  obtain ⟨a, fa⟩ := h.2 j hj
  simp only [World.frozen?_setCell]
  refine ⟨?_, fa⟩
  by_cases e : j = i
  · subst e
    rw [if_pos rfl]
    exact World.cell?_setCell_same' _ _ _ (by rw [a]; rfl)
  · rw [if_neg e, World.cell?_setCell_other _ _ _ _ (by simp <;> omega)]
    exact a
theorem RowB.congr {w : World} {g n : Nat} {c d : Nat → Bool} (h : RowB w g n c) (e : ∀ j, j < n → c j = d j) : RowB w g n d := ⟨h.1, fun j hj => by rw [← e j hj]; exact h.2 j hj⟩
theorem RowB.below {w w' : World} {g n : Nat} {c : Nat → Bool} (h : RowB w g n c) (hB : Below w.heap.size w w') : RowB w' g n c := by
  refine ⟨Nat.lt_of_lt_of_le h.1 hB.size, fun j hj => ⟨(hB.cell (p := ⟨g, j, none⟩) h.1).trans (h.2 j hj).1, ?_⟩⟩
  rw [← (h.2 j hj).2]
  unfold World.frozen?
  rw [hB.block g h.1]
theorem RowB.drew {w : World} {g n : Nat} {c : Nat → Bool} (h : RowB w g n c) : RowB w.drew g n c := h
theorem made_bools (n : Nat) : (madeCells (Value.bool false).cells (n * 1)).toList = List.replicate n (.bool false) := by
  apply List.ext_getElem
  · simp [madeCells]
  · intro i h1 h2
    simp [madeCells, Value.cells, Nat.mod_one]
theorem rowB_made {w : World} {base g n : Nat} {e : TypeId} (h : w.ownsRow base e 1 (.slice (some ⟨g, 0, none⟩) n n) n (madeCells (Value.bool false).cells (n * 1)).toList) : RowB w g n (fun _ => false) := by
  rw [made_bools] at h
  have hg : g < w.heap.size := (h.lt g rfl).2
  refine ⟨hg, fun j hj => ?_⟩
  rcases h.2 with ⟨hv, _⟩ | ⟨g', cap, cur, hv, _, hgb, _⟩
  · simp at hv
  · simp only [Value.slice.injEq, Option.some.injEq, Addr.mk.injEq, and_true, true_and] at hv
    obtain ⟨rfl, _⟩ := hv
    have := h.cells (g := g) rfl j (.bool false) (by rw [List.getElem?_replicate, if_pos hj])
    rw [add_at, Nat.zero_add] at this
    exact ⟨this, frozen_of_heap hgb _⟩
end Go.Proofs.Ythakjmfjbibbjaa
