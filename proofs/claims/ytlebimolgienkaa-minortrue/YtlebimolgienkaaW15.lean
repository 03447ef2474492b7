/-
  slices.Repeat of one number, of one truth: a new row with it at each place.
  The program's homes: of each vertex the set that it is in.
-/
import Derived.Test.YtlebimolgienkaaW05
import Derived.Test.YtlebimolgienkaaW07
import Derived.Test.YtlebimolgienkaaW01
import Derived.Laws.CopyOwn
import Derived.Test.YtlebimolgienkaaW03
namespace Go.Proofs.Ytlebimolgienkaa
open Go.RowKit Go.Lib Go.Shelf

/-- A row that was just made, whole. -/
theorem own_full {w : World} {base g m : Nat} {e : TypeId} {z : Value} (h : w.ownsRow base e 1 (.slice (some ⟨g, 0, none⟩) m m) m (List.replicate m z)) : w.heap[g]? = some (.cells (List.replicate m z).toArray e (0, 0)) := by
  rcases h.2 with ⟨hv, _⟩ | ⟨g', cap, cur, hv, h3, hgb, h5, h6, h7, h8⟩
  · simp at hv
  · simp only [Value.slice.injEq, Option.some.injEq, Addr.mk.injEq, and_true, true_and] at hv
    obtain ⟨rfl, rfl⟩ := hv
    rw [hgb]
    have : cur = (List.replicate m z).toArray := by
      rw [← h8, List.take_of_length_le (by rw [Array.length_toList, h7]; exact Nat.le_refl _)]
    rw [this]
theorem splice_rep {x z : Value} {n c m : Nat} : splice (List.replicate n x ++ List.replicate (m - n) z) n (List.replicate c x) = List.replicate (n + c) x ++ List.replicate (m - (n + c)) z := by
  unfold splice
  rw [List.take_append_of_le_length (by simp), List.drop_append]
  simp
  rw [← List.append_assoc, List.replicate_append_replicate]
  congr 2
  omega
/-- What a copy's cells must be, where there are any. -/
def CpOk (w : World) (cs : List Value) (dp sp : Option Addr) (g off : Nat) : Prop := 0 < cs.length → dp = some ⟨g, off, none⟩ ∧ ∃ ad, sp = some ad ∧ ∀ j v, cs[j]? = some v → w.cell? (ad.add j) = some v
theorem rep_cell {w : World} {g m k : Nat} {x z : Value} {t : TypeId} (h : w.heap[g]? = some (.cells (List.replicate k x ++ List.replicate (m - k) z).toArray t (0, 0))) {j : Nat} (hj : j < k) : w.cell? ⟨g, j, none⟩ = some x := by
  rw [cell_of_heap h]
  simp [List.getElem?_append_left, hj]

set_option maxHeartbeats 1000000 in
set_option maxRecDepth 100000 in
theorem rep_int (s o c : Nat) (x : Int) (m : Nat) (w : World) (hm : m ≤ 1000) (hc : w.cell? ⟨s, o, none⟩ = some (Value.int .i64 x)) :
    Calls Try.prog 88 #[.slice (some ⟨s, o, none⟩) 1 c, .int .i64 m] w fun e w' => ∃ g, e = .returned (.slice (some ⟨g, 0, none⟩) m m) ∧ w.heap.size ≤ g ∧ Row1 w' g m (fun _ => x) ∧ Below w.heap.size w w' := by
  have hs := block_lt_of_cell hc
  have hmul := Any.bits_Mul Try.mul 1 m (by omega) (by omega) w
  change Calls Try.prog 120 _ _ _ at hmul
  rw [show 1 * m / 18446744073709551616 = 0 by omega, show 1 * m % 18446744073709551616 = m by omega] at hmul
  obtain ⟨i0, hi, hz0, hz1, hz2⟩ := info_parts Try.info3
  obtain ⟨w2, hrun, hown, hgrow⟩ := run_make_full (P := Try.prog) w w.heap.size 28 3 i0 (Value.int .i64 0) 1 Try.underlying28 hi hz0 hz1 .i64 .i64 m (by rw [hz2]; omega) (by unfold maxLen; omega) (Nat.le_refl _)
  have hb2 : Below w.heap.size w w2 := Below.grown (Below.refl _ _) hgrow (Nat.le_refl _) (fun k hk => by cases hk)
  rw [made_ints] at hown
  have hlt := (hown.lt _ rfl).2
  have hful := own_full hown
  have HSZ : Hid ((Try.prog.info? 3).map (·.size) = some 1) := by
    show Option.map _ _ = _
    rw [hi]; exact congrArg some hz1
  have c2 := (hb2.cell (p := ⟨s, o, none⟩) hs).trans hc
  have qm : (m : Int) ≤ 9223372036854775807 := by omega
  have qw : IntKind.u64.wrap (m : Int) = (m : Int) := by simp [IntKind.wrap, IntKind.bits, IntKind.signed]; omega
  have qv : IntKind.i64.wrap (m : Int) = (m : Int) := by simp [IntKind.wrap, IntKind.bits, IntKind.signed]; omega
  have HMUL := hid hmul
  obtain ⟨C, hC⟩ := ex_eq (Nat.min 1 m)
  have hC1 : C ≤ 1 := by rw [hC]; exact Nat.min_le_left _ _
  have hC2 : C ≤ m := by rw [hC]; exact Nat.min_le_right _ _
  have HC0 : Hid (C = 0 → m = 0) := fun h => by rw [h] at hC; have : Nat.min 1 m = min 1 m := rfl; omega
  have HNN : Hid ((List.replicate C (Value.int .i64 x)).length = Nat.min 1 m) := by show _ = _; rw [List.length_replicate, hC]
  have HPOS : Hid (CpOk w2 (List.replicate C (Value.int .i64 x)) (some ⟨w.heap.size, 0, none⟩) (some ⟨s, o, none⟩) w.heap.size 0) := fun _ => ⟨rfl, ⟨s, o, none⟩, rfl, fun j v hj => by
    rw [List.getElem?_replicate] at hj
    by_cases e : j < C
    · rw [if_pos e] at hj
      obtain rfl : j = 0 := by omega
      cases hj
      exact c2
    · rw [if_neg e] at hj; cases hj⟩
  have HFIT : Hid (0 + (List.replicate C (Value.int .i64 x)).length ≤ (List.replicate m (Value.int .i64 0)).length) := by show _ ≤ _; simp; exact hC2
  have HON : Hid (∀ v ∈ List.replicate C (Value.int .i64 x), v.oneCell' = true) := fun v hv => by rw [(List.mem_replicate.1 hv).2]; rfl
  obtain ⟨cs, hcs⟩ := ex_eq (List.replicate C (Value.int .i64 x))
  have HCS := hid hcs
  rw [← hcs] at HNN HPOS HFIT HON
  have HFUL := hid hful
  have HB2 := hid hb2
  have hcl : cs.length = C := by rw [hcs]; simp
  clear hown hgrow hz0 hz2 hful hcs hC hc c2
  go_enter Try.func88, Try.ntmps88
  go_wp2_with (first
    | (go_at_call 120; refine HMUL.out.mono ?_; rintro e w' ⟨rfl, hw'⟩; rw [hw']; clear hw')
    | (refine wpList_copy_splice rfl _ _ _ _ rfl 3 Try.underlying28 HSZ.out _ _ _ _ _ _ rfl rfl w.heap.size 0 (List.replicate m (Value.int .i64 0)) 3 HFUL.out cs HNN.out HPOS.out HFIT.out HON.out w.heap.size w HB2.out (Nat.le_refl _) ?_; intro w5 HG5 hB5; rw [hcl]))
  have HG6 : Hid (w5.heap[w.heap.size]? = some (.cells (List.replicate C (Value.int .i64 x) ++ List.replicate (m - C) (Value.int .i64 0)).toArray 3 (0, 0))) := by
    show _ = _
    rw [HG5.out, HCS.out]
    have := splice_rep (x := Value.int .i64 x) (z := Value.int .i64 0) (n := 0) (c := C) (m := m)
    simp only [List.replicate_zero, List.nil_append, Nat.sub_zero, Nat.zero_add] at this
    rw [this]
  clear HG5 HCS HNN HPOS HFIT HON HFUL HB2 HMUL hcl
  go_wp2
  go_loopw [8] (fun i wr => ∃ k : Nat, C ≤ k ∧ k ≤ m ∧ i = .int .i64 k ∧ Hid (wr.heap[w.heap.size]? = some (.cells (List.replicate k (Value.int .i64 x) ++ List.replicate (m - k) (Value.int .i64 0)).toArray 3 (0, 0))) ∧ Below w.heap.size w wr) (fun i _ => m - (RowKit.intOf i).toNat)
  case atStart => exact ⟨C, Nat.le_refl _, hC2, rfl, HG6, hB5⟩
  case round =>
    obtain ⟨k, hk1, hk2, rfl, hG, hbr⟩ := hrel
    by_cases hlt2 : k < m
    · have hkp : 1 ≤ k := by
        by_cases e : C = 0
        · have := HC0.out e; omega
        · omega
      obtain ⟨E, hE⟩ := ex_eq (Nat.min k (m - k))
      have hE1 : E ≤ k := by rw [hE]; exact Nat.min_le_left _ _
      have hE2 : E ≤ m - k := by rw [hE]; exact Nat.min_le_right _ _
      have hE3 : 1 ≤ E := by rw [hE]; exact Nat.le_min.2 ⟨hkp, by omega⟩
      have HNN : Hid ((List.replicate E (Value.int .i64 x)).length = Nat.min k (m - k)) := by show _ = _; rw [List.length_replicate, hE]
      have HPOS : Hid (CpOk wr.drew (List.replicate E (Value.int .i64 x)) (some ⟨w.heap.size, k, none⟩) (some ⟨w.heap.size, 0, none⟩) w.heap.size k) := fun _ => ⟨rfl, ⟨w.heap.size, 0, none⟩, rfl, fun j v hj => by
        rw [List.getElem?_replicate] at hj
        by_cases e : j < E
        · rw [if_pos e] at hj
          cases hj
          rw [add_at, Nat.zero_add]
          exact rep_cell (w := wr) hG.out (by omega)
        · rw [if_neg e] at hj; cases hj⟩
      have HFIT : Hid (k + (List.replicate E (Value.int .i64 x)).length ≤ (List.replicate k (Value.int .i64 x) ++ List.replicate (m - k) (Value.int .i64 0)).length) := by show _ ≤ _; simp; omega
      have HON : Hid (∀ v ∈ List.replicate E (Value.int .i64 x), v.oneCell' = true) := fun v hv => by rw [(List.mem_replicate.1 hv).2]; rfl
      obtain ⟨cs, hcs⟩ := ex_eq (List.replicate E (Value.int .i64 x))
      obtain ⟨cur, hcur⟩ := ex_eq (List.replicate k (Value.int .i64 x) ++ List.replicate (m - k) (Value.int .i64 0))
      have HCS := hid hcs
      have HCUR := hid hcur
      rw [← hcs] at HNN HPOS HFIT HON
      rw [← hcur] at HFIT hG
      have HGD : Hid (wr.drew.heap[w.heap.size]? = some (.cells cur.toArray 3 (0, 0))) := hG
      have HBD : Hid (Below w.heap.size w wr.drew) := hbr.drew
      have hcl : cs.length = E := by rw [hcs]; simp
      have q1 : (k : Int) < (m : Int) := by omega
      have q2 : (k : Int) ≤ (m : Int) := by omega
      have q3 : ¬ m = k := by omega
      clear hcs hcur hE hG
      go_wp2_with fail
      go_region_law (refine step_copy_splice rfl (.tmp 41) (.tmp 44) 28 28 rfl 3 Try.underlying28 HSZ.out (some ⟨w.heap.size, k, none⟩) (some ⟨w.heap.size, 0, none⟩) (m - k) (m - k) k m (by simp [Act.eval, Act.put]) (by simp [Act.eval, Act.put]) w.heap.size k cur 3 HGD.out cs HNN.out HPOS.out HFIT.out HON.out w.heap.size w HBD.out (Nat.le_refl _) ?_; intro w6 HG7 hB6)
      all_goals
        have HG8 : Hid (w6.heap[w.heap.size]? = some (.cells (List.replicate (k + E) (Value.int .i64 x) ++ List.replicate (m - (k + E)) (Value.int .i64 0)).toArray 3 (0, 0))) := by
          show _ = _
          rw [HG7.out, HCS.out, HCUR.out, splice_rep]
        clear HG7 HCS HCUR HNN HPOS HFIT HON HGD HBD
        try simp only [List.getElem_toArray, List.getElem_cons_succ, List.getElem_cons_zero]
        try simp only [Act.put, List.setIfInBounds_toArray, List.set_cons_zero, List.set_cons_succ]
        have hwr : IntKind.i64.wrap ((k : Int) + (E : Int)) = ((k + E : Nat) : Int) := by simp [IntKind.wrap, IntKind.bits, IntKind.signed]; omega
        go_wp2
        go_roundw
        case rel => exact ⟨k + E, by omega, by omega, by go_num, HG8, hB6⟩
        case measure => simp [RowKit.intOf]; omega
    · obtain rfl : k = m := by omega
      have HRow1 : Hid (Row1 wr w.heap.size k (fun _ => x)) := ⟨(Array.getElem?_eq_some_iff.1 hG.out).1, fun j hj => ⟨rep_cell hG.out hj, frozen_of_heap hG.out _⟩⟩
      clear hG
      go_wp2
      go_ret
      exact ⟨w.heap.size, rfl, Nat.le_refl _, HRow1.out, hbr⟩

end Go.Proofs.Ytlebimolgienkaa
namespace Go.Proofs.Ytlebimolgienkaa
open Go.RowKit Go.Lib

/-- x was seen in set i: the sets ahead of k are done, and of set k the first j. -/
def SeenAt (Ss : List (List Int)) (k j : Nat) (x : Int) (i : Nat) : Prop := (i < k ∧ x ∈ Ss.getD i []) ∨ (i = k ∧ x ∈ (Ss.getD k []).take j)
/-- What is laid so far. -/
structure HomeTo (n : Nat) (Ss : List (List Int)) (k j : Nat) (D : Nat → Int) : Prop where
  is : ∀ x : Nat, x < n → ∀ i : Nat, D x = (i : Int) ↔ SeenAt Ss k j x i
  low : ∀ x : Nat, x < n → D x = -1 ∨ ∃ i : Nat, D x = (i : Int)
theorem home_zero (n : Nat) (Ss : List (List Int)) : HomeTo n Ss 0 0 (fun _ => -1) :=
  ⟨fun x _ i => ⟨fun h => by omega, fun h => by rcases h with ⟨h, _⟩ | ⟨_, h⟩; (· omega); (· simp at h)⟩, fun _ _ => Or.inl rfl⟩
theorem HomeTo.row {n k j : Nat} {Ss : List (List Int)} {D : Nat → Int} (h : HomeTo n Ss k j D) (hj : (Ss.getD k []).length ≤ j) : HomeTo n Ss (k + 1) 0 D := by
  refine ⟨fun x hx i => ?_, h.low⟩
  rw [h.is x hx i]
  unfold SeenAt
  rw [List.take_of_length_le hj, List.take_zero]
  constructor
  · rintro (⟨h1, h2⟩ | ⟨rfl, h2⟩)
    · exact Or.inl ⟨by omega, h2⟩
    · exact Or.inl ⟨by omega, h2⟩
  · rintro (⟨h1, h2⟩ | ⟨_, h2⟩)
    · by_cases e : i = k
      · subst e; exact Or.inr ⟨rfl, h2⟩
      · exact Or.inl ⟨by omega, h2⟩
    · cases h2
theorem getD_at {Ss : List (List Int)} {k : Nat} (hk : k < Ss.length) : Ss.getD k [] = Ss[k] := by rw [List.getD_eq_getElem?_getD, List.getElem?_eq_getElem hk]; rfl
theorem HomeTo.put {n k j v : Nat} {Ss : List (List Int)} {D : Nat → Int} (h : HomeTo n Ss k j D) (hk : k < Ss.length) (hj : j < Ss[k].length) (hv : Ss[k][j] = (v : Int)) (hn : D v = -1) : HomeTo n Ss k (j + 1) (fun x => if x = v then (k : Int) else D x) := by
  have hm : ∀ x : Int, x ∈ (Ss.getD k []).take (j + 1) ↔ x ∈ (Ss.getD k []).take j ∨ x = (v : Int) := fun x => by
    rw [getD_at hk, ← List.take_append_getElem hj, List.mem_append, hv]; simp
  refine ⟨fun x hx i => ?_, fun x hx => ?_⟩
  · have hs : SeenAt Ss k (j + 1) x i ↔ SeenAt Ss k j x i ∨ (i = k ∧ x = v) := by
      unfold SeenAt
      rw [hm]
      constructor
      · rintro (h1 | ⟨h1, h2 | h2⟩)
        · exact Or.inl (Or.inl h1)
        · exact Or.inl (Or.inr ⟨h1, h2⟩)
        · exact Or.inr ⟨h1, by omega⟩
      · rintro ((h1 | ⟨h1, h2⟩) | ⟨h1, h2⟩)
        · exact Or.inl h1
        · exact Or.inr ⟨h1, Or.inl h2⟩
        · exact Or.inr ⟨h1, Or.inr (by omega)⟩
    rw [hs, ← h.is x hx i]
    by_cases e : x = v
    · subst e
      simp only [if_true, hn]
      constructor
      · intro h1; exact Or.inr ⟨by omega, trivial⟩
      · rintro (h1 | ⟨h1, _⟩)
        · omega
        · rw [h1]
    · simp only [if_neg e]
      constructor
      · exact Or.inl
      · rintro (h1 | ⟨_, h1⟩)
        · exact h1
        · exact absurd h1 e
  · by_cases e : x = v
    · exact Or.inr ⟨k, by simp only [if_pos e]⟩
    · simp only [if_neg e]; exact h.low x hx
/-- No vertex is in two sets. -/
def ApartS (Ss : List (List Int)) : Prop := ∀ i j, i < j → ∀ x, x ∈ Ss.getD i [] → x ∉ Ss.getD j []
theorem HomeTo.two {n k j v : Nat} {Ss : List (List Int)} {D : Nat → Int} (h : HomeTo n Ss k j D) (hk : k < Ss.length) (hj : j < Ss[k].length) (hv : Ss[k][j] = (v : Int)) (hvn : v < n) (hnd : Ss[k].Nodup) (hn : D v ≠ -1) : ¬ ApartS Ss := fun ha => by
  rcases h.low v hvn with h1 | ⟨i, h1⟩
  · exact hn h1
  · rcases (h.is v hvn i).1 h1 with ⟨h2, h3⟩ | ⟨h2, h3⟩
    · refine ha i k h2 v h3 ?_
      rw [getD_at hk, ← hv]; exact List.getElem_mem hj
    · rw [getD_at hk] at h3
      obtain ⟨q, hq, e⟩ := List.mem_iff_getElem.1 h3
      rw [List.length_take] at hq
      rw [List.getElem_take] at e
      exact List.pairwise_iff_getElem.1 hnd q j (by omega) hj (by omega) (e.trans hv.symm)
theorem HomeTo.wf {n : Nat} {Ss : List (List Int)} {D : Nat → Int} (h : HomeTo n Ss Ss.length 0 D) (hS : Ss.length ≤ 1000) : ∀ x, x < n → (Lit.int .i64 (D x)).wf = true := fun x hx => by
  have hb : -1 ≤ D x ∧ D x < 1000 := by
    rcases h.low x hx with h1 | ⟨i, h1⟩
    · omega
    · rcases (h.is x hx i).1 h1 with ⟨h2, _⟩ | ⟨_, h2⟩
      · omega
      · simp at h2
  exact WalkArith.wf_i64 (by omega)
theorem HomeTo.all {n : Nat} {Ss : List (List Int)} {D : Nat → Int} (h : HomeTo n Ss Ss.length 0 D) (hin : ∀ i, ∀ x ∈ Ss.getD i [], 0 ≤ x ∧ x < (n : Int)) : HomeIs n Ss (fun x => D x.toNat) ∧ ApartS Ss := by
  have key : ∀ x : Nat, x < n → ∀ i : Nat, D x = (i : Int) ↔ i < Ss.length ∧ (x : Int) ∈ Ss.getD i [] := fun x hx i => by
    rw [h.is x hx i]
    unfold SeenAt
    constructor
    · rintro (h1 | ⟨_, h2⟩)
      · exact h1
      · simp at h2
    · exact Or.inl
  refine ⟨fun x h0 h1 i hi => ?_, fun i j hij x hx hy => ?_⟩
  · have := key x.toNat (by omega) i
    rw [Int.toNat_of_nonneg h0] at this
    rw [this]
    exact ⟨fun h => h.2, fun h => ⟨hi, h⟩⟩
  · have ix := hin i x hx
    have e1 := (key x.toNat (by omega) i).2 ⟨mem_getD hx, by rw [Int.toNat_of_nonneg ix.1]; exact hx⟩
    have e2 := (key x.toNat (by omega) j).2 ⟨mem_getD hy, by rw [Int.toNat_of_nonneg ix.1]; exact hy⟩
    omega

set_option maxHeartbeats 4000000 in
set_option maxRecDepth 100000 in
theorem homes_any (n : Nat) (a : Option Addr) (cap : Nat) (Ss : List (List Int)) (w : World) (hn : n ≤ 1000) (hS : Ss.length ≤ 1000) (hL : LLAt w a Ss) (hin : ∀ i, ∀ x ∈ Ss.getD i [], 0 ≤ x ∧ x < (n : Int)) (hnd : ∀ S ∈ Ss, S.Nodup) :
    Calls Try.prog 48 #[.int .i64 n, .slice a Ss.length cap] w fun e w' => ((∃ g D, e = .returned (.tuple #[.slice (some ⟨g, 0, none⟩) n n, .bool true]) ∧ Row1 w' g n D ∧ w.heap.size ≤ g ∧ HomeIs n Ss (fun x => D x.toNat) ∧ ApartS Ss ∧ ∀ x, x < n → (Lit.int .i64 (D x)).wf = true) ∨ (e = .returned (.tuple #[.slice none 0 0, .bool false]) ∧ ¬ ApartS Ss)) ∧ Below w.heap.size w w' := by
  have HL0 := hid hL
  have HIN := hid hin
  have HND := hid hnd
  obtain ⟨M, hM⟩ := ex_eq Ss.length
  have HM := hid hM
  obtain ⟨W1, hW1⟩ := ex_eq (w.alloc (.cells #[.int .i64 (-1)] 3))
  have hb1 : Below w.heap.size w W1 := by rw [hW1]; exact (Below.refl _ _).alloc (Nat.le_refl _) _
  have hs1 : W1.heap.size = w.heap.size + 1 := by rw [hW1]; simp
  have CR := hid (rep_int w.heap.size 0 1 (-1) n W1 hn (by rw [hW1, cell_of_heap (heap_alloc_new w _)]; rfl))
  have HW1 := hid hW1
  have HB1 := hid hb1
  have hlen : ∀ k, k < Ss.length → (Ss.getD k []).length ≤ 1000 := fun k hk => by
    have h1 := hnd _ (getD_mem hk)
    have := len_le_subI h1 (b := (List.range n).map (fun i : Nat => (i : Int))) (fun x hx => by
      have := hin k x hx
      exact List.mem_map.2 ⟨x.toNat, by rw [List.mem_range]; omega, by omega⟩)
    rw [List.length_map, List.length_range] at this
    omega
  have HLEN := hid hlen
  rw [← hM] at hS ⊢
  clear hL hin hnd hM hW1 hb1 hlen
  go_enter Try.func48, Try.ntmps48
  go_wp2_with fail
  rw [← HW1.out]
  refine CR.out.mono ?_
  rintro e w2 ⟨g, rfl, hg, hrow, hb2⟩
  have hgw : w.heap.size ≤ g := by omega
  have hbw2 : Below w.heap.size w w2 := HB1.out.trans (hb2.mono HB1.out.size)
  have HRW := hid hrow
  have HB2 := hid hbw2
  clear CR hrow hb2 hbw2 hs1
  go_wp2
  go_loopw [16] (fun i wz => ∃ k : Nat, k ≤ M ∧ i = .int .i64 k ∧ Hid (∃ D, Row1 wz g n D ∧ HomeTo n Ss k 0 D) ∧ Hid (Below w.heap.size w wz)) (fun i _ => M - (RowKit.intOf i).toNat)
  case atStart => exact ⟨0, Nat.zero_le _, rfl, ⟨_, HRW.out, home_zero n Ss⟩, HB2.out⟩
  case round =>
    clear HRW HB2
    obtain ⟨k, hk, rfl, hD, hb⟩ := hrel
    by_cases hlt : k < M
    · have hkr : k < Ss.length := by rw [← HM.out]; exact hlt
      obtain ⟨ga, off, ak, ck, rfl, c00, hI0⟩ := HL0.out.at hkr
      have c0 := (hb.out.cell (p := ⟨ga, off + k, none⟩) (block_lt_of_cell c00)).trans c00
      have hgk : Ss.getD k [] = Ss[k] := getD_at hkr
      obtain ⟨J, hJ⟩ := ex_eq Ss[k].length
      have hJl : J ≤ 1000 := by rw [hJ, ← hgk]; exact HLEN.out k hkr
      rw [← hJ] at c0
      have HIX : Hid (∀ X, Below w.heap.size w X → IAt X ak Ss[k]) := fun X hX => hI0.below hX
      have HJ : Hid (J = Ss[k].length) := hJ
      have q1 : (k : Int) < (M : Int) := by omega
      have HGK := hid hgk
      clear hJ hI0 c00 hgk
      go_wp2
      clear c0
      go_loopw [23] (fun i wz => ∃ j : Nat, j ≤ J ∧ i = .int .i64 j ∧ Hid (∃ D, Row1 wz g n D ∧ HomeTo n Ss k j D) ∧ Hid (Below w.heap.size w wz)) (fun i _ => J - (RowKit.intOf i).toNat)
      case atStart => exact ⟨0, Nat.zero_le _, rfl, hD, hb⟩
      case round =>
        clear hD hb
        obtain ⟨j, hj, rfl, hD, hb⟩ := hrel
        by_cases hlj : j < J
        · have hjr : j < Ss[k].length := by rw [← HJ.out]; exact hlj
          obtain ⟨gs, os, rfl, hgs, hcs⟩ := HIX.out wr hb.out (by omega)
          have d0 := hcs j hjr
          have hvi := HIN.out k (Ss[k][j]) (by rw [HGK.out]; exact List.getElem_mem hjr)
          obtain ⟨v, hv⟩ : ∃ v : Nat, Ss[k][j] = (v : Int) := ⟨(Ss[k][j]).toNat, by omega⟩
          have hvn : v < n := by omega
          rw [hv] at d0
          obtain ⟨D, hrow, hto⟩ := hD.out
          obtain ⟨y0, yf⟩ := hrow.2 v hvn
          have q2 : (j : Int) < (J : Int) := by omega
          have q3 : (v : Int) < (n : Int) := by omega
          by_cases hneg : D v = -1
          · rw [hneg] at y0
            have HNX : Hid (∃ D, Row1 (wr.setCell ⟨g, v, none⟩ (.int .i64 k)) g n D ∧ HomeTo n Ss k (j + 1) D) := ⟨_, hrow.put hvn (k : Int), hto.put hkr hjr hv hneg⟩
            have HBX : Hid (Below w.heap.size w (wr.setCell ⟨g, v, none⟩ (.int .i64 k))) := hb.out.setCell (p := ⟨g, v, none⟩) hgw _
            clear hcs hvi hv hrow hto hneg hD hb
            go_wp2
            go_roundw
            case rel => exact ⟨j + 1, by omega, by go_num, HNX, HBX⟩
            case measure => simp [RowKit.intOf]; omega
          · obtain ⟨c, hc⟩ := ex_eq (D v)
            rw [← hc] at y0 hneg
            have q4 : (c != -1) = true := by simp [bne, hneg]
            have HNO : Hid (¬ ApartS Ss) := hto.two hkr hjr hv hvn (HND.out _ (List.getElem_mem hkr)) (by rw [← hc]; exact hneg)
            clear hcs hvi hv hrow hto hD hc
            go_wp2
            go_ret2
            exact ⟨Or.inr ⟨rfl, HNO.out⟩, hb.out⟩
        · obtain rfl : j = J := by omega
          have HNX : Hid (∃ D, Row1 wr g n D ∧ HomeTo n Ss (k + 1) 0 D) := by
            obtain ⟨D, h1, h2⟩ := hD.out
            exact ⟨D, h1, h2.row (by rw [HGK.out, ← HJ.out]; exact Nat.le_refl _)⟩
          clear hD
          go_wp2
          go_roundw
          case rel => exact ⟨k + 1, by omega, by go_num, HNX, hb⟩
          case measure => simp [RowKit.intOf]; omega
    · obtain rfl : k = M := by omega
      have HFI : Hid (∃ D, Row1 wr g n D ∧ HomeIs n Ss (fun x => D x.toNat) ∧ ApartS Ss ∧ ∀ x, x < n → (Lit.int .i64 (D x)).wf = true) := by
        obtain ⟨D, h1, h2⟩ := hD.out
        rw [HM.out] at h2
        exact ⟨D, h1, (h2.all HIN.out).1, (h2.all HIN.out).2, h2.wf (by rw [← HM.out]; exact hS)⟩
      clear hD
      go_wp2
      go_ret2
      obtain ⟨D, h1, h2, h3⟩ := HFI.out
      exact ⟨Or.inl ⟨g, D, rfl, h1, hgw, h2, h3⟩, hb.out⟩
end Go.Proofs.Ytlebimolgienkaa
