/-
  slices.Repeat of one number, of one truth: a new row with it at each place.
  The program's distances: a search, one vertex behind the other.
  The small case that the laws of layer 5 begin with answers true.
  The program's Delete and Contract keep their contracts.
-/
import Derived.Test.YtlebimolgienkaaT09
import Derived.Test.YtlebimolgienkaaT11
import Derived.Test.YtlebimolgienkaaT01
import Derived.Laws.CopyOwn
import Derived.Test.YtlebimolgienkaaT15
import Derived.Test.YtlebimolgienkaaT05
import Derived.Test.YtlebimolgienkaaT07
import Derived.Test.YtlebimolgienkaaT02
namespace Go.Proofs.Ytlebimolgienkaa
open Go.RowKit Go.Lib Go.Shelf

/-- A row that was just made, whole. -/
theorem own_full {w : World} {base g m : Nat} {e : TypeId} {z : Value} (h : w.ownsRow base e 1 (.slice (some ⟨g, 0, none⟩) m m) m (List.replicate m z)) : w.heap[g]? = some (.cells (List.replicate m z).toArray e (0, 0)) := by
  rcases h.2 with ⟨hv, _⟩ | ⟨g', cap, cur, hv, h3, hgb, h5, h6, h7, h8⟩
  · simp at hv
  · simp only [Value.slice.injEq, Option.some.injEq, Addr.mk.injEq, and_true, true_and] at hv
    obtain ⟨rfl, rfl⟩ := hv
    rw [hgb]
    have : cur = (List.replicate m z).toArray := by
      rw [← h8, List.take_of_length_le (by rw [Array.length_toList, h7]; exact Nat.le_refl _)]
    rw [this]
theorem splice_rep {x z : Value} {n c m : Nat} : splice (List.replicate n x ++ List.replicate (m - n) z) n (List.replicate c x) = List.replicate (n + c) x ++ List.replicate (m - (n + c)) z := by
  unfold splice
  rw [List.take_append_of_le_length (by simp), List.drop_append]
  simp
  rw [← List.append_assoc, List.replicate_append_replicate]
  congr 2
  omega
/-- What a copy's cells must be, where there are any. -/
def CpOk (w : World) (cs : List Value) (dp sp : Option Addr) (g off : Nat) : Prop := 0 < cs.length → dp = some ⟨g, off, none⟩ ∧ ∃ ad, sp = some ad ∧ ∀ j v, cs[j]? = some v → w.cell? (ad.add j) = some v
theorem rep_cell {w : World} {g m k : Nat} {x z : Value} {t : TypeId} (h : w.heap[g]? = some (.cells (List.replicate k x ++ List.replicate (m - k) z).toArray t (0, 0))) {j : Nat} (hj : j < k) : w.cell? ⟨g, j, none⟩ = some x := by
  rw [cell_of_heap h]
  simp [List.getElem?_append_left, hj]

set_option maxHeartbeats 1000000 in
set_option maxRecDepth 100000 in
theorem rep_int (s o c : Nat) (x : Int) (m : Nat) (w : World) (hm : m ≤ 1000) (hc : w.cell? ⟨s, o, none⟩ = some (Value.int .i64 x)) :
    Calls Try.prog 88 #[.slice (some ⟨s, o, none⟩) 1 c, .int .i64 m] w fun e w' => ∃ g, e = .returned (.slice (some ⟨g, 0, none⟩) m m) ∧ w.heap.size ≤ g ∧ Row1 w' g m (fun _ => x) ∧ Below w.heap.size w w' := by
  have hs := block_lt_of_cell hc
  have hmul := Any.bits_Mul Try.mul 1 m (by omega) (by omega) w
  change Calls Try.prog 120 _ _ _ at hmul
  rw [show 1 * m / 18446744073709551616 = 0 by omega, show 1 * m % 18446744073709551616 = m by omega] at hmul
  obtain ⟨i0, hi, hz0, hz1, hz2⟩ := info_parts Try.info3
  obtain ⟨w2, hrun, hown, hgrow⟩ := run_make_full (P := Try.prog) w w.heap.size 28 3 i0 (Value.int .i64 0) 1 Try.underlying28 hi hz0 hz1 .i64 .i64 m (by rw [hz2]; omega) (by unfold maxLen; omega) (Nat.le_refl _)
  have hb2 : Below w.heap.size w w2 := Below.grown (Below.refl _ _) hgrow (Nat.le_refl _) (fun k hk => by cases hk)
  rw [made_ints] at hown
  have hlt := (hown.lt _ rfl).2
  have hful := own_full hown
  have HSZ : Hid ((Try.prog.info? 3).map (·.size) = some 1) := by
    show Option.map _ _ = _
    rw [hi]; exact congrArg some hz1
  have c2 := (hb2.cell (p := ⟨s, o, none⟩) hs).trans hc
  have qm : (m : Int) ≤ 9223372036854775807 := by omega
  have qw : IntKind.u64.wrap (m : Int) = (m : Int) := by simp [IntKind.wrap, IntKind.bits, IntKind.signed]; omega
  have qv : IntKind.i64.wrap (m : Int) = (m : Int) := by simp [IntKind.wrap, IntKind.bits, IntKind.signed]; omega
  have HMUL := hid hmul
  obtain ⟨C, hC⟩ := ex_eq (Nat.min 1 m)
  have hC1 : C ≤ 1 := by rw [hC]; exact Nat.min_le_left _ _
  have hC2 : C ≤ m := by rw [hC]; exact Nat.min_le_right _ _
  have HC0 : Hid (C = 0 → m = 0) := fun h => by rw [h] at hC; have : Nat.min 1 m = min 1 m := rfl; omega
  have HNN : Hid ((List.replicate C (Value.int .i64 x)).length = Nat.min 1 m) := by show _ = _; rw [List.length_replicate, hC]
  have HPOS : Hid (CpOk w2 (List.replicate C (Value.int .i64 x)) (some ⟨w.heap.size, 0, none⟩) (some ⟨s, o, none⟩) w.heap.size 0) := fun _ => ⟨rfl, ⟨s, o, none⟩, rfl, fun j v hj => by
    rw [List.getElem?_replicate] at hj
    by_cases e : j < C
    · rw [if_pos e] at hj
      obtain rfl : j = 0 := by omega
      cases hj
      exact c2
    · rw [if_neg e] at hj; cases hj⟩
  have HFIT : Hid (0 + (List.replicate C (Value.int .i64 x)).length ≤ (List.replicate m (Value.int .i64 0)).length) := by show _ ≤ _; simp; exact hC2
  have HON : Hid (∀ v ∈ List.replicate C (Value.int .i64 x), v.oneCell' = true) := fun v hv => by rw [(List.mem_replicate.1 hv).2]; rfl
  obtain ⟨cs, hcs⟩ := ex_eq (List.replicate C (Value.int .i64 x))
  have HCS := hid hcs
  rw [← hcs] at HNN HPOS HFIT HON
  have HFUL := hid hful
  have HB2 := hid hb2
  have hcl : cs.length = C := by rw [hcs]; simp
  clear hown hgrow hz0 hz2 hful hcs hC hc c2
  go_enter Try.func88, Try.ntmps88
  go_wp2_with (first
    | (go_at_call 120; refine HMUL.out.mono ?_; rintro e w' ⟨rfl, hw'⟩; rw [hw']; clear hw')
    | (refine wpList_copy_splice rfl _ _ _ _ rfl 3 Try.underlying28 HSZ.out _ _ _ _ _ _ rfl rfl w.heap.size 0 (List.replicate m (Value.int .i64 0)) 3 HFUL.out cs HNN.out HPOS.out HFIT.out HON.out w.heap.size w HB2.out (Nat.le_refl _) ?_; intro w5 HG5 hB5; rw [hcl]))
  have HG6 : Hid (w5.heap[w.heap.size]? = some (.cells (List.replicate C (Value.int .i64 x) ++ List.replicate (m - C) (Value.int .i64 0)).toArray 3 (0, 0))) := by
    show _ = _
    rw [HG5.out, HCS.out]
    have := splice_rep (x := Value.int .i64 x) (z := Value.int .i64 0) (n := 0) (c := C) (m := m)
    simp only [List.replicate_zero, List.nil_append, Nat.sub_zero, Nat.zero_add] at this
    rw [this]
  clear HG5 HCS HNN HPOS HFIT HON HFUL HB2 HMUL hcl
  go_wp2
  go_loopw [8] (fun i wr => ∃ k : Nat, C ≤ k ∧ k ≤ m ∧ i = .int .i64 k ∧ Hid (wr.heap[w.heap.size]? = some (.cells (List.replicate k (Value.int .i64 x) ++ List.replicate (m - k) (Value.int .i64 0)).toArray 3 (0, 0))) ∧ Below w.heap.size w wr) (fun i _ => m - (RowKit.intOf i).toNat)
  case atStart => exact ⟨C, Nat.le_refl _, hC2, rfl, HG6, hB5⟩
  case round =>
    obtain ⟨k, hk1, hk2, rfl, hG, hbr⟩ := hrel
    by_cases hlt2 : k < m
    · have hkp : 1 ≤ k := by
        by_cases e : C = 0
        · have := HC0.out e; omega
        · omega
      obtain ⟨E, hE⟩ := ex_eq (Nat.min k (m - k))
      have hE1 : E ≤ k := by rw [hE]; exact Nat.min_le_left _ _
      have hE2 : E ≤ m - k := by rw [hE]; exact Nat.min_le_right _ _
      have hE3 : 1 ≤ E := by rw [hE]; exact Nat.le_min.2 ⟨hkp, by omega⟩
      have HNN : Hid ((List.replicate E (Value.int .i64 x)).length = Nat.min k (m - k)) := by show _ = _; rw [List.length_replicate, hE]
      have HPOS : Hid (CpOk wr.drew (List.replicate E (Value.int .i64 x)) (some ⟨w.heap.size, k, none⟩) (some ⟨w.heap.size, 0, none⟩) w.heap.size k) := fun _ => ⟨rfl, ⟨w.heap.size, 0, none⟩, rfl, fun j v hj => by
        rw [List.getElem?_replicate] at hj
        by_cases e : j < E
        · rw [if_pos e] at hj
          cases hj
          rw [add_at, Nat.zero_add]
          exact rep_cell (w := wr) hG.out (by omega)
        · rw [if_neg e] at hj; cases hj⟩
      have HFIT : Hid (k + (List.replicate E (Value.int .i64 x)).length ≤ (List.replicate k (Value.int .i64 x) ++ List.replicate (m - k) (Value.int .i64 0)).length) := by show _ ≤ _; simp; omega
      have HON : Hid (∀ v ∈ List.replicate E (Value.int .i64 x), v.oneCell' = true) := fun v hv => by rw [(List.mem_replicate.1 hv).2]; rfl
      obtain ⟨cs, hcs⟩ := ex_eq (List.replicate E (Value.int .i64 x))
      obtain ⟨cur, hcur⟩ := ex_eq (List.replicate k (Value.int .i64 x) ++ List.replicate (m - k) (Value.int .i64 0))
      have HCS := hid hcs
      have HCUR := hid hcur
      rw [← hcs] at HNN HPOS HFIT HON
      rw [← hcur] at HFIT hG
      have HGD : Hid (wr.drew.heap[w.heap.size]? = some (.cells cur.toArray 3 (0, 0))) := hG
      have HBD : Hid (Below w.heap.size w wr.drew) := hbr.drew
      have hcl : cs.length = E := by rw [hcs]; simp
      have q1 : (k : Int) < (m : Int) := by omega
      have q2 : (k : Int) ≤ (m : Int) := by omega
      have q3 : ¬ m = k := by omega
      clear hcs hcur hE hG
      go_wp2_with fail
      go_region_law (refine step_copy_splice rfl (.tmp 41) (.tmp 44) 28 28 rfl 3 Try.underlying28 HSZ.out (some ⟨w.heap.size, k, none⟩) (some ⟨w.heap.size, 0, none⟩) (m - k) (m - k) k m (by simp [Act.eval, Act.put]) (by simp [Act.eval, Act.put]) w.heap.size k cur 3 HGD.out cs HNN.out HPOS.out HFIT.out HON.out w.heap.size w HBD.out (Nat.le_refl _) ?_; intro w6 HG7 hB6)
      all_goals
        have HG8 : Hid (w6.heap[w.heap.size]? = some (.cells (List.replicate (k + E) (Value.int .i64 x) ++ List.replicate (m - (k + E)) (Value.int .i64 0)).toArray 3 (0, 0))) := by
          show _ = _
          rw [HG7.out, HCS.out, HCUR.out, splice_rep]
        clear HG7 HCS HCUR HNN HPOS HFIT HON HGD HBD
        try simp only [List.getElem_toArray, List.getElem_cons_succ, List.getElem_cons_zero]
        try simp only [Act.put, List.setIfInBounds_toArray, List.set_cons_zero, List.set_cons_succ]
        have hwr : IntKind.i64.wrap ((k : Int) + (E : Int)) = ((k + E : Nat) : Int) := by simp [IntKind.wrap, IntKind.bits, IntKind.signed]; omega
        go_wp2
        go_roundw
        case rel => exact ⟨k + E, by omega, by omega, by go_num, HG8, hB6⟩
        case measure => simp [RowKit.intOf]; omega
    · obtain rfl : k = m := by omega
      have HRow1 : Hid (Row1 wr w.heap.size k (fun _ => x)) := ⟨(Array.getElem?_eq_some_iff.1 hG.out).1, fun j hj => ⟨rep_cell hG.out hj, frozen_of_heap hG.out _⟩⟩
      clear hG
      go_wp2
      go_ret
      exact ⟨w.heap.size, rfl, Nat.le_refl _, HRow1.out, hbr⟩

end Go.Proofs.Ytlebimolgienkaa
namespace Go.Proofs.Ytlebimolgienkaa
open Go.RowKit Go.Lib

theorem news_oneI {w : World} {x : Value} {t : TypeId} : ∀ p, some (⟨w.heap.size, 0, none⟩ : Addr) = some p → ∀ j u, [x][j]? = some u → (w.alloc (.cells #[x] t)).cell? (p.add j) = some u := fun p hp j u hj => by
  cases hp
  cases j with
  | zero => simp at hj; subst hj; rw [add_at]; exact cell_of_heap (heap_alloc_new w _) 0
  | succ j => simp at hj
theorem own_one (w : World) (base : Nat) (x : Value) (t : TypeId) (hb : base ≤ w.heap.size) : (w.alloc (.cells #[x] t)).ownsRow base t 1 (.slice (some ⟨w.heap.size, 0, none⟩) 1 1) 1 [x] :=
  ⟨rfl, Or.inr ⟨w.heap.size, 1, #[x], rfl, hb, heap_alloc_new _ _, Nat.le_refl _, by unfold maxLen; omega, rfl, rfl⟩⟩
theorem Row1.belowW {w w' : World} {g n : Nat} {c : Nat → Int} (h : Row1 w g n c) (hb : Below w.heap.size w w') : Row1 w' g n c := h.kept (KeptBut.of_whole (fun _ => False) hb) (fun e => e)
/-- What distances tells. -/
def DistIs (m : Nat) (es : List (Int × Int)) (O : Nat → Bool) (v : Nat) (w w' : World) (u : Value) : Prop :=
  ∃ (F : Nat) (D : Nat → Int), u = .slice (some ⟨F, 0, none⟩) m m ∧ w.heap.size ≤ F ∧ Row1 w' F m D ∧ Below w.heap.size w w' ∧ (∀ j, j < m → D j ≤ 1000) ∧
    ((O v = false ∧ ∀ j, j < m → D j = -1) ∨ (O v = true ∧ Lev m es (fun x => O x.toNat = true) v (fun x => D x.toNat)))
/-- The search in memory: what is found, in a row of its own, and how far off it lies. -/
structure Srch (w : World) (m : Nat) (es : List (Int × Int)) (O : Nat → Bool) (v FB B : Nat) (fv : Value) (F : List Int) (D : Nat → Int) (i : Nat) : Prop where
  own : w.ownsRow B 3 1 fv F.length (F.map (Value.int .i64))
  far : Row1 w FB m D
  bf : Bf m es (fun x => O x.toNat = true) v F (fun x => D x.toNat) i
  lt : FB < B
theorem Srch.len {w : World} {m : Nat} {es : List (Int × Int)} {O : Nat → Bool} {v FB B : Nat} {fv : Value} {F : List Int} {D : Nat → Int} {i : Nat} (h : Srch w m es O v FB B fv F D i) : F.length ≤ m := by
  have := len_le_subI (a := F) (b := (List.range m).map (fun j : Nat => (j : Int))) h.bf.nd (fun x hx => by
    have := (h.bf.inr x hx).1
    exact List.mem_map.2 ⟨x.toNat, by simp; omega, by omega⟩)
  simpa using this
theorem Srch.at {w : World} {m : Nat} {es : List (Int × Int)} {O : Nat → Bool} {v FB B : Nat} {fv : Value} {F : List Int} {D : Nat → Int} {i : Nat} (h : Srch w m es O v FB B fv F D i) {j : Nat} (hj : j < F.length) : ∃ g cap, fv = .slice (some ⟨g, 0, none⟩) F.length cap ∧ B ≤ g ∧ w.cell? ⟨g, j, none⟩ = some (.int .i64 F[j]) := by
  rcases h.own.2 with ⟨_, h0⟩ | ⟨g, cap, cur, hv, hg, hgb, _⟩
  · simp at h0; rw [h0] at hj; simp at hj
  · refine ⟨g, cap, hv, hg, ?_⟩
    have := h.own.cells (g := g) (by rw [hv]; rfl) j (.int .i64 F[j]) (by rw [List.getElem?_map, List.getElem?_eq_getElem hj]; rfl)
    rw [add_at, Nat.zero_add] at this
    exact this
/-- One more is found: its distance is set, then it goes behind the others. -/
theorem Srch.put {w : World} {m : Nat} {es : List (Int × Int)} {O : Nat → Bool} {v FB B : Nat} {fv : Value} {F : List Int} {D : Nat → Int} {i : Nat} (h : Srch w m es O v FB B fv F D i) (hi : i < F.length) {u y : Nat} (hu : F[i] = (u : Int)) (ha : Adj es u y) (hy : y < m) (hO : O y = true) (hn : D y = -1) {w4 : World} {o : Obj} {fv' : Value}
    (hown : w4.ownsRow B 3 1 fv' (F.length + 1) (F.map (Value.int .i64) ++ [.int .i64 (y : Int)])) (hg : ((w.setCell ⟨FB, y, none⟩ (.int .i64 (D u + 1))).alloc o).grownBy w4 fv.ownBlock) : Srch w4 m es O v FB B fv' (F ++ [(y : Int)]) (fun j => if j = y then D u + 1 else D j) i := by
  have hnm : (y : Int) ∉ F := by
    rcases h.bf.mem (y : Int) (by omega) (by omega) with e | e
    · have := e.2; simp at this; omega
    · exact e.1
  refine ⟨by simpa using hown, ?_, ?_, h.lt⟩
  · have h1 := (h.far.put (i := y) hy (D u + 1)).alloc o
    refine h1.kept (KeptBut.of_grown hg) (fun e => ?_)
    have := h.own.lt FB e.symm
    have := h.lt
    omega
  · have := h.bf.put hi (v := (y : Int)) (by rw [hu]; exact ha) (by omega) (by simpa using hO) hnm
    have e : (fun x : Int => if x = (y : Int) then D F[i].toNat + 1 else D x.toNat) = fun x : Int => if x = (y : Int) then D u + 1 else D x.toNat := by rw [hu]; rfl
    rw [e] at this
    exact this.congr (fun x h0 _ => by
      show (if x = (y : Int) then D u + 1 else D x.toNat) = (if x.toNat = y then D u + 1 else D x.toNat)
      by_cases e : x = (y : Int)
      · subst e; simp
      · rw [if_neg e, if_neg (by omega)])
theorem Srch.mono {w w' : World} {m : Nat} {es : List (Int × Int)} {O : Nat → Bool} {v FB B : Nat} {fv : Value} {F : List Int} {D : Nat → Int} {i i' : Nat} (h : Srch w m es O v FB B fv F D i) (hb : Below w.heap.size w w') (hbf : Bf m es (fun x => O x.toNat = true) v F (fun x => D x.toNat) i') : Srch w' m es O v FB B fv F D i' :=
  ⟨own_below h.own hb, h.far.belowW hb, hbf, h.lt⟩

set_option maxHeartbeats 4000000 in
set_option maxRecDepth 100000 in
theorem dist_any (g m : Nat) (es : List (Int × Int)) (v G : Nat) (O : Nat → Bool) (w : World) (hm : m ≤ 1000) (hR : RightG m es) (hv : v < m) (hnear : NearAt w g m es) (hop : RowB w G m O) :
    Calls Try.prog 85 #[.slice (some ⟨g, 0, none⟩) m m, .int .i64 v, .slice (some ⟨G, 0, none⟩) m m] w fun e w' => ∃ u, e = .returned u ∧ DistIs m es O v w w' u := by
  have hbA : Below w.heap.size w (w.alloc (.cells #[.int .i64 (-1)] 3)) := (Below.refl _ _).alloc (Nat.le_refl _) _
  have hsA : (w.alloc (.cells #[.int .i64 (-1)] 3)).heap.size = w.heap.size + 1 := by simp
  have HRP := hid (rep_int w.heap.size 0 1 (-1) m (w.alloc (.cells #[.int .i64 (-1)] 3)) hm (cell_of_heap (heap_alloc_new w _) 0))
  have HNE : Hid (∀ u, u < m → ∃ au cu, ∀ X, Below w.heap.size w X → X.cell? ⟨g, u, none⟩ = some (.slice au (nbL u es).length cu) ∧ IAt X au (nbL u es)) := fun u hu => by
    obtain ⟨au, cu, h1, h2, _⟩ := hnear.2 u hu
    exact ⟨au, cu, fun X hX => ⟨(hX.cell (p := ⟨g, u, none⟩) hnear.1).trans h1, h2.below hX⟩⟩
  have HOP : Hid (∀ X, Below w.heap.size w X → RowB X G m O) := fun X hX => hop.below hX
  have HR := hid hR
  clear hnear hop hR
  go_enter Try.func85, Try.ntmps85
  go_wp2_with fail
  refine HRP.out.mono ?_
  rintro e w1 ⟨FB, rfl, hFB, hrow0, hb1⟩
  rw [hsA] at hFB hb1
  have hbw : Below w.heap.size w w1 := hbA.trans (hb1.mono (by omega))
  have HRW := hid hrow0
  have hFlt : FB < w1.heap.size := hrow0.1
  obtain ⟨o0, _⟩ := (HOP.out w1 hbw).2 v hv
  obtain ⟨f0, f0f⟩ := hrow0.2 v hv
  obtain ⟨ov, hov⟩ := ex_eq (O v)
  rw [← hov] at o0
  have HOV := hid hov
  have q0 : (v : Int) < (m : Int) := by omega
  clear hrow0 HRP hb1 hbA hsA hov
  cases ov with
  | false =>
    go_wp2
    go_ret
    exact ⟨_, rfl, FB, _, rfl, by omega, HRW.out, hbw, (fun _ _ => by omega), Or.inl ⟨HOV.out.symm, fun _ _ => rfl⟩⟩
  | true =>
    obtain ⟨W1, hW1⟩ := ex_eq ((w1.setCell ⟨FB, v, none⟩ (.int .i64 0)).alloc (.cells #[.int .i64 v] 3))
    have hbW1 : Below w.heap.size w W1 := by rw [hW1]; exact (hbw.setCell (p := ⟨FB, v, none⟩) (by simp; omega) _).alloc (by simp; exact hbw.size) _
    have HS0 : Hid (Srch W1 m es O v FB w1.heap.size (.slice (some ⟨w1.heap.size, 0, none⟩) 1 1) [(v : Int)] (fun j => if j = v then 0 else -1) 0) := by
      refine ⟨?_, ?_, ?_, hFlt⟩
      · rw [hW1]
        have := own_one (w1.setCell ⟨FB, v, none⟩ (.int .i64 0)) w1.heap.size (.int .i64 v) 3 (by simp)
        simpa using this
      · rw [hW1]; exact (HRW.out.put hv 0).alloc _
      · refine (bf_start (b := (v : Int)) (by omega) (by simpa using HOV.out.symm)).congr (fun x h0 _ => ?_)
        show (if x = (v : Int) then (0 : Int) else -1) = (if x.toNat = v then 0 else -1)
        by_cases e : x = (v : Int)
        · subst e; simp
        · rw [if_neg e, if_neg (by omega)]
    obtain ⟨BB, hBB⟩ := ex_eq w1.heap.size
    have hsz1 : BB ≤ W1.heap.size := by rw [hBB, hW1]; simp
    rw [← hBB] at HS0
    have HW1 := hid hW1
    have HBB := hid hBB
    have hwB : w.heap.size ≤ BB := by rw [hBB]; exact hbw.size
    obtain ⟨i0, hi, hz0, hz1, hz2⟩ := info_parts Try.info3
    clear hW1 hBB HRW
    go_wp2
    rw [← HW1.out, ← HBB.out]
    clear HW1 HBB f0 f0f o0
    go_loopw [8, 9] (fun fv i wo => ∃ (F : List Int) (D : Nat → Int) (k : Nat), k ≤ F.length ∧ i = .int .i64 k ∧ Hid (Srch wo m es O v FB BB fv F D k) ∧ Below w.heap.size w wo ∧ BB ≤ wo.heap.size) (fun _ i _ => m + 1 - (RowKit.intOf i).toNat)
    case atStart => exact ⟨_, _, 0, by simp, rfl, HS0, hbW1, hsz1⟩
    case round =>
      rename World => wo
      obtain ⟨F, D, k, hk, rfl, hs, hbo, hszo⟩ := hrel
      have hlen := hs.out.len
      by_cases hlt : k < F.length
      · obtain ⟨gf, cf, rfl, hgf, cF⟩ := hs.out.at hlt
        have hin := (hs.out.bf.inr _ (List.getElem_mem hlt)).1
        obtain ⟨u, hu⟩ : ∃ u : Nat, (u : Int) = F[k] := ⟨F[k].toNat, by omega⟩
        rw [← hu] at cF hin
        have hum : u < m := by omega
        obtain ⟨au, cu, aa⟩ := HNE.out u hum
        obtain ⟨a1, _⟩ := aa wo hbo
        obtain ⟨L, hL⟩ := ex_eq (nbL (u : Int) es)
        rw [← hL] at a1 aa
        have hLl : L.length ≤ 1000000 := by rw [hL]; exact Nat.le_trans (nbL_len _ _) (by have := HR.out.2.2.1; omega)
        obtain ⟨J, hJ⟩ := ex_eq L.length
        obtain ⟨K, hK⟩ := ex_eq F.length
        rw [← hJ] at a1 hLl
        have HL := hid hL
        have HJ := hid hJ
        have HK := hid hK
        have HIA : Hid (∀ X, Below w.heap.size w X → IAt X au L) := fun X hX => (aa X hX).2
        have HU : Hid (F[k]? = some (u : Int)) := by show _ = _; rw [List.getElem?_eq_getElem hlt, hu]
        have hlt2 : k < K := by omega
        have hKm : K ≤ m := by omega
        rw [← hK] at hs ⊢
        have q1 : (k : Int) < (K : Int) := by omega
        have q2 : (u : Int) < (m : Int) := by omega
        have HSI : Hid (∃ F' D', Srch wo m es O v FB BB (.slice (some ⟨gf, 0, none⟩) K cf) F' D' k ∧ F'[k]? = some (u : Int) ∧ ∀ y ∈ L.take 0, O y.toNat = true → y ∈ F') := ⟨F, D, hs.out, HU.out, by simp⟩
        have hgfl : gf < wo.heap.size := block_lt_of_cell cF
        clear hL hJ hK hu hin aa hs HU hlen
        go_wp2
        go_loopg [8, 41] J (fun Gh fv i wz => ∃ (c : Nat), c ≤ J ∧ J - c ≤ Gh ∧ i = .int .i64 c ∧ Hid (∃ F' D', Srch wz m es O v FB BB fv F' D' k ∧ F'[k]? = some (u : Int) ∧ ∀ y ∈ L.take c, O y.toNat = true → y ∈ F') ∧ Below w.heap.size w wz ∧ BB ≤ wz.heap.size)
        case atStart => exact ⟨0, Nat.zero_le _, by omega, rfl, HSI, hbo, hszo⟩
        case round =>
          obtain ⟨c, hc, hGh, rfl, hsr, hbr, hszr⟩ := hrel
          by_cases hlc : c < J
          · have hcl : c < L.length := by rw [← HJ.out]; exact hlc
            have hadj : Adj es (u : Int) L[c] := (nbL_right (n := m) HR.out).1 (by rw [← HL.out]; exact List.getElem_mem hcl)
            have hyr := (hadj.in HR.out).2.1
            obtain ⟨y, hy⟩ : ∃ y : Nat, (y : Int) = L[c] := ⟨L[c].toNat, by omega⟩
            rw [← hy] at hadj hyr
            have hym : y < m := by omega
            obtain ⟨ga, oa, rfl, hga, hca⟩ := HIA.out wr hbr (by omega)
            have d0 := hca c hcl
            rw [← hy] at d0
            obtain ⟨F', D', hS, hF', hall⟩ := hsr.out
            have HALL := hid hall
            have HSR := hid hS
            have hkF : k < F'.length := by
              by_cases e : k < F'.length
              · exact e
              · rw [List.getElem?_eq_none (by omega)] at hF'; cases hF'
            have hFk : F'[k] = (u : Int) := by rw [List.getElem?_eq_getElem hkF] at hF'; exact Option.some.inj hF'
            have HFK : Hid (∃ h : k < F'.length, F'[k] = (u : Int)) := ⟨hkF, hFk⟩
            have HF' := hid hF'
            obtain ⟨o1, _⟩ := (HOP.out wr hbr).2 y hym
            obtain ⟨r1, r1f⟩ := hS.far.2 y hym
            obtain ⟨r2, _⟩ := hS.far.2 u hum
            obtain ⟨oy, hoy⟩ := ex_eq (O y)
            obtain ⟨dy, hdy⟩ := ex_eq (D' y)
            obtain ⟨du, hdu⟩ := ex_eq (D' u)
            rw [← hoy] at o1
            rw [← hdy] at r1
            rw [← hdu] at r2
            have HOY := hid hoy
            have HDY := hid hdy
            have HDU := hid hdu
            have HY := hid hy
            have HADJ := hid hadj
            have HTK : Hid (∀ FF : List Int, (∀ z ∈ F', z ∈ FF) → (O y = true → (y : Int) ∈ FF) → ∀ z ∈ L.take (c + 1), O z.toNat = true → z ∈ FF) := fun FF h1 h2 z hz hO => by
              rw [List.take_append_getElem hcl |>.symm] at hz
              rcases List.mem_append.1 hz with hz | hz
              · exact h1 z (HALL.out z hz hO)
              · simp at hz
                rw [← HY.out] at hz
                subst hz
                exact h2 (by simpa using hO)
            have q3 : (c : Int) < (J : Int) := by omega
            have q4 : (y : Int) < (m : Int) := by omega
            have hlen' := hS.len
            have hdur : 0 ≤ du ∧ du ≤ 1000 := by
              have h1 := hS.bf.le k hkF
              simp only [hFk, Int.toNat_natCast] at h1
              have h2 := hS.bf.mem (u : Int) (by omega) (by omega)
              simp only [Int.toNat_natCast] at h2
              rw [hdu]
              rcases h2 with h2 | h2
              · exact ⟨h2.2, by omega⟩
              · exact absurd (by rw [← hFk]; exact List.getElem_mem hkF) h2.1
            obtain ⟨gf', cf', hfv, hgf', cF'⟩ := hS.at hkF
            subst hfv
            rw [hFk] at cF'
            obtain ⟨K', hK'⟩ := ex_eq F'.length
            rw [← hK'] at HSR hlen' hkF ⊢
            have HK' := hid hK'
            clear hy hadj hyr hca hS hF' hall hsr hFk hoy hdy hdu hK'
            cases oy with
            | false =>
              have HNX : Hid (∃ F' D', Srch wr m es O v FB BB (.slice (some ⟨gf', 0, none⟩) K' cf') F' D' k ∧ F'[k]? = some (u : Int) ∧ ∀ z ∈ L.take (c + 1), O z.toNat = true → z ∈ F') := ⟨F', D', HSR.out, HF'.out, HTK.out F' (fun z h => h) (fun h => by rw [← HOY.out] at h; cases h)⟩
              clear HTK HALL HSR HFK HF' HDY HDU HY HADJ HOY
              go_wp2
              go_roundg (J - (c + 1))
              case measure => omega
              case rel => exact ⟨c + 1, by omega, Nat.le_refl _, by go_num, HNX, hbr, hszr⟩
            | true =>
              by_cases hdn : 0 ≤ dy
              · have e1 : ¬ dy < 0 := by omega
                have e2 : decide (dy < 0) = false := decide_eq_false e1
                have HNX : Hid (∃ F' D', Srch wr m es O v FB BB (.slice (some ⟨gf', 0, none⟩) K' cf') F' D' k ∧ F'[k]? = some (u : Int) ∧ ∀ z ∈ L.take (c + 1), O z.toNat = true → z ∈ F') := ⟨F', D', HSR.out, HF'.out, HTK.out F' (fun z h => h) (fun _ => by
                  rcases HSR.out.bf.mem (y : Int) (by omega) q4 with h | h
                  · exact h.1
                  · have := h.2; simp at this; rw [← HDY.out] at this; omega)⟩
                clear HTK HALL HSR HFK HF' HDY HDU HY HADJ HOY
                go_wp2
                go_roundg (J - (c + 1))
                case measure => omega
                case rel => exact ⟨c + 1, by omega, Nat.le_refl _, by go_num, HNX, hbr, hszr⟩
              · have e1 : dy < 0 := by omega
                have e2 : decide (dy < 0) = true := decide_eq_true e1
                have e3 : IntKind.i64.wrap (du + 1) = du + 1 := by simp [IntKind.wrap, IntKind.bits, IntKind.signed]; omega
                have hdy1 : D' y = -1 := by
                  rcases HSR.out.bf.mem (y : Int) (by omega) q4 with h | h
                  · have := h.2; simp at this; rw [← HDY.out] at this; omega
                  · have := h.2; simp at this; exact this
                obtain ⟨W2, hW2⟩ := ex_eq (wr.setCell ⟨FB, y, none⟩ (.int .i64 (du + 1)))
                have hkp2 : KeptBut (fun x => x = FB) wr W2 := by rw [hW2]; exact kept_set wr ⟨FB, y, none⟩ _
                have hsW2 : W2.heap.size = wr.heap.size := by rw [hW2]; simp
                have hFBB := HSR.out.lt
                have HOW : Hid ((W2.alloc (.cells #[.int .i64 y] 3)).ownsRow BB 3 1 (.slice (some ⟨gf', 0, none⟩) K' cf') K' (F'.map (Value.int .i64))) := by
                  show World.ownsRow _ _ _ _ _ _ _
                  have := HSR.out.own
                  rw [← HK'.out] at this
                  refine World.ownsRow.alloc (own_kept this hkp2 (fun g0 h0 e => ?_)) _
                  obtain rfl : gf' = g0 := by simpa [Value.ownBlock] using h0
                  omega
                have HNW : Hid (∀ p, some (⟨W2.heap.size, 0, none⟩ : Addr) = some p → ∀ j u, [Value.int .i64 (y : Int)][j]? = some u → (W2.alloc (.cells #[.int .i64 y] 3)).cell? (p.add j) = some u) := news_oneI
                have HON : Hid (∀ v ∈ [Value.int .i64 (y : Int)], v.oneCell' = true) := fun v hv => by simp at hv; rw [hv]; rfl
                have H63 : Hid (K' + 1 ≤ maxLen) := by show K' + 1 ≤ maxLen; unfold maxLen; omega
                have HBS : Hid (BB ≤ (W2.alloc (.cells #[.int .i64 y] 3)).heap.size) := by show BB ≤ _; simp; omega
                have HKP : Hid (∀ w4, (W2.alloc (.cells #[.int .i64 y] 3)).grownBy w4 (Value.slice (some ⟨gf', 0, none⟩) K' cf').ownBlock → Below w.heap.size w w4 ∧ BB ≤ w4.heap.size) := fun w4 hg => by
                  refine ⟨Below.grown (show Below w.heap.size w (W2.alloc _) from ?_) hg (by simp; omega) (fun j hj => by obtain rfl : gf' = j := by { simpa [Value.ownBlock] using hj }; omega), Nat.le_trans HBS.out hg.size⟩
                  rw [hW2]
                  exact (hbr.setCell (p := ⟨FB, y, none⟩) (by simp; omega) _).alloc (by simp; exact hbr.size) _
                have HSP : Hid (∀ w4 v4, w4.ownsRow BB 3 1 v4 (K' + 1) (F'.map (Value.int .i64) ++ [.int .i64 (y : Int)]) → (W2.alloc (.cells #[.int .i64 y] 3)).grownBy w4 (Value.slice (some ⟨gf', 0, none⟩) K' cf').ownBlock → ∃ F' D', Srch w4 m es O v FB BB v4 F' D' k ∧ F'[k]? = some (u : Int) ∧ ∀ z ∈ L.take (c + 1), O z.toNat = true → z ∈ F') := fun w4 v4 h1 h2 => by
                  obtain ⟨hkF, hFk⟩ := HFK.out
                  rw [hW2, HDU.out] at h2
                  rw [HK'.out] at h1
                  refine ⟨_, _, HSR.out.put hkF hFk HADJ.out hym HOY.out.symm hdy1 h1 h2, ?_, HTK.out _ (fun z h => List.mem_append_left _ h) (fun _ => by simp)⟩
                  rw [List.getElem?_append_left hkF]
                  exact HF'.out
                have HW2 := hid hW2
                clear hW2 HTK HALL HSR HFK HF' HDY HDU HY HADJ HOY hkp2 hsW2 hdy1 HK'
                go_upto_region 14 with fail
                rw [← HW2.out]
                clear HW2
                go_wp2_with (at_builtin; refine wpList_append_any _ rfl _ _ 28 rfl BB 3 i0 _ 1 8 Try.underlying28 hi hz0 hz1 hz2 rfl (by decide) _ _ _ rfl HOW.out (some ⟨W2.heap.size, 0, none⟩) 1 1 [.int .i64 y] rfl (fun h => by cases h) rfl HNW.out HON.out H63.out ?c4 HBS.out ?_)
                case c4 => omega
                intro v4 w4 hown4 hgrow _
                have HNX := hid (HSP.out w4 v4 hown4 hgrow)
                obtain ⟨hb4, hsz4⟩ := HKP.out w4 hgrow
                clear hown4 hgrow HKP HSP HBS H63 HON HNW HOW
                go_wp2
                go_roundg (J - (c + 1))
                case measure => omega
                case rel => exact ⟨c + 1, by omega, Nat.le_refl _, by go_num, HNX, hb4, hsz4⟩
          · obtain rfl : c = J := by omega
            obtain ⟨F', D', hS, hF', hall⟩ := hsr.out
            have hkF : k < F'.length := by
              by_cases e : k < F'.length
              · exact e
              · rw [List.getElem?_eq_none (by omega)] at hF'; cases hF'
            have hFk : F'[k] = (u : Int) := by rw [List.getElem?_eq_getElem hkF] at hF'; exact Option.some.inj hF'
            have hlen' := hS.len
            have HNX : Hid (Srch wr m es O v FB BB u8 F' D' (k + 1)) := hS.mono (Below.refl _ _) (hS.bf.next hkF (fun z ha hO => by
              rw [hFk] at ha
              have : z ∈ L := by rw [HL.out]; exact (nbL_right (n := m) HR.out).2 ha
              exact hall z (by rw [HJ.out, List.take_length]; exact this) hO))
            have hkm : k < m := by omega
            clear hS hF' hall hsr hFk
            go_wp2
            go_roundw
            case rel => exact ⟨F', D', k + 1, by omega, by go_num, HNX, hbr, hszr⟩
            case measure => simp [RowKit.intOf]; omega
      · obtain rfl : k = F.length := by omega
        have hbf := hs.out.bf.lev HR.out
        have HLE : Hid (∀ j, j < m → D j ≤ 1000) := fun j hj => by
          rcases hs.out.bf.mem (j : Int) (by omega) (by omega) with h | h
          · obtain ⟨i, hi', e⟩ := List.getElem_of_mem h.1
            have h1 := hs.out.bf.le i hi'
            rw [e] at h1
            simp only [Int.toNat_natCast] at h1
            omega
          · have := h.2
            simp only [Int.toNat_natCast] at this
            omega
        have HLV := hid hbf
        have HFR := hid hs.out.far
        obtain ⟨af, cf, rfl, hsl⟩ := sl_own hs.out.own
        obtain ⟨K, hK⟩ := ex_eq F.length
        rw [← hK] at hs ⊢
        clear hbf hs hK
        go_wp2
        go_ret
        exact ⟨_, rfl, FB, D, rfl, by omega, HFR.out, hbo, HLE.out, Or.inr ⟨HOV.out.symm, HLV.out⟩⟩
end Go.Proofs.Ytlebimolgienkaa
namespace Go.Proofs.Ytlebimolgienkaa
open Go.RowKit Go.Lib

def esS : List (Int × Int) := [(0, 1), (0, 3), (1, 2), (2, 3)]
/-- What lies in memory while the small case goes on. -/
structure ShW (w W : World) (B : Nat) (a1 a2 : Option Addr) : Prop where
  gc : GC W (B + 1) 4 (some ⟨B, 0, none⟩) 4 4 esS
  r1 : IAt W a1 [0, 3, 2]
  r2 : IAt W a2 [0, 2, 1, 3]
  bel : Below B w W
  le : B ≤ W.heap.size
theorem ShW.on {w W X : World} {B : Nat} {a1 a2 : Option Addr} (h : ShW w W B a1 a2) (hb : Below W.heap.size W X) : ShW w X B a1 a2 := ⟨h.gc.on hb, h.r1.below hb, h.r2.below hb, h.bel.trans (hb.mono h.le), Nat.le_trans h.le hb.size⟩
theorem below_one (W : World) (o : Obj) : Below W.heap.size W (W.alloc o) := (Below.refl _ _).alloc (Nat.le_refl _) o

end Go.Proofs.Ytlebimolgienkaa
namespace Go.Proofs.Ytlebimolgienkaa
open Go.RowKit Go.Lib

theorem SubTold.imp {S S' : Int → Int → List (Int × Int) → Prop} {w w' : World} {v : Value} (h : SubTold S w w' v) (i : ∀ er N E, S er N E → S' er N E) : SubTold S' w w' v := by
  obtain ⟨er, N, E, a', cap', h1, h2, h3⟩ := h
  exact ⟨er, N, E, a', cap', h1, i _ _ _ h2, h3⟩
end Go.Proofs.Ytlebimolgienkaa
