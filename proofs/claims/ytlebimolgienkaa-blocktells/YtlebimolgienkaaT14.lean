/-
  The program's blocks that some edges make (layer 7).
  Rows in order: slices.Compare walked, slices.SortFunc by its contract (layer 7).
-/
import Derived.Test.YtlebimolgienkaaT13
import Derived.Laws.EntriesVeiled
import Derived.Test.YtlebimolgienkaaT12
import Derived.Test.YtlebimolgienkaaT02
import Derived.Test.YtlebimolgienkaaT06
namespace Go.Proofs.Ytlebimolgienkaa
open Go.RowKit Go.Lib

theorem alloc_keep {w : World} {o : Obj} {k : Nat} {x : Obj} (h : w.heap[k]? = some x) : (w.alloc o).heap[k]? = some x := by
  rw [alloc_at (Array.getElem?_eq_some_iff.1 h).1]; exact h
/-- The search begins. -/
theorem dmem_start {w1 W2 W3 : World} {gw m : Nat} {es : List (Int × Int)} (hW2 : W2 = (w1.alloc (.cells #[.slice (some ⟨gw, 0, none⟩) m m] 29)).alloc (.cells #[.slice none 0 0] 29)) (hN : NearAt w1 gw m es)
    (hown : W3.ownsRow W2.heap.size 3 1 (.slice (some ⟨W2.heap.size, 0, none⟩) m m) m (madeCells (Value.int .i64 0).cells (m * 1)).toList) (hg : W2.grownBy W3 none) :
    DMem ((((W3.alloc (.cells #[.slice (some ⟨W2.heap.size, 0, none⟩) m m] 28)).alloc (.cells #[.int .i64 0] 3)).alloc (.cells #[.slice none 0 0] 28)).alloc (.cells #[.func (.func 77) #[] #[.pointer (some ⟨W3.heap.size + 1, 0, none⟩), .pointer (some ⟨W3.heap.size, 0, none⟩), .pointer (some ⟨W3.heap.size + 1 + 1, 0, none⟩), .pointer (some ⟨w1.heap.size, 0, none⟩), .pointer (some ⟨W3.heap.size + 1 + 1 + 1, 0, none⟩), .pointer (some ⟨w1.heap.size + 1, 0, none⟩)]] 82))
      w1 w1.heap.size (w1.heap.size + 1) W2.heap.size W3.heap.size (W3.heap.size + 1) (W3.heap.size + 1 + 1) (W3.heap.size + 1 + 1 + 1) (W3.heap.size + 1 + 1 + 1 + 1) gw m es Dst.zero (.slice none 0 0) (.slice none 0 0) [] := by
  have hs2 : W2.heap.size = w1.heap.size + 1 + 1 := by rw [hW2]; simp
  have hlt := (hown.lt W2.heap.size rfl).2
  have hb12 : Below w1.heap.size w1 W2 := by rw [hW2]; exact ((Below.refl _ _).alloc (Nat.le_refl _) _).alloc (by simp) _
  have hb23 : Below W2.heap.size W2 W3 := Below.grown (Below.refl _ _) hg (Nat.le_refl _) (fun k hk => by cases hk)
  have hb13 := hb12.trans (hb23.mono (by omega))
  have r1 : W2.heap[w1.heap.size]? = some (.cells #[.slice (some ⟨gw, 0, none⟩) m m] 29 (0, 0)) := by rw [hW2]; exact alloc_keep (heap_alloc_new _ _)
  have r2 : W2.heap[w1.heap.size + 1]? = some (.cells #[.slice none 0 0] 29 (0, 0)) := by
    have h := heap_alloc_new (w1.alloc (.cells #[.slice (some ⟨gw, 0, none⟩) m m] 29)) (.cells #[.slice none 0 0] 29)
    rw [← hW2] at h
    simpa using h
  have r1' := (hb23.block _ (by omega)).trans r1
  have r2' := (hb23.block _ (by omega)).trans r2
  have hrow := row1_made hown hlt
  obtain ⟨V1, hV1⟩ := ex_eq (W3.alloc (.cells #[.slice (some ⟨W2.heap.size, 0, none⟩) m m] 28))
  obtain ⟨V2, hV2⟩ := ex_eq (V1.alloc (.cells #[.int .i64 0] 3))
  obtain ⟨V3, hV3⟩ := ex_eq (V2.alloc (.cells #[.slice none 0 0] 28))
  have s1 : V1.heap.size = W3.heap.size + 1 := by rw [hV1]; simp
  have s2 : V2.heap.size = W3.heap.size + 1 + 1 := by rw [hV2]; simp [s1]
  have s3 : V3.heap.size = W3.heap.size + 1 + 1 + 1 := by rw [hV3]; simp [s2]
  have k1 : V1.heap[W3.heap.size]? = some (.cells #[.slice (some ⟨W2.heap.size, 0, none⟩) m m] 28 (0, 0)) := by rw [hV1]; exact heap_alloc_new _ _
  have k2 : V2.heap[W3.heap.size + 1]? = some (.cells #[.int .i64 0] 3 (0, 0)) := by rw [hV2, ← s1]; exact heap_alloc_new _ _
  have k3 : V3.heap[W3.heap.size + 1 + 1]? = some (.cells #[.slice none 0 0] 28 (0, 0)) := by rw [hV3, ← s2]; exact heap_alloc_new _ _
  rw [← hV1, ← hV2, ← hV3]
  obtain ⟨X, hX⟩ := ex_eq (Obj.cells #[.func (.func 77) #[] #[.pointer (some ⟨W3.heap.size + 1, 0, none⟩), .pointer (some ⟨W3.heap.size, 0, none⟩), .pointer (some ⟨W3.heap.size + 1 + 1, 0, none⟩), .pointer (some ⟨w1.heap.size, 0, none⟩), .pointer (some ⟨W3.heap.size + 1 + 1 + 1, 0, none⟩), .pointer (some ⟨w1.heap.size + 1, 0, none⟩)]] 82 (0, 0))
  rw [← hX]
  have keep : ∀ {k : Nat} {x : Obj}, W3.heap[k]? = some x → (V3.alloc X).heap[k]? = some x := fun h => by
    refine alloc_keep ?_
    rw [hV3]
    refine alloc_keep ?_
    rw [hV2]
    refine alloc_keep ?_
    rw [hV1]
    exact alloc_keep h
  have j1 : (V3.alloc X).heap[W3.heap.size]? = some (.cells #[.slice (some ⟨W2.heap.size, 0, none⟩) m m] 28 (0, 0)) := by
    refine alloc_keep ?_
    rw [hV3]
    refine alloc_keep ?_
    rw [hV2]
    exact alloc_keep k1
  have j2 : (V3.alloc X).heap[W3.heap.size + 1]? = some (.cells #[.int .i64 0] 3 (0, 0)) := by
    refine alloc_keep ?_
    rw [hV3]
    exact alloc_keep k2
  have j3 := alloc_keep (o := X) k3
  have j4 : (V3.alloc X).heap[W3.heap.size + 1 + 1 + 1]? = some X := by rw [← s3]; exact heap_alloc_new _ _
  have hbV : Below W3.heap.size W3 (V3.alloc X) := by
    refine Below.alloc ?_ (by omega) _
    rw [hV3]
    refine Below.alloc ?_ (by omega) _
    rw [hV2]
    refine Below.alloc ?_ (by omega) _
    rw [hV1]
    exact (Below.refl _ _).alloc (Nat.le_refl _) _
  refine ⟨⟨Nat.le_refl _, by omega, by omega, by omega, by omega, by omega, by omega, by omega⟩, by simp [s3], hb13.trans (hbV.mono (by omega)), hN, cell_of_heap (keep r1') 0, cell_of_heap j1 0, ⟨cell_of_heap j2 0, frozen_of_heap j2 0⟩, ?_, hrow.kept (KeptBut.of_whole (fun _ => False) hbV) (fun e => e), ⟨cell_of_heap j3 0, frozen_of_heap j3 0⟩, ⟨cell_of_heap (keep r2') 0, frozen_of_heap (keep r2') 0⟩, World.ownsRow_nil _ _ _ _, ⟨World.ownsRow_nil _ _ _ _, rfl, fun g h => by simp [Value.ownBlock] at h, fun k hk => absurd hk (by simp [Dst.zero])⟩⟩
  subst hX
  exact cell_of_heap j4 0
theorem top_gr {m : Nat} {nb : Nat → List Int} (hnb : ∀ v x, x ∈ nb v → 0 ≤ x ∧ x < m) : ∀ (l : List Nat) (s : Dst), (∀ v ∈ l, v < m) → DSz m s → DSz m (topF nb m s l)
  | [], _, _, h => h
  | v :: l, s, hl, h => by
    have e : topF nb m s (v :: l) = topF nb m (if s.num v = 0 then (lowF nb m s v).1 else s) l := rfl
    rw [e]
    refine top_gr hnb l _ (fun x hx => hl x (List.mem_cons_of_mem _ hx)) ?_
    split
    · rename_i h0
      exact (low_gr hnb m s v h (hl v (by simp)) h0 (top_sz m s h)).sz
    · exact h

set_option maxHeartbeats 4000000 in
set_option maxRecDepth 100000 in
theorem blocksOf_any (m : Nat) (a : Option Addr) (cap : Nat) (es : List (Int × Int)) (w : World) (hE : EAt w a es) (hR : RightG m es) :
    Calls Try.prog 37 #[.int .i64 m, .slice a es.length cap] w fun e w' => ∃ u us LL, e = .returned u ∧ LLOwn w' w.heap.size (fun k => w.heap.size ≤ k) u us LL ∧ (∀ B, B ∈ LL ↔ IsBlk es B) ∧ LL.Nodup ∧ LL.length ≤ 1000 ∧ Below w.heap.size w w' := by
  have hm : m ≤ 1000 := by have := hR.2.1; omega
  obtain ⟨N, hNe⟩ := ex_eq es.length
  have CN : Hid (Calls Try.prog 76 #[.int .i64 m, .slice a N cap] w fun e w' => ∃ g, e = .returned (.slice (some ⟨g, 0, none⟩) m m) ∧ w.heap.size ≤ g ∧ NearAt w' g m es ∧ Below w.heap.size w w') := by
    show Calls _ _ _ _ _
    rw [hNe]; exact bnear_any m a cap es w hE hR
  rw [← hNe]
  have HRG := hid hR
  have hsf := fun a c w => run_store (P := Try.prog) w a (.func (.func 77) #[] c) .plain rfl
  clear hNe hE hR
  go_enter Try.func37, Try.ntmps37
  go_wp2_with fail
  refine CN.out.mono ?_
  rintro e w1 ⟨gw, rfl, hgw, hnear, hb1⟩
  have HNR := hid hnear
  have HB1 := hid hb1
  clear hnear hb1 CN
  go_upto_region 3 with fail
  obtain ⟨W2, hW2⟩ := ex_eq ((w1.alloc (.cells #[.slice (some ⟨gw, 0, none⟩) m m] 29)).alloc (.cells #[.slice none 0 0] 29))
  rw [← hW2]
  have HW2 := hid hW2
  clear hW2
  obtain ⟨i0, hi, hz0, hz1, hz2⟩ := info_parts Try.info3
  obtain ⟨W3, hrun3, hown3, hgrow3⟩ := run_make_full (P := Try.prog) W2 W2.heap.size 28 3 i0 (.int .i64 0) 1 Try.underlying28 hi hz0 hz1 .i64 .i64 m (by rw [hz2]; omega) (by unfold maxLen; omega) (Nat.le_refl _)
  go_upto_region 7 with fail
  have hDM := dmem_start HW2.out HNR.out hown3 hgrow3
  obtain ⟨nb, hnb⟩ := ex_eq (fun v : Nat => nbL (v : Int) es)
  obtain ⟨W7, hW7⟩ := ex_eq ((((W3.alloc (.cells #[.slice (some ⟨W2.heap.size, 0, none⟩) m m] 28)).alloc (.cells #[.int .i64 0] 3)).alloc (.cells #[.slice none 0 0] 28)).alloc (.cells #[.func (.func 77) #[] #[.pointer (some ⟨W3.heap.size + 1, 0, none⟩), .pointer (some ⟨W3.heap.size, 0, none⟩), .pointer (some ⟨W3.heap.size + 1 + 1, 0, none⟩), .pointer (some ⟨w1.heap.size, 0, none⟩), .pointer (some ⟨W3.heap.size + 1 + 1 + 1, 0, none⟩), .pointer (some ⟨w1.heap.size + 1, 0, none⟩)]] 82))
  rw [← hW7] at hDM ⊢
  obtain ⟨ct, hct⟩ := ex_eq (W3.heap.size + 1)
  obtain ⟨go, hgo⟩ := ex_eq (W3.heap.size + 1 + 1)
  obtain ⟨lw, hlw⟩ := ex_eq (W3.heap.size + 1 + 1 + 1)
  obtain ⟨D, hD⟩ := ex_eq (W3.heap.size + 1 + 1 + 1 + 1)
  obtain ⟨bl, hbl⟩ := ex_eq (w1.heap.size + 1)
  obtain ⟨nm, hnm⟩ := ex_eq W3.heap.size
  obtain ⟨gn, hgn⟩ := ex_eq W2.heap.size
  obtain ⟨nr, hnr⟩ := ex_eq w1.heap.size
  rw [← hD, ← hlw, ← hgo, ← hct, ← hnm, ← hgn, ← hbl, ← hnr] at hDM
  rw [← hlw, ← hgo, ← hct, ← hnm, ← hgn, ← hbl, ← hnr]
  have hDl : nr ≤ D := by have := hDM.ord; omega
  have hwn : w.heap.size ≤ nr := by rw [hnr]; exact HB1.out.size
  have HS0 : Hid (nr = w1.heap.size) := hnr
  have HNB := hid hnb
  have HIN : Hid (∀ (v : Nat) x, x ∈ nb v → 0 ≤ x ∧ x < m) := fun v x hx => by
    rw [hnb] at hx
    exact ((nb_adj HRG.out).1 hx |>.in HRG.out).2.1
  have CL : Hid (∀ (s : Dst) (v : Nat) (X : World), (∃ gv uv us, DMem X w1 nr bl gn nm ct go lw D gw m es s gv uv us) → DSz m s → v < m → s.num v = 0 → Calls Try.prog 77 #[.int .i64 v, .pointer (some ⟨ct, 0, none⟩), .pointer (some ⟨nm, 0, none⟩), .pointer (some ⟨go, 0, none⟩), .pointer (some ⟨nr, 0, none⟩), .pointer (some ⟨lw, 0, none⟩), .pointer (some ⟨bl, 0, none⟩)] X fun e w' =>
      e = .returned (.int .i64 (lowF nb m s v).2) ∧ ∃ gv uv us, DMem w' w1 nr bl gn nm ct go lw D gw m es (lowF nb m s v).1 gv uv us) := fun s v X hM hs hv h0 => by
    rw [hnb]
    exact low_any HRG.out m s v X hM hs hv h0 (top_sz m s hs)
  have HDM : Hid (∃ gv uv us, DMem W7 w1 nr bl gn nm ct go lw D gw m es (topF nb m Dst.zero ((List.range m).take 0)) gv uv us) := ⟨_, _, _, hDM⟩
  clear hD hlw hgo hct hnm hgn hbl hnr hW7 hDM hown3 hgrow3 hrun3 hi hz0 hz1 hz2 HW2 hsf HNR hnb
  go_wp2
  go_loopw [19] (fun i wz => ∃ t : Nat, t ≤ m ∧ i = .int .i64 t ∧ Hid (∃ gv uv us, DMem wz w1 nr bl gn nm ct go lw D gw m es (topF nb m Dst.zero ((List.range m).take t)) gv uv us)) (fun i _ => m - (RowKit.intOf i).toNat)
  case atStart => exact ⟨0, Nat.zero_le _, rfl, HDM.out⟩
  case round =>
    obtain ⟨t, ht, rfl, hmt⟩ := hrel
    have hsz := top_gr HIN.out ((List.range m).take t) Dst.zero (fun v hv => List.mem_range.1 (List.mem_of_mem_take hv)) (top_zero es m).sz
    obtain ⟨T, hT⟩ := ex_eq (topF nb m Dst.zero ((List.range m).take t))
    rw [← hT] at hmt hsz
    by_cases hlt : t < m
    · have hnx : topF nb m Dst.zero ((List.range m).take (t + 1)) = (if T.num t = 0 then (lowF nb m T t).1 else T) := by
        have h1 : (List.range m).take (t + 1) = (List.range m).take t ++ [t] := by
          rw [← List.take_append_getElem (by simpa using hlt)]
          simp
        rw [h1, hT]
        unfold topF
        rw [List.foldl_append]
        rfl
      obtain ⟨gv, uv, us, hD⟩ := hmt.out
      have e1 := hD.cnm
      obtain ⟨e2, _⟩ := hD.num.2 t hlt
      have e3 := hD.clw
      have p1 : (t : Int) < (m : Int) := by omega
      by_cases h0 : T.num t = 0
      · rw [h0] at e2
        rw [if_pos h0] at hnx
        have C := hid (CL.out T t wr hmt.out hsz hlt h0)
        have HNX := hid hnx
        clear hnx hD hT hmt h0 hsz
        go_wp2_with fail
        refine C.out.mono ?_
        rintro e w2 ⟨rfl, hD2⟩
        have HN : Hid (∃ gv uv us, DMem w2 w1 nr bl gn nm ct go lw D gw m es (topF nb m Dst.zero ((List.range m).take (t + 1))) gv uv us) := by
          show ∃ gv uv us, _
          rw [HNX.out]; exact hD2
        clear hD2 C e1 e2 e3
        go_wp2
        go_roundw
        case rel => exact ⟨t + 1, by omega, by go_num, HN⟩
        case measure => simp [RowKit.intOf]; omega
      · rw [if_neg h0] at hnx
        have HN : Hid (∃ gv uv us, DMem wr w1 nr bl gn nm ct go lw D gw m es (topF nb m Dst.zero ((List.range m).take (t + 1))) gv uv us) := by
          show ∃ gv uv us, _
          rw [hnx]; exact hmt.out
        obtain ⟨y, hy⟩ := ex_eq (T.num t)
        rw [← hy] at e2 h0
        have b0 : (y == 0) = false := beq_eq_false_iff_ne.2 h0
        clear hnx hD hT hmt hsz hy e3
        go_wp2
        go_roundw
        case rel => exact ⟨t + 1, by omega, by go_num, HN⟩
        case measure => simp [RowKit.intOf]; omega
    · obtain rfl : t = m := by omega
      have htk : (List.range t).take t = List.range t := by rw [List.take_of_length_le (by simp)]
      rw [htk] at hT
      obtain ⟨hB, hnd⟩ := top_blocks (es := es) (nb := nb) HRG.out (fun v x => by rw [HNB.out]; exact nb_adj HRG.out)
      rw [← hT] at hB hnd
      obtain ⟨gv, uv, us, hD⟩ := hmt.out
      have e1 := hD.cbl.1
      have hbl := hD.blk.swap (A' := fun k => w.heap.size ≤ k) (fun k _ hA => by have := hA.1; omega)
      have HBL : Hid (LLOwn wr w.heap.size (fun k => w.heap.size ≤ k) uv us T.blk) := ⟨own_lower hbl.1 (by omega), hbl.2⟩
      have HBB : Hid (Below w.heap.size w wr) := HB1.out.trans (hD.bel.mono (by rw [← HS0.out]; exact hwn))
      have HBI := hid hB
      have hlen : T.blk.length ≤ 1000 := by have := hsz.blk; have := hsz.sum; omega
      clear hB hbl hD hmt hT hsz htk CL
      go_wp2
      go_ret
      exact ⟨uv, us, T.blk, rfl, HBL.out, HBI.out, hnd, hlen, HBB.out⟩
end Go.Proofs.Ytlebimolgienkaa
namespace Go.Proofs.Ytlebimolgienkaa
open Go.RowKit Go.Lib Go.Shelf Go.Sort

/-- Rows held against each other, number by number. -/
def cmpL : List Int → List Int → Int
  | [], [] => 0
  | [], _ :: _ => -1
  | _ :: _, [] => 1
  | x :: a, y :: b => if x < y then -1 else if y < x then 1 else cmpL a b
theorem cmpL_lt : ∀ (a b : List Int), cmpL a b < 0 ↔ lexL a b = true
  | [], [] => by simp [cmpL, lexL]
  | [], _ :: _ => by simp [cmpL, lexL]
  | _ :: _, [] => by simp [cmpL, lexL]
  | x :: a, y :: b => by
    unfold cmpL
    simp only [lexL, Bool.or_eq_true, decide_eq_true_eq, Bool.and_eq_true, beq_iff_eq]
    by_cases h : x < y
    · rw [if_pos h]; simp [h]
    · rw [if_neg h]
      by_cases h2 : y < x
      · rw [if_pos h2]
        constructor
        · intro h3; omega
        · rintro (h3 | ⟨h3, _⟩) <;> omega
      · rw [if_neg h2, cmpL_lt a b]
        have e : x = y := by omega
        simp [e]
set_option maxHeartbeats 1000000 in
set_option maxRecDepth 100000 in
theorem cmpRow_any (a1 a2 : Option Addr) (c1 c2 : Nat) (xs ys : List Int) (w : World) (h1 : IAt w a1 xs) (h2 : IAt w a2 ys) (l1 : xs.length ≤ 1000000) :
    Calls Try.prog 39 #[.slice a1 xs.length c1, .slice a2 ys.length c2] w fun e w' => e = .returned (.int .i64 (cmpL xs ys)) ∧ w' = w := by
  obtain ⟨N, hN⟩ := ex_eq xs.length
  obtain ⟨M, hM⟩ := ex_eq ys.length
  obtain ⟨R, hR⟩ := ex_eq (cmpL xs ys)
  have HC : Hid (∀ (x y : Int) W, Calls Try.prog 81 #[.int .i64 x, .int .i64 y] W fun e w' => e = .returned (.int .i64 (cmpI x y)) ∧ w' = W) := fun x y W => compare_any x y W
  rw [← hN] at l1
  rw [← hN, ← hM, ← hR]
  have HN := hid hN
  have HM := hid hM
  have HR := hid hR
  have H1 := hid h1
  have H2 := hid h2
  clear hN hM hR h1 h2
  go_enter Try.func39, Try.ntmps39
  go_wp2
  go_loopw [11] (fun i wz => ∃ k : Nat, k ≤ N ∧ k ≤ M ∧ i = .int .i64 k ∧ Hid (R = cmpL (xs.drop k) (ys.drop k)) ∧ wz = w) (fun i _ => N - (RowKit.intOf i).toNat)
  case atStart => exact ⟨0, Nat.zero_le _, Nat.zero_le _, rfl, (by show _ = _; rw [HR.out]; simp), rfl⟩
  case round =>
    obtain ⟨k, hk, hk2, rfl, heq, rfl⟩ := hrel
    by_cases hlt : k < N
    · have k1 : k < xs.length := by rw [← HN.out]; exact hlt
      obtain ⟨g1, o1, rfl, _, hc1⟩ := H1.out (by omega)
      have d1 := hc1 k k1
      obtain ⟨x, hx⟩ := ex_eq xs[k]
      rw [← hx] at d1
      have q1 : (k : Int) < (N : Int) := by omega
      by_cases hlt2 : k < M
      · have k2 : k < ys.length := by rw [← HM.out]; exact hlt2
        obtain ⟨g2, o2, rfl, _, hc2⟩ := H2.out (by omega)
        have d2 := hc2 k k2
        obtain ⟨y, hy⟩ := ex_eq ys[k]
        rw [← hy] at d2
        have q2 : (k : Int) < (M : Int) := by omega
        have q3 : decide ((k : Int) ≥ (M : Int)) = false := decide_eq_false (by omega)
        have q4 : ¬ (M : Int) ≤ (k : Int) := by omega
        have HE : Hid (R = if x < y then -1 else if y < x then 1 else cmpL (xs.drop (k + 1)) (ys.drop (k + 1))) := by
          show _ = _
          rw [heq.out, List.drop_eq_getElem_cons k1, List.drop_eq_getElem_cons k2, ← hx, ← hy]
          rfl
        have C := hid (HC.out x y wr)
        obtain ⟨z, hz⟩ := ex_eq (cmpI x y)
        rw [← hz] at C
        have HZ := hid hz
        clear hc1 hc2 hx hy heq hz k1 k2
        by_cases hxy : x < y
        · have e1 : z = -1 := by rw [HZ.out]; unfold cmpI; rw [if_pos hxy]
          subst e1
          have HRR : Hid (R = -1) := by show _ = _; rw [HE.out, if_pos hxy]
          clear HE HZ hxy
          go_wp2_with fail
          refine C.out.mono ?_
          rintro e w2 ⟨rfl, rfl⟩
          go_wp2
          go_ret
          rw [HRR.out]
          exact ⟨rfl, rfl⟩
        · by_cases hyx : y < x
          · have e1 : z = 1 := by rw [HZ.out]; unfold cmpI; rw [if_neg hxy, if_pos hyx]
            subst e1
            have HRR : Hid (R = 1) := by show _ = _; rw [HE.out, if_neg hxy, if_pos hyx]
            clear HE HZ hxy hyx
            go_wp2_with fail
            refine C.out.mono ?_
            rintro e w2 ⟨rfl, rfl⟩
            go_wp2
            go_ret
            rw [HRR.out]
            exact ⟨rfl, rfl⟩
          · have e1 : z = 0 := by rw [HZ.out]; unfold cmpI; rw [if_neg hxy, if_neg hyx]
            subst e1
            have HRR : Hid (R = cmpL (xs.drop (k + 1)) (ys.drop (k + 1))) := by show _ = _; rw [HE.out, if_neg hxy, if_neg hyx]
            clear HE HZ hxy hyx
            go_wp2_with fail
            refine C.out.mono ?_
            rintro e w2 ⟨rfl, rfl⟩
            go_wp2
            go_roundw
            case rel => exact ⟨k + 1, by omega, by omega, by go_num, HRR, trivial⟩
            case measure => simp [RowKit.intOf]; omega
      · have ekM : k = M := by omega
        have HRR : Hid (R = 1) := by
          show _ = _
          have hd : ys.drop k = [] := List.drop_eq_nil_of_le (by have := HM.out; omega)
          rw [heq.out, List.drop_eq_getElem_cons k1, hd]
          rfl
        clear HM
        subst ekM
        have q3 : decide ((k : Int) ≥ (k : Int)) = true := by simp
        clear hc1 hx heq k1
        go_wp2
        go_ret
        rw [HRR.out]
        exact ⟨rfl, rfl⟩
    · have ekN : k = N := by omega
      have hdx : xs.drop k = [] := List.drop_eq_nil_of_le (by have := HN.out; omega)
      clear HN
      subst ekN
      by_cases hlt2 : k < M
      · have k2 : k < ys.length := by rw [← HM.out]; exact hlt2
        have HRR : Hid (R = -1) := by
          show _ = _
          rw [heq.out, hdx, List.drop_eq_getElem_cons k2]
          rfl
        have q2 : (k : Int) < (M : Int) := by omega
        clear heq hdx k2
        go_wp2
        go_ret
        rw [HRR.out]
        exact ⟨rfl, rfl⟩
      · have ekM : k = M := by omega
        have HRR : Hid (R = 0) := by
          show _ = _
          have hd : ys.drop k = [] := List.drop_eq_nil_of_le (by have := HM.out; omega)
          rw [heq.out, hdx, hd]
          rfl
        clear HM
        subst ekM
        clear heq hdx
        go_wp2
        go_ret
        rw [HRR.out]
        exact ⟨rfl, rfl⟩
theorem swoL (rows : Nat → List Int) : SWO (ltOf (fun x y => cmpL (rows x) (rows y))) := by
  have e : ∀ x y, ltOf (fun x y => cmpL (rows x) (rows y)) x y = lexL (rows x) (rows y) := fun x y => by
    have h := cmpL_lt (rows x) (rows y)
    unfold ltOf
    cases h2 : lexL (rows x) (rows y) with
    | true => exact decide_eq_true (h.2 h2)
    | false => exact decide_eq_false (fun k => by rw [h.1 k] at h2; cases h2)
  refine ⟨fun x => by rw [e]; exact lexL_irrefl _, fun x y z h h' => ?_, fun x y z h h' => ?_⟩
  · rw [e] at *; exact lexL_trans h h'
  · rw [e] at *
    cases h3 : lexL (rows x) (rows z) with
    | false => rfl
    | true =>
      -- neither x < y nor y < z, yet x < z
      cases h4 : lexL (rows y) (rows x) with
      | true => rw [lexL_trans h4 h3] at h'; cases h'
      | false =>
        have := lexL_tri h h4
        rw [this] at h3
        rw [h3] at h'; cases h'
/-- Rows of the call's own, sorted. -/
theorem sortL_any {w : World} {base : Nat} {A : Nat → Prop} {v : Value} {us : List Value} {LL : List (List Int)} (h : LLOwn w base A v us LL) (hnd : LL.Nodup) (hN : LL.length ≤ 1000) (hL : ∀ L ∈ LL, L.length ≤ 1000000) :
    ∃ a cap, v = .slice a LL.length cap ∧ Calls Try.prog 38 #[.slice a LL.length cap, .func (.func 39) #[] #[]] w fun e w' => e = .returned (.tuple #[]) ∧ ∃ LL', LL'.Perm LL ∧ LL'.Pairwise (fun A B => lexL A B = true) ∧ LLAt w' a LL' ∧ ∀ b0 w0, Below b0 w0 w → b0 ≤ base → b0 ≤ w.heap.size → Below b0 w0 w' := by
  obtain ⟨a, cap, hv, hsl⟩ := sl_own h.1
  refine ⟨a, cap, hv, ?_⟩
  by_cases h0 : LL.length = 0
  · have hnil : LL = [] := List.length_eq_zero_iff.1 h0
    subst hnil
    have := AnyF.slices_SortFunc_none (P := Try.prog) { Try.sortR with } a cap (.func (.func 39) #[] #[]) w
    refine Calls.mono this ?_
    rintro e w' ⟨rfl, rfl⟩
    exact ⟨rfl, [], List.Perm.refl _, List.Pairwise.nil, llat_nil _ _, fun _ _ hb _ _ => hb⟩
  obtain ⟨blk, cap', hv', hbase, hlt, hcap, hcs⟩ := own_row h.1 (by omega)
  rw [hv] at hv'
  simp only [Value.slice.injEq, true_and] at hv'
  obtain ⟨rfl, rfl⟩ := hv'
  obtain ⟨N, hNe⟩ := ex_eq LL.length
  rw [← hNe] at hN hcap ⊢
  -- the rows and their headers
  obtain ⟨rows, hrows⟩ := ex_eq (fun k : Nat => LL[k]?.getD [])
  obtain ⟨V, hV⟩ := ex_eq (fun k : Nat => (us[k]?).getD (.slice none 0 0))
  have hul := h.2.1
  have hcell : ∀ j, j < N → w.cell? ⟨blk, j, none⟩ = some (V j) ∧ w.frozen? ⟨blk, j, none⟩ = false := fun j hj => by
    have hj' : j < us.length := by omega
    have e : us[j]? = some (V j) := by rw [hV]; simp [hj']
    refine ⟨hcs j _ e, ?_⟩
    rcases h.1.2 with ⟨hv2, _⟩ | ⟨g, cp, cur, hv2, _, hgb, _⟩
    · rw [hv] at hv2; simp at hv2
    · rw [hv] at hv2
      simp only [Value.slice.injEq, Option.some.injEq, Addr.mk.injEq, and_true] at hv2
      obtain ⟨rfl, _⟩ := hv2
      exact frozen_of_heap hgb _
  have hrow : ∀ k, ∃ ak ck, V k = .slice ak (rows k).length ck ∧ IAt w ak (rows k) ∧ (∀ g off, ak = some ⟨g, off, none⟩ → 0 < (rows k).length → g ≠ blk) ∧ (rows k).length ≤ 1000000 := fun k => by
    by_cases hk : k < LL.length
    · obtain ⟨ak, ck, e1, e2, e3⟩ := h.2.2.2 k hk
      have er : rows k = LL[k] := by rw [hrows]; simp [hk]
      have ev : V k = .slice ak LL[k].length ck := by rw [hV]; simp only; rw [e1]; rfl
      rw [er]
      refine ⟨ak, ck, ev, e2, fun g off e h0 => ?_, hL _ (List.getElem_mem hk)⟩
      have := (e3 g off e h0).2
      rw [hv] at this
      exact fun e => this (by rw [e]; rfl)
    · have er : rows k = [] := by rw [hrows]; simp [hk]
      have ev : V k = .slice none 0 0 := by
        rw [hV]
        simp only
        rw [List.getElem?_eq_none (by omega)]
        rfl
      rw [er]
      exact ⟨none, 0, ev, iat_nil _ _, (fun _ _ e => by cases e), by simp⟩
  have hsz : (Array.range N).size = N := by simp
  have eg : ∀ args w, (callFunc 39 args).run Try.prog w = .ok (.enter 39 args) w := enters_of Try.func39 (by kernel_rfl) rfl
  have hone : OneCell V := fun x => by obtain ⟨ak, ck, e, _⟩ := hrow x; rw [e]; rfl
  have hH : Holds V w blk 0 (Array.range N) := fun j hj => by
    have hj' : j < N := by simpa using hj
    have e : (Array.range N)[j]! = j := by rw [getElem!_pos (Array.range N) j hj]; simp
    rw [Nat.zero_add, e]
    exact hcell j hj'
  have hcmp : CmpReads Try.prog 39 #[] V (fun x y => cmpL (rows x) (rows y)) blk 0 (Array.range N).size w := fun m os dk _ x y => by
    obtain ⟨ax, cx, ex, ix, nx, lx⟩ := hrow x
    obtain ⟨ay, cy, ey, iy, ny, _⟩ := hrow y
    rw [ex, ey]
    have hk := KeptBut.of_grown (grown_sortW (w := w) (enc := V) (g := blk) (n := m) (os := os) dk)
    have := cmpRow_any ax ay cx cy (rows x) (rows y) _ (ix.kept hk (fun g off e h0 e2 => nx g off e h0 (Option.some.inj e2))) (iy.kept hk (fun g off e h0 e2 => ny g off e h0 (Option.some.inj e2))) lx
    refine this.mono ?_
    rintro e w' ⟨rfl, rfl⟩
    exact ⟨rfl, 0, rfl⟩
  have hcon := Any.slices_SortFunc Try.sortR V hone (fun x y => cmpL (rows x) (rows y)) (swoL rows) 39 #[] blk 0 cap (Array.range N) w eg hcmp.lays hH hlt (by rw [hsz]; omega)
  change Calls Try.prog 38 _ _ _ at hcon
  rw [hsz] at hcon
  refine hcon.mono ?_
  rintro e w' ⟨rfl, d', q, os, hp, hs, rfl⟩
  have hd' : d'.size = N := by rw [hp.1, hsz]
  have hperm : d'.toList.Perm (List.range N) := by
    have hperm := hp.2.2
    have e1 : (d'.extract 0 N).toList = d'.toList := by rw [show N = d'.size from hd'.symm]; simp
    have e2 : ((Array.range N).extract 0 N).toList = List.range N := by
      rw [Array.toList_extract]
      simp [List.take_of_length_le]
    rw [e1, e2] at hperm
    exact hperm
  have hmap : (List.range N).map rows = LL := by
    apply List.ext_getElem
    · simp [hNe]
    · intro i h1 h2
      simp [hrows]
      rw [List.getElem?_eq_getElem h2]; rfl
  have hpl : (d'.toList.map rows).Perm LL := by rw [← hmap]; exact hperm.map rows
  refine ⟨rfl, d'.toList.map rows, hpl, ?_, ?_, fun b0 w0 hb h1 h2 => Below.grown hb (grown_sortW d') h2 (fun k hk => by cases hk; omega)⟩
  · have hnd2 : (d'.toList.map rows).Nodup := hpl.nodup_iff.2 hnd
    rw [List.pairwise_iff_getElem]
    intro i j hi hj hij
    have hi' : i < d'.size := by simpa using hi
    have hj' : j < d'.size := by simpa using hj
    have hh := hs i j (Nat.zero_le _) hij (by omega)
    rw [getElem!_pos d' i hi', getElem!_pos d' j hj'] at hh
    simp only [List.getElem_map, Array.getElem_toList]
    cases h3 : lexL (rows d'[i]) (rows d'[j]) with
    | true => rfl
    | false =>
      have h4 : lexL (rows d'[j]) (rows d'[i]) = false := by
        cases h5 : lexL (rows d'[j]) (rows d'[i]) with
        | false => rfl
        | true =>
          have h6 : ltOf (fun x y => cmpL (rows x) (rows y)) d'[j] d'[i] = true := by
            unfold ltOf
            exact decide_eq_true ((cmpL_lt _ _).2 h5)
          rw [h6] at hh; cases hh
      have h7 := lexL_tri h3 h4
      rw [List.nodup_iff_pairwise_ne, List.pairwise_iff_getElem] at hnd2
      have := hnd2 i j hi hj hij
      simp only [List.getElem_map, Array.getElem_toList] at this
      exact absurd h7 this
  · intro h00
    have hk := KeptBut.of_grown (grown_sortW (w := w) (enc := V) (g := blk) (n := q) (os := os) d')
    refine ⟨blk, 0, rfl, Nat.lt_of_lt_of_le hlt hk.size, fun k hk2 => ?_⟩
    have hk' : k < d'.size := by simpa using hk2
    have hw : Holds V (sortWorld V w blk 0 q d' os) blk 0 d' := SW.holds (⟨q, os, rfl⟩ : SW V w blk 0 d' (sortWorld V w blk 0 q d' os)) hlt hH (by rw [hd', hsz])
    have hc := (hw k hk').1
    rw [getElem!_pos d' k hk'] at hc
    obtain ⟨ak, ck, e1, e2, e3, _⟩ := hrow d'[k]
    have er : (d'.toList.map rows)[k] = rows d'[k] := by simp
    rw [er]
    exact ⟨ak, ck, by rw [hc, e1], e2.kept hk (fun g off e h0 e4 => e3 g off e h0 (Option.some.inj e4))⟩
end Go.Proofs.Ytlebimolgienkaa
