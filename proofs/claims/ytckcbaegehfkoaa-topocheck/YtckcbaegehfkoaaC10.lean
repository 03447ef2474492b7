/-
  The program's neighbours (layer 5): of each vertex its neighbours, rising.
  What the program's walks stand on: isVertex, marked.
  The document's Unlike and Less: does no number stand twice; which row stands ahead?
  A step through a region that draws its order, its guards decided ahead.
-/
import Derived.Test.YtckcbaegehfkoaaC09
import Derived.Deep.DeepCutAuto
import Derived.Test.YtckcbaegehfkoaaC07
import Derived.Test.YtckcbaegehfkoaaC03
import Derived.Test.YtckcbaegehfkoaaC02
import Derived.Test.YtckcbaegehfkoaaC01
import Derived.Deep.LoopGhost
import Derived.Test.YtckcbaegehfkoaaC06
import Derived.Deep.RegionHeld3
namespace Go.Proofs.Ytckcbaegehfkoaa
open Go.RowKit Go.Lib

theorem rw_made0 {w : World} {base g n : Nat} {e : TypeId} (h : w.ownsRow base e 1 (.slice (some ⟨g, 0, none⟩) n n) n (madeCells (Value.slice none 0 0).cells (n * 1)).toList) : g < w.heap.size ∧ ∀ j, j < n → w.cell? ⟨g, j, none⟩ = some (.slice none 0 0) ∧ w.frozen? ⟨g, j, none⟩ = false := by
  have e0 : (madeCells (Value.slice none 0 0).cells (n * 1)).toList = List.replicate n (.slice none 0 0) := by
    apply List.ext_getElem
    · simp [madeCells]
    · intro i h1 h2
      simp [madeCells, Value.cells, Nat.mod_one]
  rw [e0] at h
  have hg : g < w.heap.size := (h.lt g rfl).2
  refine ⟨hg, fun v hv => ?_⟩
  rcases h.2 with ⟨hv', _⟩ | ⟨g', cap, cur, hv', _, hgb, _⟩
  · simp at hv'
  · simp only [Value.slice.injEq, Option.some.injEq, Addr.mk.injEq, and_true, true_and] at hv'
    obtain ⟨rfl, _⟩ := hv'
    have := h.cells (g := g) rfl v (.slice none 0 0) (by rw [List.getElem?_replicate, if_pos hv])
    rw [add_at, Nat.zero_add] at this
    exact ⟨this, frozen_of_heap hgb _⟩
/-- What neighbours tells. -/
def NbIs (n : Int) (es : List (Int × Int)) (b : Bool) (w w' : World) (v : Value) : Prop :=
  (b = false ∧ v = .slice none 0 0 ∧ Below w.heap.size w w') ∨ (b = true ∧ ∃ m g : Nat, n = m ∧ v = .slice (some ⟨g, 0, none⟩) m m ∧ w.heap.size ≤ g ∧ NearAt w' g m es ∧ Below w.heap.size w w')
/-- Headers, the first k of them with their rooms. -/
def NH (w : World) (N R m T : Nat) (dg off : Nat → Nat) (k : Nat) : Prop := (N < w.heap.size ∧ ∀ j, j < m → (w.cell? ⟨N, j, none⟩).isSome = true ∧ w.frozen? ⟨N, j, none⟩ = false ∧ (j < k → ∃ s, w.cell? ⟨N, j, none⟩ = some (.slice (some ⟨R, s, none⟩) 0 (dg j)) ∧ (0 < dg j → s = off j))) ∧ Row1 w R T (fun _ => 0)
theorem NH.put {w : World} {N R m T : Nat} {dg off : Nat → Nat} {k : Nat} (h : NH w N R m T dg off k) (hne : N ≠ R) (hk : k < m) {s : Nat} (hs : 0 < dg k → s = off k) : NH (w.setCell ⟨N, k, none⟩ (.slice (some ⟨R, s, none⟩) 0 (dg k))) N R m T dg off (k + 1) := by
  have hkp := kept_set w ⟨N, k, none⟩ (.slice (some ⟨R, s, none⟩) 0 (dg k))
  refine ⟨⟨by simpa using h.1.1, fun j hj => ?_⟩, h.2.kept hkp (fun e => hne e.symm)⟩
  obtain ⟨h1, h2, h3⟩ := h.1.2 j hj
  by_cases e : j = k
  · subst e
    have hc : (w.setCell ⟨N, j, none⟩ (.slice (some ⟨R, s, none⟩) 0 (dg j))).cell? ⟨N, j, none⟩ = some (.slice (some ⟨R, s, none⟩) 0 (dg j)) := World.cell?_setCell_same' _ _ _ h1
    exact ⟨by rw [hc]; rfl, by rw [World.frozen?_setCell]; exact h2, fun _ => ⟨s, hc, hs⟩⟩
  · rw [World.cell?_setCell_other _ _ _ _ (by simp <;> omega), World.frozen?_setCell]
    exact ⟨h1, h2, fun hjk => h3 (by omega)⟩
theorem NH.below {w w' : World} {N R m T : Nat} {dg off : Nat → Nat} {k : Nat} (h : NH w N R m T dg off k) (hb : Below w.heap.size w w') : NH w' N R m T dg off k := by
  have hk := KeptBut.of_whole (fun _ => False) hb
  refine ⟨⟨Nat.lt_of_lt_of_le h.1.1 hb.size, fun j hj => ?_⟩, h.2.kept hk (fun e => e)⟩
  rw [hk.cell (p := ⟨N, j, none⟩) h.1.1 (fun e => e), hk.frozen (p := ⟨N, j, none⟩) h.1.1 (fun e => e)]
  exact h.1.2 j hj
theorem NH.all {w : World} {N R m T : Nat} {dg off : Nat → Nat} {es : List (Int × Int)} (h : NH w N R m T dg off m) (hne : N ≠ R) : NB w N R m T dg off (fun j => nbL j (es.take 0)) :=
  ⟨h.1.1, hne, fun j hj => by
    obtain ⟨s, h1, h2⟩ := (h.1.2 j hj).2.2 hj
    exact ⟨s, h1, (h.1.2 j hj).2.1, h2⟩, fun j hj => by simp [nbL], ⟨_, h.2, fun j hj i hi => by simp [nbL] at hi⟩⟩

set_option maxHeartbeats 2000000 in
set_option maxRecDepth 100000 in
theorem neighb_any (n : Int) (a : Option Addr) (cap : Nat) (es : List (Int × Int)) (b : Bool) (w : World) (hN : es.length ≤ 1000000) (hE : EAt w a es) (hb : b = true ↔ RightG n es) :
    Calls Try.prog 70 #[.agg #[.int .i64 n, .slice a es.length cap]] w fun e w' => ∃ v, e = .returned v ∧ NbIs n es b w w' v := by
  obtain ⟨N, hNe⟩ := ex_eq es.length
  have HR : Hid (∀ W, EAt W a es → Calls Try.prog 62 #[.agg #[.int .i64 n, .slice a N cap]] W fun e w' => e = .returned (.bool b) ∧ Below W.heap.size W w') := fun W h => by rw [hNe]; exact right_any n a cap es b W hN h hb
  have HDG : Hid (∀ W, EAt W a es → Calls Try.prog 76 #[.agg #[.int .i64 n, .slice a N cap]] W fun e w' => ∃ a' cap' D, e = .returned (.slice a' D.length cap') ∧ D = (if b = true then (List.range n.toNat).map (fun v : Nat => ((nbL v es).length : Int)) else []) ∧ IAt w' a' D ∧ Below W.heap.size W w' ∧ ∀ g off, a' = some ⟨g, off, none⟩ → W.heap.size ≤ g) := fun W h => by rw [hNe]; exact degreesN_any n a cap es b W hN h hb
  rw [← hNe] at hN ⊢
  have HN := hid hNe
  have HE := hid hE
  have HB := hid hb
  clear hNe hE hb
  go_enter Try.func70, Try.ntmps70
  have hbA : Below w.heap.size w (w.alloc (.cells #[.int .i64 n, .slice a N cap] 30)) := (Below.refl _ _).alloc (Nat.le_refl _) _
  have HEA := hid (HE.out.below hbA)
  have hsA : (w.alloc (.cells #[.int .i64 n, .slice a N cap] 30)).heap.size = w.heap.size + 1 := by simp
  have HOA := hid (heap_alloc_new w (.cells #[.int .i64 n, .slice a N cap] 30))
  go_wp2_with fail
  refine (HR.out _ HEA.out).mono ?_
  rintro e w1 ⟨rfl, hb1⟩
  rw [hsA] at hb1
  have hbw : Below w.heap.size w w1 := hbA.trans (hb1.mono (by omega))
  have o1 := (hb1.block w.heap.size (by omega)).trans HOA.out
  have HE1 := hid (HE.out.below hbw)
  have hs1 := hb1.size
  rw [hsA] at hs1
  have c0 := cell_of_heap o1 0
  have c1 := cell_of_heap o1 1
  have HO1 := hid o1
  clear hb1 hbA hsA HR HEA HOA o1
  cases b with
  | false =>
    clear HDG
    go_wp2
    go_ret
    exact ⟨_, rfl, Or.inl ⟨rfl, rfl, hbw⟩⟩
  | true =>
    have HRG : Hid (RightG n es) := HB.out.1 rfl
    obtain ⟨m, rfl⟩ : ∃ m : Nat, n = m := ⟨n.toNat, by have := HRG.out.1; omega⟩
    have hm : m ≤ 1000 := by have := HRG.out.2.1; omega
    have hNN : N ≤ 4000 := by have := HRG.out.2.2.1; rw [← HN.out] at this; exact this
    obtain ⟨T, hT⟩ := ex_eq (2 * N)
    obtain ⟨i0, hi, hz0, hz1, hz2⟩ := info_parts Try.info3
    obtain ⟨i1, hj, hy0, hy1, hy2⟩ := info_parts Try.info25
    obtain ⟨w2, hrun1, hown1, hgrow1⟩ := run_make_full (P := Try.prog) w1 w1.heap.size 26 25 i1 (.slice none 0 0) 1 Try.underlying26 hj hy0 hy1 .i64 .i64 m (by rw [hy2]; omega) (by unfold maxLen; omega) (Nat.le_refl _)
    have hb2 : Below w1.heap.size w1 w2 := Below.grown (Below.refl _ _) hgrow1 (Nat.le_refl _) (fun k hk => by cases hk)
    have hlt1 : w1.heap.size < w2.heap.size := (hown1.lt _ rfl).2
    obtain ⟨w3, hrun2, hown2, hgrow2⟩ := run_make_full (P := Try.prog) w2 w2.heap.size 25 3 i0 (.int .i64 0) 1 Try.underlying25 hi hz0 hz1 .i64 .i64 T (by rw [hz2]; omega) (by unfold maxLen; omega) (Nat.le_refl _)
    have hb3 : Below w2.heap.size w2 w3 := Below.grown (Below.refl _ _) hgrow2 (Nat.le_refl _) (fun k hk => by cases hk)
    have hlt2 : w2.heap.size < w3.heap.size := (hown2.lt _ rfl).2
    obtain ⟨dg, hdg⟩ := ex_eq (fun v : Nat => (nbL (v : Int) es).length)
    obtain ⟨off, hoff⟩ := ex_eq (sumN dg)
    have HRM : Hid (Rooms m T dg off) := by
      show Rooms m T dg off
      rw [hoff]
      refine rooms_sum ?_
      rw [hdg, hT, HN.out]
      exact deg_sum m es (fun e he => HRG.out.2.2.2.1 e he)
    have HST : Hid (∀ k, off (k + 1) = off k + dg k ∧ off 0 = 0) := fun k => by rw [hoff]; exact ⟨rfl, rfl⟩
    have hrow1 := rw_made0 hown1
    have HNH : Hid (NH w3 w1.heap.size w2.heap.size m T dg off 0) := ⟨⟨by omega, fun j hj => by
      obtain ⟨h1, h2⟩ := hrow1.2 j hj
      have hk := KeptBut.of_whole (fun _ => False) hb3
      have e1 := (hk.cell (p := ⟨w1.heap.size, j, none⟩) hlt1 (fun e => e)).trans h1
      exact ⟨by rw [e1]; rfl, (hk.frozen (p := ⟨w1.heap.size, j, none⟩) hlt1 (fun e => e)).trans h2, fun h => absurd h (by omega)⟩⟩, row1_made hown2 hlt2⟩
    have hb13 : Below w1.heap.size w1 w3 := hb2.trans (hb3.mono (by omega))
    have c0' : w3.cell? ⟨w.heap.size, 0, none⟩ = some (.int .i64 m) := (hb13.cell (p := ⟨w.heap.size, 0, none⟩) (by simp; omega)).trans c0
    have c1' : w3.cell? ⟨w.heap.size, 1, none⟩ = some (.slice a N cap) := (hb13.cell (p := ⟨w.heap.size, 1, none⟩) (by simp; omega)).trans c1
    have c2' : w2.cell? ⟨w.heap.size, 1, none⟩ = some (.slice a N cap) := (hb2.cell (p := ⟨w.heap.size, 1, none⟩) (by simp; omega)).trans c1
    have HE3 := hid (HE1.out.below hb13)
    have hTI : (2 : Int) * (N : Int) = (T : Int) := by omega
    have HDGe := hid hdg
    clear hown1 hgrow1 hown2 hgrow2 hi hz0 hz2 hj hy0 hy1 hy2 HB hrow1 hdg hoff hT
    go_wp2_with fail
    refine (HDG.out w3 HE3.out).mono ?_
    rintro e w4 ⟨a', cap', D, rfl, hD, hI4, hb4, hnew⟩
    have HNEW := hid hnew
    rw [if_pos trivial] at hD
    have hDl : D.length = m := by rw [hD]; simp
    rw [hDl]
    have HD : Hid (∀ k (h : k < D.length), D[k] = (dg k : Nat)) := fun k h => by simp [hD, HDGe.out]
    have HDl := hid hDl
    have HI4 := hid hI4
    have HNH4 : Hid (NH w4 w1.heap.size w2.heap.size m T dg off 0) := HNH.out.below hb4
    have hb14 : Below w1.heap.size w1 w4 := hb13.trans (hb4.mono hb13.size)
    have hsz4 := hb4.size
    have hNR : w1.heap.size ≠ w2.heap.size := by omega
    clear hD hI4 hDl hnew HNH HDG c0 c1 c0' c1' c2' hb2 hb3 hb13 hrun1 hrun2
    go_wp2
    go_loopw [4, 23] (fun r i wr => ∃ (k s Z : Nat), k ≤ m ∧ i = .int .i64 k ∧ r = .slice (some ⟨w2.heap.size, s, none⟩) Z Z ∧ Hid (Z + off k = T) ∧ Hid (0 < Z → s = off k) ∧ Hid (NH wr w1.heap.size w2.heap.size m T dg off k) ∧ Hid (KeptBut (fun x => x = w1.heap.size) w4 wr) ∧ Below w1.heap.size w1 wr) (fun _ i _ => m - (RowKit.intOf i).toNat)
    case atStart => exact ⟨0, 0, T, Nat.zero_le _, rfl, rfl, (by show T + off 0 = T; rw [(HST.out 0).2]; rfl), (fun _ => ((HST.out 0).2).symm), HNH4, KeptBut.refl _ _, hb14⟩
    case round =>
      obtain ⟨k, s, Z, hk, rfl, rfl, hZ, hsZ, hnh, hbr, hbr1⟩ := hrel
      by_cases hlt : k < m
      · have hkr : k < D.length := by rw [HDl.out]; exact hlt
        obtain ⟨g, o, rfl, hgl, hcs⟩ := HI4.out (by omega)
        have hgN := HNEW.out g o rfl
        have d0 := (hbr.out.cell (p := ⟨g, o + k, none⟩) hgl (show ¬ g = w1.heap.size by omega)).trans (hcs k hkr)
        rw [HD.out k hkr] at d0
        obtain ⟨d, hd⟩ := ex_eq (dg k)
        rw [← hd] at d0
        have hdZ : d ≤ Z := by
          have h1 := HRM.out.1 k hlt
          have h2 := hZ.out
          omega
        obtain ⟨n1, n2, _⟩ := hnh.out.1.2 k hlt
        obtain ⟨v1, n1⟩ := Option.isSome_iff_exists.1 n1
        have q1 : (k : Int) < (m : Int) := by omega
        have q2 : (d : Int) ≤ (Z : Int) := by omega
        have q3 : (0 : Int) ≤ (d : Int) := by omega
        have HST1 := hid (HST.out k).1
        have HX : Hid (∀ s', (0 < d → s' = off k) → NH (wr.setCell ⟨w1.heap.size, k, none⟩ (.slice (some ⟨w2.heap.size, s', none⟩) 0 d)).drew w1.heap.size w2.heap.size m T dg off (k + 1)) := fun s' h => by
          have := hnh.out.put hNR hlt (s := s') (by rw [← hd]; exact h)
          rw [← hd] at this
          exact this
        have HB1 : Hid (∀ v, KeptBut (fun x => x = w1.heap.size) w4 (wr.setCell ⟨w1.heap.size, k, none⟩ v).drew ∧ Below w1.heap.size w1 (wr.setCell ⟨w1.heap.size, k, none⟩ v).drew) := fun v => ⟨hbr.out.trans ((kept_set wr ⟨w1.heap.size, k, none⟩ v).trans (KeptBut.of_whole _ (Below.refl _ _).drew)), (hbr1.setCell (p := ⟨w1.heap.size, k, none⟩) (Nat.le_refl _) v).drew⟩
        have HDK := hid hd
        clear hd hnh hcs hgN hbr
        by_cases hdz : d = Z
        · subst hdz
          go_wp2_with fail
          go_region
          all_goals
            go_wp2
            go_roundw
            case rel => exact ⟨k + 1, s, 0, by omega, by go_num, rfl, (by show 0 + off (k + 1) = T; rw [HST1.out, ← HDK.out]; have := hZ.out; omega), (fun h => absurd h (by omega)), HX.out s (fun h => hsZ.out h), (HB1.out _).1, (HB1.out _).2⟩
            case measure => simp [RowKit.intOf]; omega
        · have q4 : ¬ Z = d := fun e => hdz e.symm
          go_wp2_with fail
          go_region
          all_goals
            go_wp2
            go_roundw
            case rel => exact ⟨k + 1, s + d, Z - d, by omega, by go_num, rfl, (by show Z - d + off (k + 1) = T; rw [HST1.out, ← HDK.out]; have := hZ.out; omega), (fun _ => by rw [HST1.out, ← HDK.out, hsZ.out (by omega)]), HX.out s (fun h => hsZ.out (by omega)), (HB1.out _).1, (HB1.out _).2⟩
            case measure => simp [RowKit.intOf]; omega
      · obtain rfl : k = m := by omega
        have HNB : Hid (NB wr w1.heap.size w2.heap.size k T dg off (fun j => nbL j (es.take 0))) := hnh.out.all hNR
        have c1r : wr.cell? ⟨w.heap.size, 1, none⟩ = some (.slice a N cap) := (hbr1.cell (p := ⟨w.heap.size, 1, none⟩) (by simp; omega)).trans (cell_of_heap HO1.out 1)
        have HER := hid (HE1.out.below hbr1)
        clear hnh hbr hZ hsZ HI4 HD
        go_wp2
        go_loopw [41] (fun i wz => ∃ t : Nat, t ≤ N ∧ i = .int .i64 t ∧ Hid (NB wz w1.heap.size w2.heap.size k T dg off (fun j => nbL j (es.take t))) ∧ Below w1.heap.size w1 wz) (fun i _ => N - (RowKit.intOf i).toNat)
        case atStart => exact ⟨0, Nat.zero_le _, rfl, HNB, hbr1⟩
        case round =>
          obtain ⟨t, ht, rfl, hnb, hbz⟩ := hrel
          by_cases hlt : t < N
          · have hkr : t < es.length := by rw [← HN.out]; exact hlt
            obtain ⟨g, o, rfl, hg, hcs⟩ := HE1.out.at hkr
            have hin := (HRG.out.at t hkr).1
            obtain ⟨p, hp⟩ : ∃ p : Nat, (p : Int) = es[t].1 := ⟨es[t].1.toNat, by omega⟩
            obtain ⟨q, hq⟩ : ∃ q : Nat, (q : Int) = es[t].2 := ⟨es[t].2.toNat, by omega⟩
            have d := hcs wr hbz t hkr
            rw [← hp, ← hq] at d hin
            obtain ⟨d0, d1⟩ := d
            have i1 : p < q := by omega
            have i2 : q < k := by omega
            obtain ⟨hr1, hr2⟩ := nb_room hkr hp hq i1
            obtain ⟨B, hB⟩ := ex_eq (fun j : Nat => nbL (j : Int) (es.take t))
            rw [← hB] at hnb
            have hf1 : (B p).length < dg p := by rw [hB, HDGe.out]; exact hr1
            have hf2 : (B q).length < dg q := by rw [hB, HDGe.out]; exact hr2
            have HNXT : Hid (∀ j, (if j = q then (if q = p then B p ++ [(q : Int)] else B q) ++ [(p : Int)] else if j = p then B p ++ [(q : Int)] else B j) = nbL (j : Int) (es.take (t + 1))) := fun j => by
              rw [if_neg (show ¬ q = p by omega), hB]
              exact nb_next hkr hp hq i1 j
            have hk2 : w.heap.size < wr.heap.size := Nat.lt_of_lt_of_le (by omega) hbz.size
            have hNw : w1.heap.size < wr.heap.size := hnb.out.ltN
            obtain ⟨i0, hi0, hy0, hy1, hy2⟩ := info_parts Try.info3
            have hNR2 : w2.heap.size < wr.heap.size := by
              obtain ⟨c, hc, _⟩ := hnb.out.rm
              exact hc.1
            obtain ⟨W1, hW1⟩ := ex_eq (wr.alloc (.cells #[.int .i64 p, .int .i64 q] 59))
            have hNB1 : NB W1 w1.heap.size w2.heap.size k T dg off B := by rw [hW1]; exact hnb.out.alloc _
            have hbW : Below w1.heap.size w1 W1 := by rw [hW1]; exact hbz.alloc hbz.size _
            have e0 : W1.cell? ⟨wr.heap.size, 0, none⟩ = some (.int .i64 p) := by rw [hW1]; exact cell_of_heap (heap_alloc_new _ _) 0
            have e1 : W1.cell? ⟨wr.heap.size, 1, none⟩ = some (.int .i64 q) := by rw [hW1]; exact cell_of_heap (heap_alloc_new _ _) 1
            have hsW : wr.heap.size < W1.heap.size := by rw [hW1]; simp
            obtain ⟨o1, n1, c1, a1, l1, b1, s1, H4⟩ := hNB1.half HRM.out (j := p) (by omega) hf1 (q : Int) (E := wr.heap.size) hsW (by omega) (by omega)
            have HA1 := hid b1
            have HS1 := hid s1
            have HH4 := hid H4
            have HW1 := hid hW1
            have hltN : w1.heap.size < W1.heap.size := by omega
            have q1 : (p : Int) < (k : Int) := by omega
            have q2 : (q : Int) < (k : Int) := by omega
            have q3 : (t : Int) < (N : Int) := by omega
            have HI0 := hid hi0
            have HY1 := hid hy1
            have HF2 := hid hf2
            have HBW := hid hbW
            clear hp hq hB hnb hin hr1 hr2 hcs hkr b1 s1 H4 hW1 hi0 hy0 hy1 hy2 hf1 hf2 hNB1 hbW
            obtain ⟨W3, hW3⟩ := ex_eq (((W1.drew.alloc (.cells #[.int .i64 q] 3)).setCell ⟨w2.heap.size, o1 + n1, none⟩ (.int .i64 q)).setCell ⟨w1.heap.size, p, none⟩ (.slice (some ⟨w2.heap.size, o1, none⟩) (n1 + 1) c1))
            have H3 := HH4.out _ rfl
            have hNB3 := H3.nb
            rw [← hW3] at hNB3
            have hbW3 : Below w1.heap.size w1 W3 := by rw [hW3]; exact H3.low _ _ (Nat.le_refl _) (by omega) HBW.out
            have e30 : W3.cell? ⟨wr.heap.size, 0, none⟩ = some (.int .i64 p) := by rw [hW3]; exact (H3.var2 0).trans e0
            have e31 : W3.cell? ⟨wr.heap.size, 1, none⟩ = some (.int .i64 q) := by rw [hW3]; exact (H3.var2 1).trans e1
            have hsW3 : wr.heap.size < W3.heap.size := by rw [hW3]; exact Nat.lt_of_lt_of_le hsW H3.size
            have hlt3 : w1.heap.size < W3.heap.size := by omega
            obtain ⟨o2, n2, c2, a2, l2, b2, s2, H5⟩ := hNB3.half HRM.out (j := q) i2 (by simp only [if_neg (show ¬ q = p by omega)]; exact HF2.out) (p : Int) (E := wr.heap.size) hsW3 (by omega) (by omega)
            have HA2 := hid b2
            have HS2 := hid s2
            have HH5 := hid H5
            obtain ⟨W5, hW5⟩ := ex_eq (((W3.drew.alloc (.cells #[.int .i64 p] 3)).setCell ⟨w2.heap.size, o2 + n2, none⟩ (.int .i64 p)).setCell ⟨w1.heap.size, q, none⟩ (.slice (some ⟨w2.heap.size, o2, none⟩) (n2 + 1) c2))
            have H6 := H5 _ rfl
            have HNB5 : Hid (NB W5 w1.heap.size w2.heap.size k T dg off (fun j => nbL j (es.take (t + 1)))) := by
              have := H6.nb
              rw [← hW5] at this
              exact this.congr (fun j _ => HNXT.out j)
            have hbW5 : Below w1.heap.size w1 W5 := by rw [hW5]; exact H6.low _ _ (Nat.le_refl _) (by omega) hbW3
            have HW3 := hid hW3
            have HW5 := hid hW5
            clear H3 hNB3 hW3 b2 s2 H5 hW5 H6 hbW3
            go_upto_region 13 with fail
            rw [← HW1.out]
            go_cut [41] from 41 to 71 (fun v wx => v = .int .i64 t ∧ wx = W3)
            case first =>
              clear a2 e30 e31
              go_wp2_with fail
              go_region_law (refine step_append_put rfl (.tmp 52) (.tmp 55) 25 rfl 3 i0 Try.underlying25 HI0.out HY1.out w2.heap.size o1 n1 c1 (by simp [Act.eval]) W1.heap.size 1 (.int .i64 q) (by simp [Act.eval]) HA1.out rfl l1 HS1.out ?_; intro w4 hw4; have b4 := (HH4.out w4 hw4.out).hd.1; have f4 := (HH4.out w4 hw4.out).hd.2; have g4 := ((HH4.out w4 hw4.out).var 0).trans e0)
              all_goals
                go_wp2_with fail
                go_meet
                case rel => exact ⟨rfl, by rw [HW3.out, hw4.out]; rfl⟩
            case rest =>
              obtain ⟨rfl, hwc⟩ := hcut
              rw [hwc]
              clear hwc a1 e0 e1
              go_wp2_with fail
              go_region_law (refine step_append_put rfl (.tmp 65) (.tmp 68) 25 rfl 3 i0 Try.underlying25 HI0.out HY1.out w2.heap.size o2 n2 c2 (by simp [Act.eval]) W3.heap.size 1 (.int .i64 p) (by simp [Act.eval]) HA2.out rfl l2 HS2.out ?_; intro w4 hw4; have b4 := (HH5.out w4 hw4.out).hd.1; have f4 := (HH5.out w4 hw4.out).hd.2; have g4 := ((HH5.out w4 hw4.out).var 1).trans e31)
              all_goals
                have HW6 : Hid (w4.setCell ⟨w1.heap.size, q, none⟩ (.slice (some ⟨w2.heap.size, o2, none⟩) (n2 + 1) c2) = W5) := by
                  show _ = _
                  rw [HW5.out, hw4.out]
                  rfl
                clear b4 f4 g4 a2 e30 e31 hw4 HH5 HS2 HA2 HI0 HY1
                rw [HW6.out]
                go_wp2
                go_roundw
                case rel => exact ⟨t + 1, by omega, by go_num, HNB5, hbW5⟩
                case measure => simp [RowKit.intOf]; omega
          · obtain rfl : t = N := by omega
            have htk : es.take t = es := by rw [HN.out, List.take_length]
            rw [htk] at hnb
            have HNR : Hid (NearAt wr w1.heap.size k es) := hnb.out.near HRM.out
            clear hnb
            go_wp2
            go_ret
            exact ⟨_, rfl, Or.inr ⟨rfl, k, w1.heap.size, rfl, rfl, by omega, HNR.out, hbw.trans (hbz.mono (by omega))⟩⟩
end Go.Proofs.Ytckcbaegehfkoaa
namespace Go.Proofs.Ytckcbaegehfkoaa
open Go.RowKit Go.Lib

set_option maxHeartbeats 400000 in
theorem vtx_any (n v : Int) (r : Bool) (w : World) (hr : r = decide (0 ≤ v ∧ v < n)) :
    Calls Try.prog 97 #[.int .i64 n, .int .i64 v] w fun e w' => e = .returned (.bool r) ∧ w' = w := by
  by_cases h : 0 ≤ v
  · by_cases h2 : v < n
    · rw [decide_eq_true (by omega)] at hr
      subst hr
      go_enter Try.func97, Try.ntmps97
      go_wp2
      go_ret
      exact ⟨rfl, rfl⟩
    · rw [decide_eq_false (by omega)] at hr
      subst hr
      go_enter Try.func97, Try.ntmps97
      go_wp2
      go_ret
      exact ⟨rfl, rfl⟩
  · rw [decide_eq_false (by omega)] at hr
    subst hr
    go_enter Try.func97, Try.ntmps97
    go_wp2
    go_ret
    exact ⟨rfl, rfl⟩

/-- A row without doubles, of vertices alone, and not empty. -/
def GoodL (n : Int) (l : List Int) : Prop := l ≠ [] ∧ l.Nodup ∧ ∀ x ∈ l, 0 ≤ x ∧ x < n
/-- The first k of l are vertices, none twice. -/
def GoodTo (n : Int) (l : List Int) (k : Nat) : Prop := (l.take k).Nodup ∧ ∀ x ∈ l.take k, 0 ≤ x ∧ x < n
theorem take_next {l : List Int} {k : Nat} (h : k < l.length) : l.take (k + 1) = l.take k ++ [l[k]] := List.take_append_getElem h |>.symm
theorem goodTo_next {n : Int} {l : List Int} {k : Nat} (h : GoodTo n l k) (hk : k < l.length) (h1 : 0 ≤ l[k] ∧ l[k] < n) (h2 : l[k] ∉ l.take k) : GoodTo n l (k + 1) := by
  unfold GoodTo
  rw [take_next hk]
  refine ⟨List.nodup_append.2 ⟨h.1, by simp, fun y hy z hz => by simp at hz; subst hz; exact fun e => h2 (e ▸ hy)⟩, fun x hx => ?_⟩
  rcases List.mem_append.1 hx with hx | hx
  · exact h.2 x hx
  · simp at hx; subst hx; exact h1
theorem good_not_in {n : Int} {l : List Int} {k : Nat} (hk : k < l.length) (h : ¬ (0 ≤ l[k] ∧ l[k] < n)) : ¬ GoodL n l := fun hg => h (hg.2.2 _ (List.getElem_mem hk))
theorem good_not_twice {n : Int} {l : List Int} {k : Nat} (hk : k < l.length) (h : l[k] ∈ l.take k) : ¬ GoodL n l := fun hg => by
  obtain ⟨j, hj, e⟩ := List.getElem_of_mem h
  rw [List.length_take] at hj
  rw [List.getElem_take] at e
  exact List.pairwise_iff_getElem.1 hg.2.1 j k (by omega) hk (by omega) e
/-- What marked tells. -/
def MarkIs (m : Nat) (l : List Int) (w w' : World) (v : Value) : Prop :=
  (GoodL m l ∧ ∃ g, v = .tuple #[.slice (some ⟨g, 0, none⟩) m m, .bool true] ∧ w.heap.size ≤ g ∧ RowB w' g m (fun j => decide ((j : Int) ∈ l)) ∧ Below w.heap.size w w') ∨
  (¬ GoodL m l ∧ ∃ u, v = .tuple #[u, .bool false] ∧ Below w.heap.size w w')

set_option maxHeartbeats 1000000 in
set_option maxRecDepth 100000 in
theorem marked_any (m : Nat) (la : Option Addr) (lc : Nat) (l : List Int) (w : World) (hm : m ≤ 1000) (hL : l.length ≤ 1000000) (hI : IAt w la l) :
    Calls Try.prog 71 #[.int .i64 m, .slice la l.length lc] w fun e w' => ∃ v, e = .returned v ∧ MarkIs m l w w' v := by
  obtain ⟨M, hMe⟩ := ex_eq l.length
  obtain ⟨i0, hi, hz0, hz1, hz2⟩ := info_parts Try.info4
  obtain ⟨w2, hrun, hown, hgrow⟩ := run_make_full (P := Try.prog) w w.heap.size 103 4 i0 (.bool false) 1 Try.underlying103 hi hz0 hz1 .i64 .i64 m (by rw [hz2]; omega) (by unfold maxLen; omega) (Nat.le_refl _)
  have HRW : Hid (RowB w2 w.heap.size m (fun j => decide ((j : Int) ∈ l.take 0))) := (rowB_made hown).congr (fun j _ => by simp)
  have hb2 : Below w.heap.size w w2 := Below.grown (Below.refl _ _) hgrow (Nat.le_refl _) (fun k hk => by cases hk)
  have HI := hid hI
  have HM := hid hMe
  rw [← hMe] at hL ⊢
  clear hI hMe hown hgrow hi hz0 hz1 hz2
  go_enter Try.func71, Try.ntmps71
  go_wp2
  go_loopw [13] (fun i wr => ∃ k : Nat, k ≤ M ∧ i = .int .i64 k ∧ Hid (RowB wr w.heap.size m (fun j => decide ((j : Int) ∈ l.take k))) ∧ Hid (GoodTo m l k) ∧ Below w.heap.size w wr) (fun i _ => M - (RowKit.intOf i).toNat)
  case atStart => exact ⟨0, Nat.zero_le _, rfl, HRW, ⟨by simp, by simp⟩, hb2⟩
  case round =>
    obtain ⟨k, hk, rfl, hrow, hgd, hbr⟩ := hrel
    by_cases hlt : k < M
    · have hkr : k < l.length := by rw [← HM.out]; exact hlt
      obtain ⟨g, off, rfl, hgl, hcs⟩ := HI.out (by omega)
      have d0 := (hbr.cell (p := ⟨g, off + k, none⟩) hgl).trans (hcs k hkr)
      obtain ⟨x, hx⟩ := ex_eq l[k]
      rw [← hx] at d0
      have HX := hid hx
      clear hcs hx
      by_cases hin : 0 ≤ x ∧ x < m
      · obtain ⟨p, rfl⟩ : ∃ p : Nat, x = p := ⟨x.toNat, by omega⟩
        have hp : p < m := by omega
        have q1 : (p : Int) < (m : Int) := by omega
        have hv := vtx_any m p true wr (decide_eq_true hin).symm
        obtain ⟨r1, r1f⟩ := hrow.out.2 p hp
        by_cases hmem : (p : Int) ∈ l.take k
        · have e1 : decide ((p : Int) ∈ l.take k) = true := decide_eq_true hmem
          simp only [e1] at r1
          have HNG : Hid (¬ GoodL m l) := good_not_twice hkr (by rw [← HX.out]; exact hmem)
          clear e1 hmem hrow hgd hin
          go_wp2_with (go_at_call 97; refine hv.mono ?_; rintro e w' ⟨rfl, rfl⟩)
          go_ret2
          exact ⟨_, rfl, Or.inr ⟨HNG.out, _, rfl, hbr⟩⟩
        · have e1 : decide ((p : Int) ∈ l.take k) = false := decide_eq_false hmem
          simp only [e1] at r1
          have HNX : Hid (GoodTo m l (k + 1)) := goodTo_next hgd.out hkr (by rw [← HX.out]; exact hin) (by rw [← HX.out]; exact hmem)
          have HRX : Hid (RowB (wr.setCell ⟨w.heap.size, p, none⟩ (.bool true)) w.heap.size m (fun j => decide ((j : Int) ∈ l.take (k + 1)))) := (hrow.out.put hp true).congr (fun j _ => by
            rw [take_next hkr, ← HX.out]
            by_cases e : j = p
            · subst e; rw [if_pos rfl]; exact (decide_eq_true (by simp)).symm
            · rw [if_neg e]
              apply decide_eq_decide.2
              simp only [List.mem_append, List.mem_singleton]
              exact ⟨Or.inl, fun h => h.resolve_right (by omega)⟩)
          have hbX : Below w.heap.size w (wr.setCell ⟨w.heap.size, p, none⟩ (.bool true)) := hbr.setCell (p := ⟨w.heap.size, p, none⟩) (Nat.le_refl _) _
          clear e1 hmem hrow hgd hin
          go_wp2_with (go_at_call 97; refine hv.mono ?_; rintro e w' ⟨rfl, rfl⟩)
          go_roundw
          case rel => exact ⟨k + 1, by omega, by go_num, HRX, HNX, hbX⟩
          case measure => simp [RowKit.intOf]; omega
      · have hv := vtx_any m x false wr (decide_eq_false hin).symm
        have HNG : Hid (¬ GoodL m l) := good_not_in hkr (by rw [← HX.out]; exact hin)
        clear hin hrow hgd
        go_wp2_with (go_at_call 97; refine hv.mono ?_; rintro e w' ⟨rfl, rfl⟩)
        go_ret2
        exact ⟨_, rfl, Or.inr ⟨HNG.out, _, rfl, hbr⟩⟩
    · obtain rfl : k = M := by omega
      have htk : l.take k = l := by rw [HM.out, List.take_length]
      rw [htk] at hrow
      have hgd2 := hgd.out
      unfold GoodTo at hgd2
      rw [htk] at hgd2
      have HG2 := hid hgd2
      have HRow := hid hrow.out
      clear hgd2 hgd hrow
      by_cases h0 : k = 0
      · subst h0
        have HNG : Hid (¬ GoodL m l) := fun h => h.1 (List.length_eq_zero_iff.1 HM.out.symm)
        go_wp2
        go_ret2
        exact ⟨_, rfl, Or.inr ⟨HNG.out, _, rfl, hbr⟩⟩
      · have q0 : (0 : Int) < (k : Int) := by omega
        have HNE : Hid (l ≠ []) := fun e => h0 (by rw [HM.out, e]; rfl)
        go_wp2
        go_ret2
        exact ⟨_, rfl, Or.inl ⟨⟨HNE.out, HG2.out⟩, w.heap.size, (by simp <;> omega), Nat.le_refl _, HRow.out, hbr⟩⟩
end Go.Proofs.Ytckcbaegehfkoaa
namespace Go.Proofs.Ytckcbaegehfkoaa
open Go.RowKit Go.Lib

theorem nodup_no {xs : List Int} {i k : Nat} (hi : i < xs.length) (hk : k < i) (h : xs[i] = xs[k]'(by omega)) : ¬ xs.Nodup := fun hn => (List.pairwise_iff_getElem.1 hn k i (by omega) hi hk) h.symm
theorem nodup_next {xs : List Int} {i : Nat} (hi : i < xs.length) (h : (xs.take i).Nodup) (hn : ∀ j (hj : j < xs.length), j < i → xs[j] ≠ xs[i]) : (xs.take (i + 1)).Nodup := by
  rw [List.take_succ_eq_append_getElem hi]
  refine List.nodup_append.2 ⟨h, by simp, fun a ha b hb => ?_⟩
  simp at hb
  subst hb
  obtain ⟨j, hj, rfl⟩ := List.getElem_of_mem ha
  rw [List.length_take] at hj
  rw [List.getElem_take]
  exact hn j (by omega) (by omega)

set_option maxHeartbeats 1000000 in
set_option maxRecDepth 100000 in
theorem unlike_any (a : Option Addr) (cap : Nat) (xs : List Int) (r : Bool) (w : World) (hN : xs.length ≤ 1000000) (h : IAt w a xs) (hr : r = true ↔ xs.Nodup) :
    Calls Try.prog 39 #[.slice a xs.length cap] w fun e w' => e = .returned (.bool r) ∧ Below w.heap.size w w' := by
  have H1 := hid h
  have HR := hid hr
  obtain ⟨N, hNe⟩ := ex_eq xs.length
  have HN := hid hNe
  obtain ⟨b0, hb0⟩ := ex_eq w.heap.size
  rw [← hNe] at hN ⊢
  have H1B : Hid (∀ W, Below b0 w W → IAt W a xs) := fun W hW => h.below (by rw [← hb0]; exact hW)
  rw [← hb0]
  clear h hr hNe hb0
  go_enter Try.func39, Try.ntmps39
  go_wp2
  go_loopg [3] N (fun G i wz => ∃ k : Nat, k ≤ N ∧ N - k ≤ G ∧ i = .int .i64 k ∧ Hid ((xs.take k).Nodup) ∧ Hid (Below b0 w wz))
  case atStart => exact ⟨0, Nat.zero_le _, by omega, rfl, (by simp : (xs.take 0).Nodup), Below.refl _ _⟩
  case round =>
    obtain ⟨i, hi, hG, rfl, hnd, hb⟩ := hrel
    by_cases hlt : i < N
    · have hir : i < xs.length := by rw [← HN.out]; exact hlt
      have q1 : (i : Int) < (N : Int) := by omega
      go_wp2
      go_loopg [4] i (fun G j wz => ∃ k : Nat, k ≤ i ∧ i - k ≤ G ∧ j = .int .i64 k ∧ Hid (∀ j (hj : j < xs.length), j < k → xs[j] ≠ xs[i]) ∧ Hid (Below b0 w wz))
      case atStart => exact ⟨0, Nat.zero_le _, by omega, rfl, (fun j _ h => absurd h (by omega)), hb⟩
      case round =>
        obtain ⟨k, hk, hGk, rfl, hno, hb2⟩ := hrel
        by_cases hkl : k < i
        · have hkr : k < xs.length := by omega
          obtain ⟨g, off, rfl, hg, hc⟩ := H1B.out wr hb2.out (by omega)
          have d1 := hc i hir
          have d2 := hc k hkr
          obtain ⟨x, hx⟩ := ex_eq xs[i]
          obtain ⟨y, hy⟩ := ex_eq xs[k]
          rw [← hx] at d1
          rw [← hy] at d2
          have q2 : (k : Int) < (N : Int) := by omega
          have q3 : (k : Int) < (i : Int) := by omega
          by_cases hxy : x = y
          · obtain rfl : r = false := b_false HR.out (nodup_no hir hkl (by rw [← hx, ← hy]; exact hxy))
            subst hxy
            clear HR hc hx hy hno
            go_wp2
            go_quiet (fail)
            go_wp2
            go_ret
            exact ⟨rfl, below_drewN hb2.out _⟩
          · have HNX : Hid (∀ j (hj : j < xs.length), j < k + 1 → xs[j] ≠ xs[i]) := fun j hj hjk => by
              by_cases e : j < k
              · exact hno.out j hj e
              · obtain rfl : j = k := by omega
                rw [← hx, ← hy]; exact fun e => hxy e.symm
            have hq : (x == y) = false := beq_eq_false_iff_ne.2 hxy
            clear hc hx hy hno hxy
            go_wp2
            go_quiet (fail)
            go_wp2
            go_roundg (i - (k + 1))
            case measure => omega
            case rel => exact ⟨k + 1, by omega, Nat.le_refl _, by go_num, HNX, below_drewN hb2.out _⟩
        · obtain rfl : k = i := by omega
          have HND : Hid ((xs.take (k + 1)).Nodup) := nodup_next hir hnd.out hno.out
          clear hno hnd
          go_wp2
          go_roundg (N - (k + 1))
          case measure => omega
          case rel => exact ⟨k + 1, by omega, Nat.le_refl _, by go_num, HND, hb2⟩
    · obtain rfl : i = N := by omega
      obtain rfl : r = true := HR.out.2 (by have := hnd.out; rw [HN.out, List.take_length] at this; exact this)
      clear HR hnd
      go_wp2
      go_ret
      exact ⟨rfl, hb.out⟩

end Go.Proofs.Ytckcbaegehfkoaa
namespace Go.Proofs.Ytckcbaegehfkoaa
open Go.RowKit Go.Lib

theorem takeW {P : Program} {ops : Array Oper} {Q : Exit → Act → World → Prop} {md : Region.Mode} {S : World → Prop} {i : Nat} {oi : Oper} {dst : Option Tmp} {v : Value} {fuel : Nat} {listed : Array Bool} {a : Act} {w : World} (hi : ops[i]? = some oi) (hd : oi.dst = dst)
    (hs : Region.noSelect ops = true) (hf : Region.free md ops listed i = true) (hr : (Region.ready md ops listed).contains i = true)
    (hQ : ∀ c a w, Q (.panic c) (a.put dst v) w → Q (.panic c) a w) (hy : YieldsIf P ops S oi v a) (hS : S w)
    (h : wpAnyH P md ops Q S fuel (listed.setIfInBounds i true) (a.put dst v) w) : wpAnyH P md ops Q S (fuel + 1) listed a w := by
  subst hd
  exact wpAnyH_take hi hs hf hr hQ hy hS h
end Go.Proofs.Ytckcbaegehfkoaa
