/-
  The document's Without: one edge less.
-/
import Derived.Test.YtalhjankofdhgaaRNorm
import Derived.Test.YtalhjankofdhgaaGStep
namespace Go.Proofs.Ytalhjankofdhgaa
open Go.RowKit Go.Lib

def wo (e0 : Int × Int) (l : List (Int × Int)) : List (Int × Int) := l.filter (fun e => !(e == e0))
theorem wo_nil (e0 : Int × Int) : wo e0 [] = [] := rfl
theorem wo_drop {e0 e : Int × Int} {l : List (Int × Int)} (h : e = e0) : wo e0 (l ++ [e]) = wo e0 l := by unfold wo; rw [List.filter_append]; simp [h]
theorem wo_keep {e0 e : Int × Int} {l : List (Int × Int)} (h : e ≠ e0) : wo e0 (l ++ [e]) = wo e0 l ++ [e] := by unfold wo; rw [List.filter_append]; simp [h]
theorem wo_len (e0 : Int × Int) (l : List (Int × Int)) : (wo e0 l).length ≤ l.length := List.length_filter_le _ _
theorem wo_ans {n x y : Int} {es : List (Int × Int)} (hR : RightG n es) (hm : (min x y, max x y) ∈ es) : WithoutE n es x y 0 (wo (min x y, max x y) es) := by
  refine Or.inr (Or.inr ⟨hR, hm, rfl, List.Pairwise.filter _ hR.2.2.2.2, ?_, fun e => ?_⟩)
  · have h1 : wo (min x y, max x y) es = es.erase (min x y, max x y) := ((rises_nodup hR.2.2.2.2).erase_eq_filter _).symm
    have h2 := List.length_erase_of_mem hm
    have h3 := List.length_pos_of_mem hm
    rw [h1, h2]; omega
  · unfold wo; simp
theorem has_pair {n x y : Int} {es : List (Int × Int)} (hR : RightG n es) : ((x, y) ∈ es ∨ (y, x) ∈ es) ↔ (min x y, max x y) ∈ es := by
  constructor
  · rintro (h | h)
    · have h' := hR.2.2.2.1 _ h
      simp only at h'
      rw [show min x y = x by omega, show max x y = y by omega]; exact h
    · have h' := hR.2.2.2.1 _ h
      simp only at h'
      rw [show min x y = y by omega, show max x y = x by omega]; exact h
  · intro h
    by_cases hxy : x ≤ y
    · left; rwa [show min x y = x by omega, show max x y = y by omega] at h
    · right; rwa [show min x y = y by omega, show max x y = x by omega] at h

set_option maxHeartbeats 4000000 in
set_option maxRecDepth 100000 in
theorem rwithout_any (n : Int) (a : Option Addr) (cap : Nat) (es : List (Int × Int)) (x y : Int) (b : Bool) (w : World) (hN : es.length ≤ 1000000) (hE : EAt w a es) (hb : b = true ↔ RightG n es) :
    Calls Try.prog 26 #[.agg #[.int .i64 n, .slice a es.length cap], .int .i64 x, .int .i64 y] w fun e w' => ∃ er ys a' cap', e = .returned (.tuple #[.agg #[.int .i64 (nOf' n er), .slice a' ys.length cap'], .int .i64 er]) ∧ WithoutE n es x y er ys ∧ Sl a' cap' ys.length ∧ EAt w' a' ys ∧ Below w.heap.size w w' := by
  obtain ⟨i1, hj, hy0, hy1, hy2⟩ := info_parts Try.info39
  obtain ⟨N, hNe⟩ : ∃ N, N = es.length := ⟨_, rfl⟩
  obtain ⟨r, hr⟩ : ∃ r : Bool, r = true ↔ (RightG n es ∧ ((x, y) ∈ es ∨ (y, x) ∈ es)) := by
    by_cases h : RightG n es ∧ ((x, y) ∈ es ∨ (y, x) ∈ es)
    · exact ⟨true, ⟨fun _ => h, fun _ => rfl⟩⟩
    · exact ⟨false, ⟨fun h' => (by cases h'), fun h' => absurd h' h⟩⟩
  have HRI : Hid (∀ W, EAt W a es → Calls Try.prog 15 #[.agg #[.int .i64 n, .slice a N cap]] W fun e w' => e = .returned (.bool b) ∧ Below W.heap.size W w') := fun W h => by rw [hNe]; exact rright_any n a cap es b W hN h hb
  have HHA : Hid (∀ W, EAt W a es → Calls Try.prog 17 #[.agg #[.int .i64 n, .slice a N cap], .int .i64 x, .int .i64 y] W fun e w' => e = .returned (.bool r) ∧ Below W.heap.size W w') := fun W h => by rw [hNe]; exact rhas_any n a cap es x y b r W hN h hb hr
  rw [← hNe] at hN ⊢
  have HN : Hid (N = es.length) := hNe
  have HE : Hid (EAt w a es) := hE
  have HB : Hid (b = true ↔ RightG n es) := hb
  have HR : Hid (r = true ↔ (RightG n es ∧ ((x, y) ∈ es ∨ (y, x) ∈ es))) := hr
  clear hNe hE hb hr
  obtain ⟨W0, hW0, hsz, o1, o2, hB0⟩ := new_two w (.cells #[.int .i64 n, .slice a N cap] 25) (.cells #[.int .i64 0, .slice none 0 0] 25)
  have HW0 : Hid (W0 = (w.alloc (.cells #[.int .i64 n, .slice a N cap] 25)).alloc (.cells #[.int .i64 0, .slice none 0 0] 25)) := hW0
  have HO1 : Hid (W0.heap[w.heap.size]? = some (.cells #[.int .i64 n, .slice a N cap] 25)) := o1
  have HO2 : Hid (W0.heap[w.heap.size + 1]? = some (.cells #[.int .i64 0, .slice none 0 0] 25)) := o2
  clear hW0 o1 o2
  go_enter Try.func26, Try.ntmps26
  go_wp2_with fail
  rw [← HW0.out]
  refine (HRI.out _ (HE.out.below hB0)).mono ?_
  rintro e w1 ⟨rfl, hb1⟩
  have hbw : Below w.heap.size w w1 := hB0.trans (hb1.mono (by omega))
  have hs1 := hb1.size
  rw [hsz] at hs1
  have p1 := (hb1.block w.heap.size (by omega)).trans HO1.out
  have p2 := (hb1.block (w.heap.size + 1) (by omega)).trans HO2.out
  obtain ⟨c0, c1⟩ := two_cells p1
  obtain ⟨x0, x1⟩ := two_cells p2
  have xf := frozen_of_heap p2
  have HE1 : Hid (EAt w1 a es) := HE.out.below hbw
  have HP1 : Hid (w1.heap[w.heap.size]? = some (.cells #[.int .i64 n, .slice a N cap] 25)) := p1
  have HP2 : Hid (w1.heap[w.heap.size + 1]? = some (.cells #[.int .i64 0, .slice none 0 0] 25)) := p2
  have HBX : Hid (∀ X u1 u2, Below w.heap.size w X → Below w.heap.size w ((X.setCell ⟨w.heap.size + 1, 0, none⟩ u1).setCell ⟨w.heap.size + 1, 1, none⟩ u2)) := fun X u1 u2 h => (h.setCell (p := ⟨w.heap.size + 1, 0, none⟩) (by simp) _).setCell (p := ⟨w.heap.size + 1, 1, none⟩) (by simp) _
  clear hb1 HRI HO1 HO2 HW0 hB0 p1 p2 hsz HE
  cases b with
  | false =>
    have hnr : ¬ RightG n es := fun h => absurd (HB.out.2 h) (by simp)
    clear hj hy0 hy1 hy2
    go_wp2
    refine bodyPost_ret (v := .tuple #[.agg #[.int .i64 0, .slice none 0 0], .int .i64 1]) ?_ rfl ⟨1, [], none, 0, rfl, Or.inl ⟨hnr, rfl, rfl⟩, sl_nil, eat_nil _ _, HBX.out _ _ _ hbw⟩
    rw [results_cell_tmp rfl]
    go_simp
  | true =>
    have HRG : Hid (RightG n es) := HB.out.1 rfl
    clear HB
    go_wp2_with fail
    refine (HHA.out _ HE1.out).mono ?_
    rintro e w2 ⟨rfl, hb2⟩
    have hbw2 : Below w.heap.size w w2 := hbw.trans (hb2.mono hbw.size)
    have hs2 := hb2.size
    have p1 := (hb2.block w.heap.size (by omega)).trans HP1.out
    have p2 := (hb2.block (w.heap.size + 1) (by omega)).trans HP2.out
    have HE2 : Hid (EAt w2 a es) := HE1.out.below hb2
    have hs3 : w.heap.size + 1 + 1 ≤ w2.heap.size := by omega
    clear HE1 HP1 HP2 hb2 hs1 hs2 HHA c0 c1 x0 x1 xf hbw
    obtain ⟨c0, c1⟩ := two_cells p1
    obtain ⟨x0, x1⟩ := two_cells p2
    have xf := frozen_of_heap p2
    have HP1 := hid p1
    have HP2 := hid p2
    clear p1 p2
    cases r with
    | false =>
      have hnr : Hid ((min x y, max x y) ∉ es) := fun h => absurd (HR.out.2 ⟨HRG.out, (has_pair HRG.out).2 h⟩) (by simp)
      clear hj hy0 hy1 hy2
      go_wp2
      refine bodyPost_ret (v := .tuple #[.agg #[.int .i64 0, .slice none 0 0], .int .i64 6]) ?_ rfl ⟨6, [], none, 0, rfl, Or.inr (Or.inl ⟨HRG.out, hnr.out, rfl, rfl⟩), sl_nil, eat_nil _ _, HBX.out _ _ _ hbw2⟩
      rw [results_cell_tmp rfl]
      go_simp
    | true =>
      have HM : Hid ((min x y, max x y) ∈ es) := (has_pair HRG.out).1 (HR.out.1 rfl).2
      have hN4 : N ≤ 4000 := by rw [HN.out]; exact HRG.out.2.2.1
      obtain ⟨lo, hlo'⟩ := ex_eq (min x y)
      obtain ⟨hi, hhi'⟩ := ex_eq (max x y)
      have hlo := hlo'.symm
      have hhi := hhi'.symm
      have HLH : Hid (lo = min x y ∧ hi = max x y) := ⟨hlo', hhi'⟩
      obtain ⟨B, hB⟩ := ex_eq w2.heap.size
      obtain ⟨V, hV⟩ := ex_eq (w2.alloc (.cells #[.int .i64 n, .slice none 0 0] 25))
      have hbV : Below B w2 V := by rw [hV, hB]; exact (Below.refl _ _).alloc (Nat.le_refl _) _
      have HG0 : Hid (∃ sv, GAcc V B n sv (wo (lo, hi) (es.take 0)) none []) := ⟨.slice none 0 0, by rw [hV, hB]; exact heap_alloc_new _ _, World.ownsRow_nil _ _ _ _, iat_nil _ _, fun g off h0 => absurd h0 (by simp)⟩
      have HV : Hid (V = w2.alloc (.cells #[.int .i64 n, .slice none 0 0] 25)) := hV
      have HB : Hid (B = w2.heap.size) := hB
      have hB2 : w.heap.size + 1 + 1 ≤ B := by omega
      have HS2 : Hid (∀ X, Below B w2 X → X.heap[w.heap.size + 1]? = some (.cells #[.int .i64 0, .slice none 0 0] 25) ∧ X.cell? ⟨w.heap.size, 1, none⟩ = some (.slice a N cap) ∧ EAt X a es ∧ Below w.heap.size w X) := fun X h => ⟨(h.block _ (by omega)).trans HP2.out, cell_of_heap ((h.block w.heap.size (by omega)).trans HP1.out) 1, HE2.out.below (by rw [← hB]; exact h), hbw2.trans (h.mono (by omega))⟩
      clear hlo' hhi' hV HE2 HP1 HP2 HR hbw2
      go_wp2
      rw [← HV.out, ← HB.out]
      clear HV hB x0 x1 xf c0 c1 hs3
      go_loopg [9] N (fun G i wz => ∃ k : Nat, k ≤ N ∧ N - k ≤ G ∧ i = .int .i64 k ∧ Hid (∃ sv, GAcc wz B n sv (wo (lo, hi) (es.take k)) none []) ∧ Below B w2 wz)
      case atStart => exact ⟨0, Nat.zero_le _, by omega, rfl, HG0, hbV⟩
      case round =>
        obtain ⟨k, hk, hG, rfl, hga, hb2⟩ := hrel
        obtain ⟨y2, c1, hea, hbwr⟩ := HS2.out wr hb2
        by_cases hlt : k < N
        · have hkr : k < es.length := by rw [← HN.out]; exact hlt
          obtain ⟨g, off, rfl, d0, d1⟩ := hea.at' hkr
          obtain ⟨e1, he1⟩ := ex_eq es[k].1
          obtain ⟨e2, he2⟩ := ex_eq es[k].2
          rw [← he1] at d0
          rw [← he2] at d1
          have HTK : Hid (es.take (k + 1) = es.take k ++ [(e1, e2)]) := by
            show es.take (k + 1) = _
            rw [List.take_succ_eq_append_getElem hkr, he1, he2]
          have q1 : (k : Int) < (N : Int) := by omega
          clear he1 he2 hea y2
          by_cases he : e1 = lo ∧ e2 = hi
          · have HNX : Hid (∃ sv, GAcc wr B n sv (wo (lo, hi) (es.take (k + 1))) none []) := by
              rw [HTK.out, wo_drop (by rw [he.1, he.2])]; exact hga
            obtain ⟨rfl, rfl⟩ := he
            clear hj hy0 hy1 hy2
            go_wp2
            go_roundg (N - (k + 1))
            case measure => omega
            case rel => exact ⟨k + 1, by omega, Nat.le_refl _, by go_num, HNX, hb2⟩
          · have HNX2 : Hid (wo (lo, hi) (es.take (k + 1)) = wo (lo, hi) (es.take k) ++ [(e1, e2)]) := by
              show wo (lo, hi) (es.take (k + 1)) = _
              rw [HTK.out, wo_keep (fun h => he (by simpa using h))]
            obtain ⟨sv, hacc⟩ := hga.out
            have HAC : Hid (GAcc wr B n sv (wo (lo, hi) (es.take k)) none []) := hacc
            have hKl : (wo (lo, hi) (es.take k)).length ≤ 1000000 := by
              have h1 := wo_len (lo, hi) (es.take k)
              rw [List.length_take] at h1
              omega
            obtain ⟨P, hP⟩ := ex_eq (wo (lo, hi) (es.take k))
            rw [← hP] at HAC HNX2 hKl hacc
            obtain ⟨aS, cs, hsv, hsl, _⟩ := eat_own hacc.own
            subst hsv
            have b1 : wr.cell? ⟨B, 1, none⟩ = some (.slice aS P.length cs) := cell_of_heap hacc.box 1
            obtain ⟨K, hK⟩ := ex_eq P.length
            have HK : Hid (K = P.length) := hK
            rw [← hK] at b1 HAC hKl
            have HOW : Hid ((wr.drew.alloc (.cells #[.int .i64 e1, .int .i64 e2] 39)).ownsRow (B + 1) 39 2 (.slice aS K cs) K (cellsE P)) := by
              have h := HAC.out.own
              rw [← hK] at h
              exact World.ownsRow.alloc (w := wr.drew) h _
            have HNW : Hid (∀ i v, [Value.int .i64 e1, .int .i64 e2][i]? = some v → (wr.drew.alloc (.cells #[.int .i64 e1, .int .i64 e2] 39)).cell? ((⟨wr.heap.size, 0, none⟩ : Addr).add i) = some v) := cells_two (heap_alloc_new wr.drew _)
            have HON : Hid (∀ v ∈ [Value.int .i64 e1, .int .i64 e2], v.oneCell' = true) := fun v hv => by simp at hv; rcases hv with rfl | rfl <;> rfl
            have H63 : Hid (K + 1 ≤ maxLen) := by show K + 1 ≤ maxLen; unfold maxLen; omega
            have HBY : Hid ((K + 1) * 16 ≤ 140737488355328) := by show (K + 1) * 16 ≤ 140737488355328; omega
            have hBw : B < wr.heap.size := (Array.getElem?_eq_some_iff.1 hacc.box).1
            have HBS : Hid (B + 1 ≤ (wr.drew.alloc (.cells #[.int .i64 e1, .int .i64 e2] 39)).heap.size) := by show B + 1 ≤ _; simp; omega
            have HSZ : Hid ((wr.drew.alloc (.cells #[.int .i64 e1, .int .i64 e2] 39)).heap.size = wr.heap.size + 1) := by show _ = _; simp
            have HKP : Hid (∀ w4, (wr.drew.alloc (.cells #[.int .i64 e1, .int .i64 e2] 39)).grownBy w4 (Value.slice aS K cs).ownBlock → w4.cell? ⟨B, 1, none⟩ = some (.slice aS K cs) ∧ w4.frozen? ⟨B, 1, none⟩ = false ∧ Below B w2 w4) := fun w4 hg => by
              have h := HAC.out.keep hg
              refine ⟨cell_of_heap h 1, frozen_of_heap h 1, ?_⟩
              refine Below.grown (hb2.drew.alloc (by show B ≤ wr.heap.size; omega) _) hg (by simp; omega) (fun b hb => ?_)
              have := (HAC.out.own.lt b hb).1
              omega
            clear hK hP hacc hsl hga
            have hway : (¬ e1 = lo ∧ (e1 == lo) = false ∧ (e1 != lo) = true) ∨ (e1 = lo ∧ ¬ e2 = hi ∧ (e2 == hi) = false ∧ (e2 != hi) = true) := by
              by_cases h1 : e1 = lo
              · have h2 : ¬ e2 = hi := fun h => he ⟨h1, h⟩
                exact Or.inr ⟨h1, h2, by simp [h2], by simp [h2]⟩
              · exact Or.inl ⟨h1, by simp [h1], by simp [h1]⟩
            clear he
            rcases hway with ⟨v1, v2, v3⟩ | ⟨rfl, v1, v2, v3⟩
            all_goals
              go_wp2_with fail
              go_region_law (refine step_append_lies _ rfl (.tmp 53) (.tmp 59) 22 rfl (B + 1) 39 i1 _ 2 16 Try.underlying22 hj hy0 hy1 hy2 rfl (by decide) (.slice aS K cs) K (cellsE P) (by simp [Act.eval]) HOW.out ⟨wr.heap.size, 0, none⟩ 1 1 [.int .i64 e1, .int .i64 e2] (by simp [Act.eval]) rfl HNW.out HON.out (by decide) H63.out HBY.out HBS.out (wr.heap.size + 1) HSZ.out ?_; intro g' cap' w4 hown4 hgrow hat hglt; have b4 := (HKP.out _ hgrow).1; have f4 := (HKP.out _ hgrow).2.1)
              all_goals
                have HNXT : Hid (∃ sv, GAcc (w4.setCell ⟨B, 1, none⟩ (.slice (some ⟨g', 0, none⟩) (K + 1) cap')) B n sv (wo (_, hi) (es.take (k + 1))) none []) := ⟨.slice (some ⟨g', 0, none⟩) (K + 1) cap', by rw [HNX2.out]; exact GAcc.put (g' := g') (cap' := cap') HAC.out hgrow (by rw [← HK.out]) (by rw [← HK.out]; exact hown4) hat⟩
                have HB5 : Hid (Below B w2 (w4.setCell ⟨B, 1, none⟩ (.slice (some ⟨g', 0, none⟩) (K + 1) cap'))) := (HKP.out _ hgrow).2.2.setCell (p := ⟨B, 1, none⟩) (Nat.le_refl _) _
                clear hown4 hgrow hat hglt b4 f4 HKP HSZ HBS HBY H63 HON HNW HOW HAC hj hy0 hy1 hy2 b1 d0 d1 c1
                go_wp2
                go_roundg (N - (k + 1))
                case measure => omega
                case rel => exact ⟨k + 1, by omega, Nat.le_refl _, by go_num, HNXT, HB5.out⟩
        · obtain rfl : k = N := by omega
          have htk : es.take k = es := by rw [HN.out, List.take_length]
          obtain ⟨sv, hacc⟩ := hga.out
          rw [htk] at hacc
          obtain ⟨aS, cs, hsv, hsl, hea2⟩ := eat_own hacc.own
          subst hsv
          have HNE := hid (eat_off_box y2 hea2)
          have HANS : Hid (WithoutE n es x y 0 (wo (lo, hi) es)) := by
            rw [HLH.out.1, HLH.out.2]; exact wo_ans HRG.out HM.out
          have b0 := cell_of_heap hacc.box 0
          have b1 := cell_of_heap hacc.box 1
          obtain ⟨x0, x1⟩ := two_cells y2
          have xf := frozen_of_heap y2
          have HSL := hid hsl
          have HEA := hid hea2
          obtain ⟨P, hP⟩ := ex_eq (wo (lo, hi) es)
          rw [← hP] at HSL HEA HANS HNE b1
          clear hacc hsl hea2 hga hj hy0 hy1 hy2 hP htk y2 hlt hG
          go_wp2
          refine bodyPost_ret (v := .tuple #[.agg #[.int .i64 n, .slice aS P.length cs], .int .i64 0]) ?_ rfl ⟨0, P, aS, cs, rfl, HANS.out, HSL.out, ?_, HBX.out _ _ _ hbwr⟩
          · rw [results_cell_tmp rfl]
            go_simp
          · exact (HEA.out.set (p := ⟨w.heap.size + 1, 0, none⟩) HNE.out _).set (p := ⟨w.heap.size + 1, 1, none⟩) HNE.out _
end Go.Proofs.Ytalhjankofdhgaa
