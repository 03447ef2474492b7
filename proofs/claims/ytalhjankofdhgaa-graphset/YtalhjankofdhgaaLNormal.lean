/-
  carcanetlaw03.GraphNormal answers true.
-/
import Derived.Test.YtalhjankofdhgaaGHead
import Derived.Test.YtalhjankofdhgaaRNorm
import Derived.Test.YtalhjankofdhgaaRCmp
namespace Go.Proofs.Ytalhjankofdhgaa
open Go.RowKit Go.Lib

theorem normE_one {n : Int} {l : List (Int × Int)} {er er' : Int} {es es' : List (Int × Int)} (h : NormE n l er es) (h' : NormE n l er' es') : er = er' ∧ es = es' := by
  rcases h with ⟨h1, rfl, rfl⟩ | ⟨h1, rfl, rfl⟩ | ⟨h1, h2, rfl, rfl⟩ | ⟨h1, h2, rfl, rfl, x, hx, hxl⟩ | ⟨h1, h2, rfl, h3, h4⟩ <;>
  rcases h' with ⟨g1, rfl, rfl⟩ | ⟨g1, rfl, rfl⟩ | ⟨g1, g2, rfl, rfl⟩ | ⟨g1, g2, rfl, rfl, y, hy, hyl⟩ | ⟨g1, g2, rfl, g3, g4⟩
  all_goals first
    | exact ⟨rfl, rfl⟩
    | (exfalso; omega)
    | exact absurd h2 g2
    | exact absurd g2 h2
    | exact ⟨rfl, h3.one g3⟩
    | (exfalso; have := hx.one g3; subst this; omega)
    | (exfalso; have := hy.one h3; subst this; omega)
theorem normE_right {n : Int} {l : List (Int × Int)} {es : List (Int × Int)} (h : NormE n l 0 es) : RightG n es := by
  rcases h with ⟨_, h, _⟩ | ⟨_, h, _⟩ | ⟨_, _, h, _⟩ | ⟨_, _, h, _⟩ | ⟨h1, h2, _, h3, h4⟩
  · cases h
  · cases h
  · cases h
  · cases h
  · exact h3.right h2 h1.1 h1.2 h4
theorem normE_len {n : Int} {l : List (Int × Int)} {er : Int} {es : List (Int × Int)} (h : NormE n l er es) : es.length ≤ 4000 := by
  rcases h with ⟨_, _, rfl⟩ | ⟨_, _, rfl⟩ | ⟨_, _, _, rfl⟩ | ⟨_, _, _, rfl, _⟩ | ⟨h1, h2, _, h3, h4⟩
  · simp
  · simp
  · simp
  · simp
  · exact h4
/-- A graph is laid into a new variable. -/
theorem gc_new {w : World} {n : Int} {a : Option Addr} {k cap : Nat} {es : List (Int × Int)} (h : EAt w a es) : GC (w.alloc (.cells #[.int .i64 n, .slice a k cap] 25)) w.heap.size n a k cap es :=
  ⟨cell_of_heap (heap_alloc_new _ _) 0, cell_of_heap (heap_alloc_new _ _) 1, h.below ((Below.refl _ _).alloc (Nat.le_refl _) _)⟩
theorem below_new (w : World) (o : Obj) : Below w.heap.size w (w.alloc o) := (Below.refl _ _).alloc (Nat.le_refl _) _

set_option maxHeartbeats 4000000 in
set_option maxRecDepth 100000 in
theorem normal_law (n : Int) (a : Option Addr) (len cap : Nat) (l : List (Int × Int)) (w : World) (hl : len = l.length) (hc : len ≤ cap) (hm : cap ≤ maxLen) (ha : a = none → cap = 0) (hE : EAt w a l) :
    Calls Try.prog 3 #[.int .i64 n, .slice a len cap] w fun e w' => e = .returned (.bool true) ∧ Below w.heap.size w w' := by
  obtain ⟨k, hk⟩ := ex_eq (min len 300)
  obtain ⟨es, hes⟩ := ex_eq (l.take k)
  have hek : es.length = k := by rw [hes, List.length_take]; omega
  have HEK : Hid (es.length = k) := hek
  have k5 : k ≤ 300 := by omega
  have kmin : min (len : Int) 300 = (k : Int) := by omega
  have kc : (k : Int) ≤ (cap : Int) := by omega
  have k0 : (0 : Int) ≤ (k : Int) := by omega
  have k9 : (k : Int) ≤ (len : Int) := by omega
  have HE : Hid (EAt w a es) := by
    show EAt w a es
    rw [hes]; exact eat_take hE k
  clear hes hE hl hk hek
  go_enter Try.func3, Try.ntmps3
  go_wp2_with fail
  refine (shown_any _).mono ?_
  rintro e w1 ⟨rfl, hb1⟩
  have HE1 : Hid (EAt w1 a es) := HE.out.below hb1
  clear HE
  go_upto_region 2 with fail
  go_cut [1] (fun v wx => v = .slice a k cap ∧ wx = w1)
  case first =>
    cases a with
    | none =>
      obtain rfl := ha rfl
      obtain rfl : len = 0 := by omega
      obtain rfl : k = 0 := by simp at k9; omega
      clear ha kmin kc k0 k5 hc hm k9
      go_wp2
      all_goals go_meet
      all_goals exact ⟨rfl, rfl⟩
    | some ad =>
      clear ha
      go_wp2
      all_goals go_meet
      all_goals exact ⟨rfl, rfl⟩
  case rest =>
    obtain ⟨rfl, rfl⟩ := hcut
    have hN : es.length ≤ 1000000 := by rw [HEK.out]; omega
    have C1 : Hid (∀ W, EAt W a es → Calls Try.prog 11 #[.int .i64 n, .slice a k cap] W fun e w' => ∃ er es2 a' cap', e = .returned (.tuple #[.agg #[.int .i64 (nOf n er), .slice a' es2.length cap'], .int .i64 er]) ∧ NormE n es er es2 ∧ Sl a' cap' es2.length ∧ EAt w' a' es2 ∧ Below W.heap.size W w') := fun W h => by rw [← HEK.out]; exact normal_any n a cap es W hN h
    have C2 : Hid (∀ W, EAt W a es → Calls Try.prog 12 #[.int .i64 n, .slice a k cap] W fun e w' => ∃ er es2 a' cap', e = .returned (.tuple #[.agg #[.int .i64 (nOf n er), .slice a' es2.length cap'], .int .i64 er]) ∧ NormE n es er es2 ∧ Sl a' cap' es2.length ∧ EAt w' a' es2 ∧ Below W.heap.size W w') := fun W h => by rw [← HEK.out]; exact rnormal_any n a cap es W hN h
    clear hN kmin kc k0 k9 k5 hc hm ha
    go_wp2_with fail
    refine (C1.out _ HE1.out).mono ?_
    rintro e w2 ⟨er, ys, a2, cap2, rfl, hn2, _, hE2, hb2⟩
    have HN2 : Hid (NormE n es er ys) := hn2
    obtain ⟨n2, hn⟩ := ex_eq (nOf n er)
    rw [← hn]
    have HNN : Hid (n2 = nOf n er) := hn
    obtain ⟨K, hK⟩ := ex_eq ys.length
    rw [← hK]
    have HK : Hid (K = ys.length) := hK
    obtain ⟨V2, hV2⟩ := ex_eq (w2.alloc (.cells #[.int .i64 n2, .slice a2 K cap2] 25))
    have HG2 : Hid (GC V2 w2.heap.size n2 a2 K cap2 ys) := by
      show GC V2 _ _ _ _ _ _
      rw [hV2]; exact gc_new hE2
    have hbV2 : Below w2.heap.size w2 V2 := by rw [hV2]; exact below_new _ _
    have hB2 : Below w.heap.size w V2 := hb1.trans ((hb2.trans (hbV2.mono hb2.size)).mono hb1.size)
    have HEV : Hid (EAt V2 a es) := HE1.out.below (hb2.trans (hbV2.mono hb2.size))
    have HV2 : Hid (V2 = w2.alloc (.cells #[.int .i64 n2, .slice a2 K cap2] 25)) := hV2
    clear hn2 hn hK hV2 hbV2 hb2 hE2 C1 HE1
    go_wp2_with fail
    rw [← HV2.out]
    refine (C2.out _ HEV.out).mono ?_
    rintro e w3 ⟨er3, ys3, a3, cap3, rfl, hn3, _, hE3, hb3⟩
    obtain ⟨rfl, rfl⟩ := normE_one HN2.out hn3
    rw [← HNN.out, ← HK.out]
    obtain ⟨V3, hV3⟩ := ex_eq (w3.alloc (.cells #[.int .i64 n2, .slice a3 K cap3] 25))
    have hbV3 : Below w3.heap.size w3 V3 := by rw [hV3]; exact below_new _ _
    have HG3 : Hid (GC V3 w2.heap.size n2 a2 K cap2 ys) := (HG2.out.on hb3).on hbV3
    have HH3 : Hid (GC V3 w3.heap.size n2 a3 K cap3 ys) := by
      show GC V3 _ _ _ _ _ _
      rw [hV3]; exact gc_new hE3
    have hB3 : Below w.heap.size w V3 := hB2.trans ((hb3.trans (hbV3.mono hb3.size)).mono hB2.size)
    obtain ⟨g0, g1⟩ := HG3.out.cells
    obtain ⟨h0, h1⟩ := HH3.out.cells
    rw [hV3] at g0 g1 h0 h1
    have C3 : Hid (Calls Try.prog 13 #[.agg #[.int .i64 n2, .slice a2 K cap2], .agg #[.int .i64 n2, .slice a3 K cap3]] V3 fun e w' => e = .returned (.bool true) ∧ Below V3.heap.size V3 w') := by
      show Calls _ _ _ _ _
      rw [HK.out]
      exact sameGraph_any n2 n2 a2 a3 cap2 cap3 ys ys true V3 (by have := normE_len HN2.out; omega) HG3.out.at_ HH3.out.at_ ⟨fun _ => ⟨rfl, rfl⟩, fun _ => rfl⟩
    have C4 : Hid (er = 0 → ∀ W, EAt W a2 ys → Calls Try.prog 14 #[.agg #[.int .i64 n2, .slice a2 K cap2]] W fun e w' => e = .returned (.bool true) ∧ Below W.heap.size W w') := fun he W h => by
      subst he
      have hr := normE_right HN2.out
      rw [HK.out, HNN.out]
      exact right_any n a2 cap2 ys true W (by have := normE_len HN2.out; omega) h ⟨fun _ => hr, fun _ => rfl⟩
    have HV3 : Hid (V3 = w3.alloc (.cells #[.int .i64 n2, .slice a3 K cap3] 25)) := hV3
    clear hn3 hb3 hE3 hbV3 hV3 HG2 HEV C2 HV2
    go_wp2_with fail
    rw [← HV3.out]
    refine C3.out.mono ?_
    rintro e w4 ⟨rfl, hb4⟩
    have hB4 : Below w.heap.size w w4 := hB3.trans (hb4.mono hB3.size)
    clear g0 g1 h0 h1
    obtain ⟨g0, g1⟩ := (HG3.out.on hb4).cells
    by_cases he : er = 0
    · have hc4 := C4.out he w4 (HG3.out.on hb4).at_
      have C5 : Hid (Calls Try.prog 14 #[.agg #[.int .i64 n2, .slice a2 K cap2]] w4 fun e w' => e = .returned (.bool true) ∧ Below w4.heap.size w4 w') := hc4
      subst he
      clear C4 hc4 hb4 C3
      go_wp2_with fail
      refine C5.out.mono ?_
      rintro e w5 ⟨rfl, hb5⟩
      go_wp2
      go_ret
      exact ⟨rfl, hB4.trans (hb5.mono hB4.size)⟩
    · have he2 : (er == 0) = false := beq_eq_false_iff_ne.2 he
      have he3 : (er != 0) = true := by simp [bne, he2]
      clear C4 C3 hb4
      go_wp2
      go_ret
      exact ⟨rfl, hB4⟩
end Go.Proofs.Ytalhjankofdhgaa
