/-
  The law TopoGrows holds: it never panics and tells true for every input.
-/
import Derived.Test.YtckcbaegehfkoaaRows
import Derived.Test.YtckcbaegehfkoaaQBOpen
import Derived.Test.YtckcbaegehfkoaaQTGrows

import Derived.WalkKit
import Derived.ProofKit
import Derived.OpenShut
import Derived.ChangeOld
import Derived.Below
namespace Go.Proofs.Ytckcbaegehfkoaa.topoGrows
open Go.ChangeShapes Go.WideShapes Go.ChangeAt Go.RowKit Go.WideMaps
set_option linter.unusedVariables false

theorem own : ownKnob Try.prog.godebug = none := by kernel_rfl
theorem laidOut : laidOutB Try.prog = true := by kernel_rfl

theorem walk (n0 : Int) (a0 : Option Addr) (len0 cap0 : Nat) (l0 : List (Int × Int)) (i1 k1 : Int) (n2 : Int) (ta2 : Option Addr) (tl2 tc2 : Nat) (tt2 : List Int) (a2 : Option Addr) (len2 cap2 : Nat) (l2 : List (List Int)) (w : World) (c0 : Came w a0 len0 cap0 l0) (e2 : CameI w ta2 tl2 tc2 tt2) (c2 : CameR w a2 len2 cap2 l2) :
    Calls Try.prog 9 #[.agg #[.int .i64 n0, .slice a0 len0 cap0], .agg #[.int .i64 i1, .int .i64 k1], .agg #[.int .i64 n2, .slice ta2 tl2 tc2, .slice a2 len2 cap2]] w fun e w' => e = .returned (.bool true) ∧ Below w.heap.size w w' :=
  topoGrows_law n0 a0 len0 cap0 l0 i1 k1 n2 ta2 tl2 tc2 tt2 a2 len2 cap2 l2 w c0.len_ c0.at_ e2 c2

set_option maxRecDepth 100000 in
theorem lifted (os : Os) (started : os.Started) (H : Type) (enc : TypeId × Value → H) :
    ReturnsInHanded {} Try.checked os 9 .any (Rows.topoGrowsSpec.pre6 enc Try.prog Try.f9 Rows.topoGrowsRow.domain false) (Rows.topoGrowsSpec.post enc Try.prog Try.f9 false true false false) := by
  refine returnsInHanded_of_change (C := Try.checked) own started (by kernel_rfl) Try.func9
    (ChangeSpec.witness6 (enc := enc) (C := Try.checked) false ⟨#[], #[.agg #[.int .i64 0, .slice none 0 0], .agg #[.int .i64 0, .int .i64 0], .agg #[.int .i64 0, .slice none 0 0, .slice none 0 0]], []⟩ 8 (by kernel_rfl) (by kernel_rfl) (by kernel_rfl) (by kernel_rfl)) ?_
  intro W base args ds gs before hval0 hW hcnd _
  have hval : ∀ (j : Nat) t v, Try.f9.params[j]? = some t → args[j]? = some v → Value.okWide Try.prog W .any base t v := hval0
  have hW' := hW
  obtain ⟨p, q, hA0, hV, rfl, hfz, hnd⟩ := hW
  have hA : DataW.TrodAll enc Try.prog W 0 (fun _ => true) true Try.f9.params.toList args.toList ds p := hA0
  rw [Try.params9] at hA hval
  obtain ⟨v0, vs0, d0, ds0, p0, q0, hargs, rfl, rfl, h0, r0⟩ := trodAll_cons hA
  obtain ⟨v1, vs1, d1, ds1, p1, q1, rfl, rfl, rfl, h1, r1⟩ := trodAll_cons r0
  obtain ⟨v2, vs2, d2, ds2, p2, q2, rfl, rfl, rfl, h2, r2⟩ := trodAll_cons r1
  obtain ⟨rfl, rfl, rfl⟩ := trodAll_nil r2
  obtain rfl : args = #[v0, v1, v2] := by cases args; simp_all
  obtain ⟨rfl, rfl⟩ := trodVars_none hV
  have k0 := h0
  have lt0 : ∀ x ∈ p0, x.block < W.heap.size := by obtain ⟨m, hm⟩ := k0; exact DataW.trod_lt m _ _ _ hm
  obtain ⟨n0, a0, len0, cap0, l0, rfl, c0⟩ := net_in (hval 0 24 v0 rfl rfl) h0
  obtain ⟨i1, k1, rfl, rfl, rfl, g1, q1w⟩ := open_pair Try.ends Try.underlying3 (hval 1 66 v1 rfl rfl) h1
  have k2 := h2
  have lt2 : ∀ x ∈ p2, x.block < W.heap.size := by obtain ⟨m, hm⟩ := k2; exact DataW.trod_lt m _ _ _ hm
  obtain ⟨n2, ta2, tl2, tc2, tt2, a2, len2, cap2, l2, rfl, e2, c2⟩ := sub_in (hval 2 28 v2 rfl rfl) h2
  clear hA0 hval0
  refine (walk n0 a0 len0 cap0 l0 i1 k1 n2 ta2 tl2 tc2 tt2 a2 len2 cap2 l2 W c0 e2 c2).mono fun e W' ⟨he, bel⟩ => ?_
  subst he
  exact ⟨_, rfl, _, _, _, [], _, [], hW', trodAll_mk1 (shut_bool Try.underlying4 _), (trodAll_cons_mk (Below.trod laidOut (by kernel_rfl) (of_decide_eq_true (by kernel_rfl)) k0 bel lt0) (trodAll_cons_mk (shut_pair Try.ends Try.underlying3 g1 q1w) (trodAll_cons_mk (Below.trod laidOut (by kernel_rfl) (of_decide_eq_true (by kernel_rfl)) k2 bel lt2) trodAll_mk0))), rfl, bel.frame _, fun h => by cases h⟩

theorem over : Rows.topoGrowsRow.holds Try.pinned (OpenSpec.ofChange Rows.topoGrowsSpec) :=
  OpenClaim.holds_of_wide 9 Try.f9 rfl rfl rfl rfl rfl rfl rfl ⟨rfl, rfl, rfl, rfl, rfl⟩ rfl rfl rfl rfl rfl (by kernel_rfl) Try.func9 (by kernel_rfl)
    (of_decide_eq_true (by kernel_rfl)) (by unfold Func.isWrapper; first | (rw [if_pos (by decide +kernel)]; kernel_rfl) | (rw [if_neg (by decide +kernel)]; exact ⟨rfl, rfl⟩))
    (fun os started H enc _ => lifted os started H enc)

theorem proved : Rows.TopoGrowsSaid := over
end Go.Proofs.Ytckcbaegehfkoaa.topoGrows
namespace Go.Proofs.Ytckcbaegehfkoaa
theorem topoGrows_holds : Rows.TopoGrowsSaid := topoGrows.proved
end Go.Proofs.Ytckcbaegehfkoaa
