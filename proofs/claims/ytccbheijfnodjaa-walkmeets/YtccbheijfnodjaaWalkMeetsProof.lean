/-
  WalkMeets holds: there is a route just between those of one component; for any number, edges and two ends. No condition.
-/
import Derived.Test.YtccbheijfnodjaaRows
import Derived.Test.YtccbheijfnodjaaIOpen
import Derived.Test.YtccbheijfnodjaaVOps
import Derived.Test.YtccbheijfnodjaaPOfS
import Derived.Test.YtccbheijfnodjaaLWMeets
import Derived.Test.YtccbheijfnodjaaGOpen
import Derived.WalkKit
import Derived.ProofKit
import Derived.OpenShut
import Derived.ChangeOld
import Derived.Below
namespace Go.Proofs.Ytccbheijfnodjaa.walkMeets
open Go.ChangeShapes Go.WideShapes Go.ChangeAt Go.RowKit Go.WideMaps
set_option linter.unusedVariables false

theorem own : ownKnob Try.prog.godebug = none := by kernel_rfl
theorem laidOut : laidOutB Try.prog = true := by kernel_rfl

theorem walk (i0 : Int) (a1 : Option Addr) (len1 cap1 : Nat) (l1 : List (Int × Int)) (i2 k2 : Int) (w : World) (c1 : Came w a1 len1 cap1 l1) :
    Calls Try.prog 9 #[.int .i64 i0, .slice a1 len1 cap1, .agg #[.int .i64 i2, .int .i64 k2]] w fun e w' => e = .returned (.bool true) ∧ Below w.heap.size w w' :=
  walkMeets_law walkOps pofS_any i0 a1 len1 cap1 l1 i2 k2 w c1.len_ c1.at_

set_option maxRecDepth 100000 in
theorem lifted (os : Os) (started : os.Started) (H : Type) (enc : TypeId × Value → H) :
    ReturnsInHanded {} Try.checked os 9 .any (Rows.walkMeetsSpec.pre6 enc Try.prog Try.f9 Rows.walkMeetsRow.domain false) (Rows.walkMeetsSpec.post enc Try.prog Try.f9 false true false false) := by
  refine returnsInHanded_of_change (C := Try.checked) own started (by kernel_rfl) Try.func9
    (ChangeSpec.witness6 (enc := enc) (C := Try.checked) false ⟨#[], #[.int .i64 0, .slice none 0 0, .agg #[.int .i64 0, .int .i64 0]], []⟩ 8 (by kernel_rfl) (by kernel_rfl) (by kernel_rfl) (by kernel_rfl)) ?_
  intro W base args ds gs before hval0 hW hcnd _
  have hval : ∀ (j : Nat) t v, Try.f9.params[j]? = some t → args[j]? = some v → Value.okWide Try.prog W .any base t v := hval0
  have hW' := hW
  obtain ⟨p, q, hA0, hV, rfl, hfz, hnd⟩ := hW
  have hA : DataW.TrodAll enc Try.prog W 0 (fun _ => true) true Try.f9.params.toList args.toList ds p := hA0
  rw [Try.params9] at hA hval
  obtain ⟨v0, vs0, d0, ds0, p0, q0, hargs, rfl, rfl, h0, r0⟩ := trodAll_cons hA
  obtain ⟨v1, vs1, d1, ds1, p1, q1, rfl, rfl, rfl, h1, r1⟩ := trodAll_cons r0
  obtain ⟨v2, vs2, d2, ds2, p2, q2, rfl, rfl, rfl, h2, r2⟩ := trodAll_cons r1
  obtain ⟨rfl, rfl, rfl⟩ := trodAll_nil r2
  obtain rfl : args = #[v0, v1, v2] := by cases args; simp_all
  obtain ⟨rfl, rfl⟩ := trodVars_none hV
  obtain ⟨i0, rfl, rfl, rfl, g0⟩ := open_int Try.underlying3 (hval 0 3 v0 rfl rfl) h0
  have k1 := h1
  have lt1 : ∀ x ∈ p1, x.block < W.heap.size := by obtain ⟨m, hm⟩ := k1; exact DataW.trod_lt m _ _ _ hm
  obtain ⟨a1, len1, cap1, l1, rfl, c1⟩ := edges_in (hval 1 22 v1 rfl rfl) h1
  obtain ⟨i2, k2, rfl, rfl, rfl, g2, q2w⟩ := open_pair Try.ends Try.underlying3 (hval 2 29 v2 rfl rfl) h2
  clear hA0 hval0
  refine (walk i0 a1 len1 cap1 l1 i2 k2 W c1).mono fun e W' ⟨he, bel⟩ => ?_
  subst he
  exact ⟨_, rfl, _, _, _, [], _, [], hW', trodAll_mk1 (shut_bool Try.underlying4 _), (trodAll_cons_mk (shut_int Try.underlying3 g0) (trodAll_cons_mk (Below.trod laidOut (by kernel_rfl) (of_decide_eq_true (by kernel_rfl)) k1 bel lt1) (trodAll_cons_mk (shut_pair Try.ends Try.underlying3 g2 q2w) trodAll_mk0))), rfl, bel.frame _, fun h => by cases h⟩

theorem over : Rows.walkMeetsRow.holds Try.pinned (OpenSpec.ofChange Rows.walkMeetsSpec) :=
  OpenClaim.holds_of_wide 9 Try.f9 rfl rfl rfl rfl rfl rfl rfl ⟨rfl, rfl, rfl, rfl, rfl⟩ rfl rfl rfl rfl rfl (by kernel_rfl) Try.func9 (by kernel_rfl)
    (of_decide_eq_true (by kernel_rfl)) (by unfold Func.isWrapper; first | (rw [if_pos (by decide +kernel)]; kernel_rfl) | (rw [if_neg (by decide +kernel)]; exact ⟨rfl, rfl⟩))
    (fun os started H enc _ => lifted os started H enc)

theorem proved : Rows.WalkMeetsSaid := over
end Go.Proofs.Ytccbheijfnodjaa.walkMeets
namespace Go.Proofs.Ytccbheijfnodjaa
theorem walkMeets_holds : Rows.WalkMeetsSaid := walkMeets.proved
end Go.Proofs.Ytccbheijfnodjaa
