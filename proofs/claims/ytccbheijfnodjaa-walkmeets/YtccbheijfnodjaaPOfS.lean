/-
  The program's components, with what is known of their slices.
-/
import Derived.Test.YtccbheijfnodjaaB11
import Derived.Test.YtccbheijfnodjaaB12
namespace Go.Proofs.Ytccbheijfnodjaa
open Go.RowKit Go.Lib

theorem RowsOwn.lls {w : World} {base : Nat} {v : Value} {LL : List (List Int)} (h : RowsOwn w base v LL) : ∃ a cap, v = .slice a LL.length cap ∧ LLS w a LL := by
  obtain ⟨a, cap, hv, h⟩ := h
  refine ⟨a, cap, hv, fun h0 => ?_⟩
  obtain ⟨blk, ha, hb, hlt, gs, hr, _⟩ := h h0
  refine ⟨blk, 0, ha, hlt, fun k hk => ?_⟩
  obtain ⟨ck, h1, h2, _, _, h4, h5⟩ := hr k hk
  refine ⟨_, ck, by rw [Nat.zero_add]; exact h1, fun _ => ⟨gs k, 0, rfl, h4.1, fun j hj => ?_⟩, h5, (fun e => by cases e)⟩
  rw [Nat.zero_add, (h4.2 j hj).1]
  simp [hj]
theorem pofS_any (n : Int) (a : Option Addr) (cap : Nat) (es : List (Int × Int)) (b : Bool) (f : Nat → Nat) (w : World) (hN : es.length ≤ 1000000) (hE : EAt w a es) (hb : b = true ↔ RightG n es) (hf : b = true → Pt n.toNat f ∧ Tells n.toNat f (prsN es)) :
    Calls Try.prog 29 #[.agg #[.int .i64 n, .slice a es.length cap]] w fun e w' => ∃ v, e = .returned v ∧ PCompS w w' v (if b = true then classesF n.toNat f else []) :=
  (pofR_any n a cap es b f w hN hE hb hf).mono fun _ _ ⟨v, h1, B, _, h2, h3⟩ => by
    obtain ⟨x, c, hv, hL⟩ := h2.lls
    exact ⟨v, h1, x, c, hv, hL, h3⟩
end Go.Proofs.Ytccbheijfnodjaa
