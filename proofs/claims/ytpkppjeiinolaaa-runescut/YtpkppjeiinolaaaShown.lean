/-
  carcanetlaw01.shown: it answers true, and writes nothing that was there.
-/
import Derived.Test.YtpkppjeiinolaaaEnc
namespace Go.Proofs.Ytpkppjeiinolaaa
open Go.RowKit Go.Lib

theorem own_row {w : World} {base : Nat} {e : TypeId} {size : Nat} {v : Value} {n : Nat} {xs : List Value} (h : w.ownsRow base e size v n xs) (hn : 0 < n) :
    ∃ g cap, v = .slice (some ⟨g, 0, none⟩) n cap ∧ base ≤ g ∧ g < w.heap.size ∧ n ≤ cap ∧ ∀ j u, xs[j]? = some u → w.cell? ⟨g, j, none⟩ = some u := by
  have hc := h
  rcases h.2 with ⟨_, h0⟩ | ⟨g, cap, cur, hv, hb, hg, hnc, _⟩
  · omega
  · refine ⟨g, cap, hv, hb, (Array.getElem?_eq_some_iff.1 hg).1, hnc, fun j u hu => ?_⟩
    have := hc.cells (g := g) (by rw [hv]; rfl) j u hu
    rw [add_at, Nat.zero_add] at this
    exact this

theorem noRune_195 : NoRune [195] := by
  intro r t ho h
  have hf := form_enc ho
  generalize enc r = l at *
  rcases hf with ⟨a, rfl, rfl, h1⟩ | ⟨a, b, rfl, _⟩ | ⟨a, b, c, rfl, _⟩ | ⟨a, b, c, d, rfl, _⟩
  · simp at h
    rw [← h.1] at h1
    simp at h1
  · simp at h
  · simp at h
  · simp at h

theorem flat_shown : (⟨#[97, 195, 169]⟩ : ByteArray).data.toList = flat [97, 233] := by
  simp [flat, enc1, enc2]
theorem ok_shown : ∀ r ∈ [97, 233], okR r := by
  intro r hr
  simp at hr
  exact Or.inl (by omega)
theorem cells_shown : cellsR 0 [97, 233] = [.int .i64 0, .int .i32 97, .int .i64 1, .int .i32 233] := by
  simp [cellsR, enc1]
theorem enc_shown : encAns [97, 233] = .tuple #[.string ⟨#[97, 195, 169]⟩, .int .i64 0] := by
  kernel_rfl

set_option maxHeartbeats 400000 in
theorem shown_any (w : World) : Calls Try.prog 10 #[] w fun e w' => e = .returned (.bool true) ∧ Below w.heap.size w w' := by
  go_enter Try.func10, Try.ntmps10
  go_wp2_with fail
  refine (decode_ok _ [97, 233] _ (by decide) ok_shown flat_shown).mono ?_
  rintro e w1 ⟨v, rfl, hown, hb1⟩
  rw [cells_shown] at hown
  obtain ⟨g, cap, rfl, hg0, hg1, hcap, hcells⟩ := own_row hown (by decide)
  have c2 : w1.cell? ⟨g, 2, none⟩ = some (.int .i64 1) := hcells 2 _ rfl
  have c3 : w1.cell? ⟨g, 3, none⟩ = some (.int .i32 233) := hcells 3 _ rfl
  clear hcells hown
  go_wp2_with fail
  refine (decode_bad _ [97] [195] _ (by decide) ?_ ?_ noRune_195 (by simp)).mono ?_
  · intro r hr
    simp at hr
    exact Or.inl (by omega)
  · simp [flat, enc1]
  rintro e w2 ⟨rfl, hb2⟩
  have e1 : (flat [97]).length = 1 := by simp [flat, enc1]
  rw [e1]
  have d2 : w2.cell? ⟨g, 2, none⟩ = some (.int .i64 1) := (hb2.cell (p := ⟨g, 2, none⟩) hg1).trans c2
  have d3 : w2.cell? ⟨g, 3, none⟩ = some (.int .i32 233) := (hb2.cell (p := ⟨g, 3, none⟩) hg1).trans c3
  have hg2 : g < w2.heap.size := Nat.lt_of_lt_of_le hg1 hb2.size
  clear e1 c2 c3
  go_wp2_with fail
  refine (encode_row _ _ _ _ [97, 233] _ rfl (by decide) ?_).mono ?_
  · intro j hj
    match j, hj with
    | 0, _ => simp
    | 1, _ => simp
  rintro e w3 ⟨rfl, rfl⟩
  rw [enc_shown]
  have k1 : wid 233 = 2 := by decide
  have k2 : kin 233 = 4 := by decide
  have k3 : kin 48 = 3 := by decide
  go_wp2_with (first | (go_at_call 16; refine (width_any _ _).mono ?_; rintro e w' ⟨rfl, rfl⟩) | (go_at_call 18; refine (kind_any _ _).mono ?_; rintro e w' ⟨rfl, rfl⟩))
  go_ret
  exact ⟨rfl, hb1.trans ((hb2.mono hb1.size).trans ((Below.refl _ _).alloc (Nat.le_trans hb1.size hb2.size) _))⟩

end Go.Proofs.Ytpkppjeiinolaaa
