/-
  carcanetlaw02.shown: it answers true, and writes nothing that was there.
-/
import Derived.Test.YtfklgicmhbkoiaaDoorTextA
import Derived.Laws.StructEq
namespace Go.Proofs.YtfklgicmhbkoiaaDoor
open Go.RowKit Go.Lib

def shownR : List Nat := [97, 98, 32, 48, 55, 45, 120, 35, 121, 10]
def shownT : List Tk := [⟨1, 0, [97, 98], 0⟩, ⟨2, 3, [48, 55], 7⟩, ⟨3, 5, [45], 0⟩, ⟨1, 6, [120], 0⟩, ⟨4, 9, [], 0⟩]
theorem shown_lex : lexF 10 0 shownR = (shownT, (0, 0)) := by kernel_rfl
theorem shown_is : LexT 0 shownR shownT (0, 0) := by
  have := lexF_is 10 0 shownR (by decide)
  rw [shown_lex] at this
  exact this
theorem shown_flat : (⟨#[97, 98, 32, 48, 55, 45, 120, 35, 121, 10]⟩ : ByteArray).data.toList = flat shownR := by kernel_rfl
theorem shown_text : pieces false shownT = [97, 98, 32, 48, 55, 32, 45, 32, 120, 10] := by kernel_rfl
theorem shown_ok : ∀ r ∈ shownR, okR r := by
  intro r hr
  simp [shownR] at hr
  exact Or.inl (by omega)

set_option maxHeartbeats 2000000 in
set_option maxRecDepth 100000 in
theorem shown_any (w : World) : Calls Tryd.prog 10 #[] w fun e w' => e = .returned (.bool true) ∧ Below w.heap.size w w' := by
  go_enter Tryd.func10, Tryd.ntmps10
  go_wp2_with fail
  refine (lex_ok _ shownR _ (by decide) shown_ok shown_flat).mono ?_
  rintro e w1 ⟨hb1, ts, er, hlx, hor⟩
  obtain ⟨rfl, rfl⟩ := hlx.one shown_is
  clear hlx
  rcases hor with ⟨_, v, rfl, hown⟩ | ⟨h, _⟩
  · obtain ⟨a, cap, rfl, hta⟩ := tksAt_own hown
    obtain ⟨g, rfl, hg, hc⟩ := hta (by decide)
    have HTA : Hid (TksAt w1 (some ⟨g, 0, none⟩) shownT) := hta
    have k0 : w1.cell? ⟨g, 0, none⟩ = some (.int .i64 1) := (hc 0 (by decide)).1
    have k1 : w1.cell? ⟨g, 1, none⟩ = some (.int .i64 0) := (hc 0 (by decide)).2.1
    have k2 : w1.cell? ⟨g, 2, none⟩ = some (.string ⟨#[97, 98]⟩) := (hc 0 (by decide)).2.2.1
    have k3 : w1.cell? ⟨g, 3, none⟩ = some (.int .i64 0) := (hc 0 (by decide)).2.2.2
    have k4 : w1.cell? ⟨g, 4, none⟩ = some (.int .i64 2) := (hc 1 (by decide)).1
    have k5 : w1.cell? ⟨g, 5, none⟩ = some (.int .i64 3) := (hc 1 (by decide)).2.1
    have k6 : w1.cell? ⟨g, 6, none⟩ = some (.string ⟨#[48, 55]⟩) := (hc 1 (by decide)).2.2.1
    have k7 : w1.cell? ⟨g, 7, none⟩ = some (.int .i64 7) := (hc 1 (by decide)).2.2.2
    have k8 : w1.cell? ⟨g, 8, none⟩ = some (.int .i64 3) := (hc 2 (by decide)).1
    have k13 : w1.cell? ⟨g, 13, none⟩ = some (.int .i64 6) := (hc 3 (by decide)).2.1
    have k16 : w1.cell? ⟨g, 16, none⟩ = some (.int .i64 4) := (hc 4 (by decide)).1
    have k17 : w1.cell? ⟨g, 17, none⟩ = some (.int .i64 9) := (hc 4 (by decide)).2.1
    have k18 : w1.cell? ⟨g, 18, none⟩ = some (.string ⟨#[]⟩) := (hc 4 (by decide)).2.2.1
    have k19 : w1.cell? ⟨g, 19, none⟩ = some (.int .i64 0) := (hc 4 (by decide)).2.2.2
    clear hc hta hown
    have HTX := text_any (some ⟨g, 0, none⟩) cap shownT w1 (by decide) (by decide) HTA.out
    rw [shown_text] at HTX
    have HTX2 : Hid (Calls Tryd.prog 14 #[.slice (some ⟨g, 0, none⟩) 5 cap] w1 fun e w' => e = .returned (.string ⟨#[97, 98, 32, 48, 55, 32, 45, 32, 120, 10]⟩) ∧ Below w1.heap.size w1 w') := HTX
    clear HTX HTA
    have hl : shownT.length = 5 := rfl
    rw [hl]
    go_wp2_with fail
    refine HTX2.out.mono ?_
    rintro e w2 ⟨rfl, hb2⟩
    go_wp2
    go_ret
    exact ⟨rfl, hb1.trans (hb2.mono hb1.size)⟩
  · exact absurd rfl h

end Go.Proofs.YtfklgicmhbkoiaaDoor
