/-
  Rows that the call owns, rows of runes, plain facts on texts that are put together.
-/
import Derived.Test.YtfklgicmhbkoiaaDoorDec
import Derived.Laws.Cover4
namespace Go.Proofs.YtfklgicmhbkoiaaDoor
open Go.RowKit Go.Lib

theorem add_at (b off j : Nat) : (⟨b, off, none⟩ : Addr).add j = ⟨b, off + j, none⟩ := by unfold Addr.add; split <;> simp_all

theorem own_row {w : World} {base : Nat} {e : TypeId} {size : Nat} {v : Value} {n : Nat} {xs : List Value} (h : w.ownsRow base e size v n xs) (hn : 0 < n) :
    ∃ g cap, v = .slice (some ⟨g, 0, none⟩) n cap ∧ base ≤ g ∧ g < w.heap.size ∧ n ≤ cap ∧ ∀ j u, xs[j]? = some u → w.cell? ⟨g, j, none⟩ = some u := by
  have hc := h
  rcases h.2 with ⟨_, h0⟩ | ⟨g, cap, cur, hv, hb, hg, hnc, _⟩
  · omega
  · refine ⟨g, cap, hv, hb, (Array.getElem?_eq_some_iff.1 hg).1, hnc, fun j u hu => ?_⟩
    have := hc.cells (g := g) (by rw [hv]; rfl) j u hu
    rw [add_at, Nat.zero_add] at this
    exact this

theorem cut_size (s : ByteArray) (n : Nat) : (s.extract 0 n).size ≤ n := by
  rw [ByteArray.size_extract]; omega

theorem ok_okI {r : Nat} (h : okR r) : okI (r : Int) = true := by
  unfold okI; rw [decide_eq_true_eq]; unfold okR at h; omega
theorem okI_ok {n : Int} (h : okI n = true) : okR n.toNat ∧ n = (n.toNat : Int) := by
  have := ok_yes h; unfold okR; omega
theorem wid_enc {r : Nat} (h : okR r) : wid (r : Int) = (enc r).length := by
  have hw := wid_facts (r : Int)
  unfold okR at h
  by_cases h1 : r < 128
  · rw [enc1 h1]; simp; omega
  by_cases h2 : r < 2048
  · rw [enc2 (by omega) h2]; simp; omega
  by_cases h3 : r < 65536
  · rw [enc3 (by omega) h3]; simp; omega
  · rw [enc4 (by omega)]; simp; omega

theorem bytes_ext {a b : ByteArray} (h : a.data.toList = b.data.toList) : a = b := by
  cases a; cases b
  simp only at h
  congr 1
  exact Array.toList_inj.1 h

theorem cellsR_at (rs : List Nat) : ∀ (p k : Nat) (h : k < rs.length), (cellsR p rs)[k * 2]? = some (.int .i64 (p + (flat (rs.take k)).length : Nat)) ∧ (cellsR p rs)[k * 2 + 1]? = some (.int .i32 (rs[k] : Nat)) := by
  induction rs with
  | nil => intro p k h; simp at h
  | cons r rs ih =>
    intro p k h
    cases k with
    | zero => simp [cellsR, flat]
    | succ k =>
      have hk : k < rs.length := by simpa using h
      have := ih (p + (enc r).length) k hk
      rw [show (k + 1) * 2 = k * 2 + 1 + 1 by omega]
      simp only [cellsR, List.getElem?_cons_succ, List.take_succ_cons, flat_cons, List.length_append, List.getElem_cons_succ]
      rw [← Nat.add_assoc]
      exact this

/-- A row of runes that the call owns: its value, and its cells. -/
theorem own_runes {w : World} {base : Nat} {e : TypeId} {v : Value} {rs : List Nat} (h : w.ownsRow base e 2 v rs.length (cellsR 0 rs)) :
    ∃ a cap, v = .slice a rs.length cap ∧ (0 < rs.length → ∃ g, a = some ⟨g, 0, none⟩ ∧ base ≤ g ∧ g < w.heap.size ∧
      ∀ k (hk : k < rs.length), w.cell? ⟨g, k * 2, none⟩ = some (.int .i64 ((flat (rs.take k)).length : Nat)) ∧ w.cell? ⟨g, k * 2 + 1, none⟩ = some (.int .i32 (rs[k] : Nat))) := by
  by_cases hn : 0 < rs.length
  · obtain ⟨g, cap, hv, hb, hg, _, hc⟩ := own_row h hn
    refine ⟨_, cap, hv, fun _ => ⟨g, rfl, hb, hg, fun k hk => ?_⟩⟩
    have h1 := cellsR_at rs 0 k hk
    rw [Nat.zero_add] at h1
    exact ⟨hc _ _ h1.1, hc _ _ h1.2⟩
  · rcases h.2 with ⟨hv, h0⟩ | ⟨g, cap, cur, hv, _⟩
    · exact ⟨none, 0, by rw [hv, h0], fun h => absurd h hn⟩
    · exact ⟨_, cap, hv, fun h => absurd h hn⟩

theorem data_join (s t : ByteArray) : (s ++ t).data.toList = s.data.toList ++ t.data.toList := by
  rw [ByteArray.data_append, Array.toList_append]
theorem size_join (s t : ByteArray) : (s ++ t).size = s.size + t.size := ByteArray.size_append

/-- The cells of two rows of runes, one behind the other. -/
theorem join_left {a b : List Nat} {k : Nat} (h : k < a.length) : (flat ((a ++ b).take k)).length = (flat (a.take k)).length ∧ ∀ h2 : k < (a ++ b).length, (a ++ b)[k] = a[k] := by
  refine ⟨?_, fun h2 => List.getElem_append_left h⟩
  rw [List.take_append_of_le_length (by omega)]
theorem join_right {a b : List Nat} {k : Nat} (h : a.length ≤ k) : (flat ((a ++ b).take k)).length = (flat a).length + (flat (b.take (k - a.length))).length ∧ ∀ (h2 : k < (a ++ b).length) (h3 : k - a.length < b.length), (a ++ b)[k] = b[k - a.length] := by
  refine ⟨?_, fun h2 h3 => List.getElem_append_right h⟩
  rw [List.take_append, List.take_of_length_le h, flat_append, List.length_append]

theorem flat_take (rs : List Nat) (j : Nat) : (flat (rs.take j)).length ≤ (flat rs).length := by
  have h := congrArg flat (List.take_append_drop j rs)
  rw [flat_append] at h
  have h2 := congrArg List.length h
  rw [List.length_append] at h2
  omega

theorem flat_four (rs : List Nat) : (flat rs).length ≤ 4 * rs.length := by
  induction rs with
  | nil => simp [flat]
  | cons r rs ih => rw [flat_cons]; have := enc_pos r; simp; omega

/-- A row of runes in memory. -/
def RunesAt (w : World) (a : Option Addr) (rs : List Nat) : Prop :=
  0 < rs.length → ∃ g, a = some ⟨g, 0, none⟩ ∧ g < w.heap.size ∧
    ∀ k (hk : k < rs.length), w.cell? ⟨g, k * 2, none⟩ = some (.int .i64 ((flat (rs.take k)).length : Nat)) ∧ w.cell? ⟨g, k * 2 + 1, none⟩ = some (.int .i32 (rs[k] : Nat))
theorem RunesAt.below {w w' : World} {a : Option Addr} {rs : List Nat} (h : RunesAt w a rs) (hb : Below w.heap.size w w') : RunesAt w' a rs := by
  intro h0
  obtain ⟨g, ha, hg, hc⟩ := h h0
  exact ⟨g, ha, Nat.lt_of_lt_of_le hg hb.size, fun k hk => ⟨(hb.cell (p := ⟨g, k * 2, none⟩) hg).trans (hc k hk).1, (hb.cell (p := ⟨g, k * 2 + 1, none⟩) hg).trans (hc k hk).2⟩⟩
theorem runesAt_own {w : World} {base : Nat} {e : TypeId} {v : Value} {rs : List Nat} (h : w.ownsRow base e 2 v rs.length (cellsR 0 rs)) : ∃ a cap, v = .slice a rs.length cap ∧ RunesAt w a rs := by
  obtain ⟨a, cap, hv, hc⟩ := own_runes h
  refine ⟨a, cap, hv, fun h0 => ?_⟩
  obtain ⟨g, ha, _, hg, hcs⟩ := hc h0
  exact ⟨g, ha, hg, hcs⟩

end Go.Proofs.YtfklgicmhbkoiaaDoor
