/-
  Plain facts that the laws on runes lean on: a rune's width is how many bytes it has; a row of runes' bytes; the cells of a row of runes.
-/
import Derived.Test.YtpkppjeiinolaaaShown
namespace Go.Proofs.Ytpkppjeiinolaaa
open Go.RowKit Go.Lib

theorem cut_size (s : ByteArray) (n : Nat) : (s.extract 0 n).size ≤ n := by
  rw [ByteArray.size_extract]; omega

theorem ok_okI {r : Nat} (h : okR r) : okI (r : Int) = true := by
  unfold okI; rw [decide_eq_true_eq]; unfold okR at h; omega
theorem okI_ok {n : Int} (h : okI n = true) : okR n.toNat ∧ n = (n.toNat : Int) := by
  have := ok_yes h; unfold okR; omega
theorem wid_enc {r : Nat} (h : okR r) : wid (r : Int) = (enc r).length := by
  have hw := wid_facts (r : Int)
  unfold okR at h
  by_cases h1 : r < 128
  · rw [enc1 h1]; simp; omega
  by_cases h2 : r < 2048
  · rw [enc2 (by omega) h2]; simp; omega
  by_cases h3 : r < 65536
  · rw [enc3 (by omega) h3]; simp; omega
  · rw [enc4 (by omega)]; simp; omega

def intsN (rs : List Nat) : List Int := rs.map Int.ofNat
theorem intsN_length (rs : List Nat) : (intsN rs).length = rs.length := by simp [intsN]

theorem fold_flat (rs : List Nat) (hok : ∀ r ∈ rs, okR r) : ∀ s : ByteArray, ((intsN rs).foldl (fun r n => r ++ Utf8.encode n) s).data.toList = s.data.toList ++ flat rs := by
  induction rs with
  | nil => intro s; simp [intsN, flat]
  | cons r rs ih =>
    intro s
    have h1 := encode_enc (hok r (by simp))
    have h2 := ih (fun x hx => hok x (by simp [hx])) (s ++ Utf8.encode (r : Int))
    rw [intsN, List.map_cons, List.foldl_cons]
    show ((intsN rs).foldl (fun r n => r ++ Utf8.encode n) (s ++ Utf8.encode (r : Int))).data.toList = _
    rw [h2, flat_cons, ByteArray.data_append, Array.toList_append, h1, List.append_assoc]
theorem runesBytes_flat {rs : List Nat} (hok : ∀ r ∈ rs, okR r) : (runesBytes (intsN rs)).data.toList = flat rs := by
  unfold runesBytes
  rw [fold_flat rs hok]
  rfl
theorem bytes_ext {a b : ByteArray} (h : a.data.toList = b.data.toList) : a = b := by
  cases a; cases b
  simp only at h
  congr 1
  exact Array.toList_inj.1 h

theorem encAns_flat {rs : List Nat} {s : ByteArray} (hok : ∀ r ∈ rs, okR r) (hl : s.data.toList = flat rs) : encAns (intsN rs) = .tuple #[.string s, .int .i64 0] := by
  have e : runesBytes (intsN rs) = s := bytes_ext (by rw [runesBytes_flat hok, hl])
  unfold encAns
  rw [if_pos, e]
  rw [List.all_eq_true]
  intro x hx
  obtain ⟨r, hr, rfl⟩ := List.mem_map.1 hx
  exact ok_okI (hok r hr)

theorem cellsR_at (rs : List Nat) : ∀ (p k : Nat) (h : k < rs.length), (cellsR p rs)[k * 2]? = some (.int .i64 (p + (flat (rs.take k)).length : Nat)) ∧ (cellsR p rs)[k * 2 + 1]? = some (.int .i32 (rs[k] : Nat)) := by
  induction rs with
  | nil => intro p k h; simp at h
  | cons r rs ih =>
    intro p k h
    cases k with
    | zero => simp [cellsR, flat]
    | succ k =>
      have hk : k < rs.length := by simpa using h
      have := ih (p + (enc r).length) k hk
      rw [show (k + 1) * 2 = k * 2 + 1 + 1 by omega]
      simp only [cellsR, List.getElem?_cons_succ, List.take_succ_cons, flat_cons, List.length_append, List.getElem_cons_succ]
      rw [← Nat.add_assoc]
      exact this

/-- A row of runes that the call owns: its value, and its cells. -/
theorem own_runes {w : World} {base : Nat} {e : TypeId} {v : Value} {rs : List Nat} (h : w.ownsRow base e 2 v rs.length (cellsR 0 rs)) :
    ∃ a cap, v = .slice a rs.length cap ∧ (0 < rs.length → ∃ g, a = some ⟨g, 0, none⟩ ∧ base ≤ g ∧ g < w.heap.size ∧
      ∀ k (hk : k < rs.length), w.cell? ⟨g, k * 2, none⟩ = some (.int .i64 ((flat (rs.take k)).length : Nat)) ∧ w.cell? ⟨g, k * 2 + 1, none⟩ = some (.int .i32 (rs[k] : Nat))) := by
  by_cases hn : 0 < rs.length
  · obtain ⟨g, cap, hv, hb, hg, _, hc⟩ := own_row h hn
    refine ⟨_, cap, hv, fun _ => ⟨g, rfl, hb, hg, fun k hk => ?_⟩⟩
    have h1 := cellsR_at rs 0 k hk
    rw [Nat.zero_add] at h1
    exact ⟨hc _ _ h1.1, hc _ _ h1.2⟩
  · rcases h.2 with ⟨hv, h0⟩ | ⟨g, cap, cur, hv, _⟩
    · exact ⟨none, 0, by rw [hv, h0], fun h => absurd h hn⟩
    · exact ⟨_, cap, hv, fun h => absurd h hn⟩

def cellsI (rs : List Nat) : List Value := rs.map (fun r : Nat => Value.int .i32 (Int.ofNat r))
theorem cellsI_snoc (rs : List Nat) (k : Nat) (h : k < rs.length) : cellsI (rs.take (k + 1)) = cellsI (rs.take k) ++ [.int .i32 (rs[k] : Nat)] := by
  unfold cellsI; rw [take_snocN rs k h, List.map_append]; rfl

/-- Encode of a row of runes that the call owns. -/
theorem encode_own (v : Value) (rs : List Nat) (s : ByteArray) (w : World) (base : Nat) (hown : w.ownsRow base 21 1 v rs.length (cellsI rs)) (hb : rs.length ≤ 1000000) (hok : ∀ r ∈ rs, okR r) (hl : s.data.toList = flat rs) :
    Calls Try.prog 14 #[v] w fun e w' => e = .returned (.tuple #[.string s, .int .i64 0]) ∧ w' = w := by
  rw [← encAns_flat hok hl]
  rcases hown.2 with ⟨rfl, h0⟩ | ⟨g, cap, cur, rfl, _⟩
  · have : rs = [] := List.eq_nil_of_length_eq_zero h0
    subst this
    exact encode_nil w
  · refine encode_row g 0 rs.length cap (intsN rs) w (intsN_length rs) hb ?_
    intro j hj
    have h1 := hown.cells (g := g) rfl j (.int .i32 (rs[j] : Nat)) (by simp [cellsI, hj])
    rw [add_at] at h1
    rw [h1]
    simp [intsN, List.getD, hj]

end Go.Proofs.Ytpkppjeiinolaaa
