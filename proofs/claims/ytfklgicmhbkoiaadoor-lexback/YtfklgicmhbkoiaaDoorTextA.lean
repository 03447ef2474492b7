/-
  lex.Text: what it answers, for every row of tokens: their texts, one behind the other, as the document says.
-/
import Derived.Test.YtfklgicmhbkoiaaDoorBld
namespace Go.Proofs.YtfklgicmhbkoiaaDoor
open Go.RowKit Go.Lib

/-- The text of tokens; ahead: does a token that is no End stand ahead of them? -/
def pieces (ahead : Bool) : List Tk → List UInt8
  | [] => []
  | t :: ts => if t.kind = 4 then 10 :: pieces false ts else (if ahead = true then [32] else []) ++ t.text ++ pieces true ts
def lastB (ahead : Bool) (ts : List Tk) : Bool := match ts.getLast? with
  | none => ahead
  | some t => !decide (t.kind = 4)
def piece (ahead : Bool) (t : Tk) : List UInt8 := if t.kind = 4 then [10] else (if ahead = true then [32] else []) ++ t.text
theorem pieces_snoc (t : Tk) : ∀ (ts : List Tk) (ahead : Bool), pieces ahead (ts ++ [t]) = pieces ahead ts ++ piece (lastB ahead ts) t
  | [], ahead => by
    simp only [List.nil_append, pieces, lastB, piece, List.getLast?_nil, List.append_nil]
    rfl
  | x :: ts, ahead => by
    have hl : lastB ahead (x :: ts) = lastB (!decide (x.kind = 4)) ts := by
      cases ts with
      | nil => rfl
      | cons y ts =>
        unfold lastB
        rw [List.getLast?_cons_cons, List.getLast?_eq_some_getLast (List.cons_ne_nil y ts)]
    rw [List.cons_append, pieces, pieces, hl]
    by_cases h : x.kind = 4
    · rw [if_pos h, if_pos h, pieces_snoc t ts false]
      simp [h]
    · rw [if_neg h, if_neg h, pieces_snoc t ts true]
      simp [h]
theorem pieces_len : ∀ (ts : List Tk) (ahead : Bool), (∀ t ∈ ts, t.text.length ≤ 32) → (pieces ahead ts).length ≤ 33 * ts.length
  | [], _, _ => by simp [pieces]
  | t :: ts, ahead, h => by
    have h1 := h t (by simp)
    have h2 : ∀ x ∈ ts, x.text.length ≤ 32 := fun x hx => h x (by simp [hx])
    unfold pieces
    by_cases hk : t.kind = 4
    · rw [if_pos hk]; have := pieces_len ts false h2; simp; omega
    · rw [if_neg hk]
      have := pieces_len ts true h2
      cases ahead <;> simp <;> omega
def textK (ts : List Tk) (k : Nat) : List UInt8 := pieces false (ts.take k)
def aheadK (ts : List Tk) (k : Nat) : Bool := lastB false (ts.take k)
theorem textK_step {ts : List Tk} {k : Nat} (h : k < ts.length) : textK ts (k + 1) = textK ts k ++ piece (aheadK ts k) ts[k] := by
  unfold textK aheadK
  rw [List.take_succ_eq_append_getElem h, pieces_snoc]
theorem aheadK_zero (ts : List Tk) : aheadK ts 0 = false := rfl
theorem aheadK_succ {ts : List Tk} {k : Nat} (h : k < ts.length) : aheadK ts (k + 1) = !decide (ts[k].kind = 4) := by
  unfold aheadK lastB
  rw [List.take_succ_eq_append_getElem h, List.getLast?_append]
  rfl
theorem byteCells_append (a b : List UInt8) : byteCells (a ++ b) = byteCells a ++ byteCells b := by simp [byteCells]
theorem used_cast {B b : Nat} {xs ys : List Value} {w : World} (h : UsedB B b xs w) (e : xs = ys) : UsedB B b ys w := e ▸ h

set_option maxHeartbeats 2000000 in
set_option maxRecDepth 100000 in
theorem text_any (a : Option Addr) (cap : Nat) (ts : List Tk) (w : World) (hn : ts.length ≤ 1000000) (h32 : ∀ t ∈ ts, t.text.length ≤ 32) (hr : TksAt w a ts) :
    Calls Tryd.prog 14 #[.slice a ts.length cap] w fun e w' => e = .returned (.string ⟨(pieces false ts).toArray⟩) ∧ Below w.heap.size w w' := by
  have HT : Hid (TksAt w a ts) := hr
  have H32 : Hid (∀ t ∈ ts, t.text.length ≤ 32) := h32
  obtain ⟨N, hN⟩ : ∃ N, N = ts.length := ⟨_, rfl⟩
  have HN : Hid (N = ts.length) := hN
  rw [← hN] at hn ⊢
  clear hr h32 hN
  go_enter Tryd.func14, Tryd.ntmps14
  go_wp2
  go_loopw [8] (fun i wr => ∃ k : Nat, k ≤ N ∧ i = .int .i64 k ∧ Hid (IsB w.heap.size w.heap.size (byteCells (textK ts k)) wr) ∧ Below w.heap.size w wr) (fun i _ => N - (RowKit.intOf i).toNat)
  case atStart => exact ⟨0, Nat.zero_le _, rfl, fresh_isBuilder _ _ _, (Below.refl _ _).alloc (Nat.le_refl _) _⟩
  case round =>
    obtain ⟨k, hk, rfl, hbld, hbel⟩ := hrel
    have hsz := hbel.size
    have hsl : w.heap.size < wr.heap.size := by rcases hbld.out with h | h <;> exact h.lt
    have hlen : (textK ts k).length ≤ 33000000 := by
      have := pieces_len (ts.take k) false (fun t ht => H32.out t (List.mem_of_mem_take ht))
      unfold textK
      rw [List.length_take] at this
      omega
    by_cases hlt : k < N
    · have hkr : k < ts.length := by rw [← HN.out]; exact hlt
      obtain ⟨g, rfl, hg, hc⟩ := HT.out (by omega)
      have hcB : ∀ W, Below w.heap.size w W → W.cell? ⟨g, k * 4, none⟩ = some (.int .i64 (ts[k].kind : Nat)) ∧ W.cell? ⟨g, k * 4 + 1, none⟩ = some (.int .i64 (ts[k].pos : Nat)) ∧ W.cell? ⟨g, k * 4 + 2, none⟩ = some (.string ⟨ts[k].text.toArray⟩) ∧ W.cell? ⟨g, k * 4 + 3, none⟩ = some (.int .i64 (ts[k].num : Nat)) := fun W hW =>
        ⟨(hW.cell (p := ⟨g, k * 4, none⟩) hg).trans (hc k hkr).1, (hW.cell (p := ⟨g, k * 4 + 1, none⟩) hg).trans (hc k hkr).2.1, (hW.cell (p := ⟨g, k * 4 + 2, none⟩) hg).trans (hc k hkr).2.2.1, (hW.cell (p := ⟨g, k * 4 + 3, none⟩) hg).trans (hc k hkr).2.2.2⟩
      obtain ⟨c0, c1, c2, c3⟩ := hcB wr hbel
      have HST : Hid (textK ts (k + 1) = textK ts k ++ piece (aheadK ts k) ts[k]) := textK_step hkr
      have htl := H32.out ts[k] (List.getElem_mem hkr)
      obtain ⟨t, ht⟩ : ∃ t, t = ts[k] := ⟨_, rfl⟩
      rw [← ht] at c0 c1 c2 c3 HST htl
      -- the kind of the one ahead
      have HPV : Hid (0 < k → ∃ kd : Nat, (∀ W, Below w.heap.size w W → W.cell? ⟨g, (k - 1) * 4, none⟩ = some (.int .i64 kd)) ∧ aheadK ts k = !decide (kd = 4)) := by
        show 0 < k → _
        intro h0
        have h1 : k - 1 < ts.length := by omega
        refine ⟨ts[k - 1].kind, fun W hW => (hW.cell (p := ⟨g, (k - 1) * 4, none⟩) hg).trans (hc (k - 1) h1).1, ?_⟩
        have := aheadK_succ h1
        rw [show k - 1 + 1 = k by omega] at this
        exact this
      have HA0 : Hid (k = 0 → aheadK ts k = false) := fun h => by rw [h]; rfl
      clear hcB hc ht hkr
      by_cases h4 : t.kind = 4
      · have HP : Hid (piece (aheadK ts k) t = [10]) := by show _ = _; unfold piece; rw [if_pos h4]
        rw [h4] at c0
        clear h4
        go_wp2_with fail
        refine (writeByte_any w.heap.size w.heap.size _ 10 _ (isB_below hbld.out ((Below.refl _ _).alloc (Nat.le_refl _) _)) (by rw [byteCells_length]; omega) (by simp; omega)).mono ?_
        rintro e w2 ⟨rfl, hu, hb2, _⟩
        have hb3 : Below w.heap.size w w2 := (hbel.alloc (by omega) _).trans hb2
        clear hb2
        have HU : Hid (IsB w.heap.size w.heap.size (byteCells (textK ts (k + 1))) w2) := Or.inr (used_cast hu (by rw [HST.out, HP.out, byteCells_append]; rfl))
        clear hu
        go_wp2
        go_roundw
        case rel => exact ⟨k + 1, by omega, by go_num, HU, hb3⟩
        case measure => simp [RowKit.intOf]; omega
      · have e4 : ((t.kind : Int) == 4) = false := beq_eq_false_iff_ne.2 (by omega)
        have HP : Hid (piece (aheadK ts k) t = (if aheadK ts k = true then [32] else []) ++ t.text) := by show _ = _; unfold piece; rw [if_neg h4]
        clear h4
        by_cases h0 : 0 < k
        · obtain ⟨kd, hkd0, hah⟩ := HPV.out h0
          have hkd : ∀ o, (wr.alloc o).cell? ⟨g, (k - 1) * 4, none⟩ = some (.int .i64 kd) := fun o => hkd0 _ (hbel.alloc (by omega) _)
          clear hkd0
          by_cases hk4 : kd = 4
          · have HAH : Hid (aheadK ts k = false) := by show _ = _; rw [hah, hk4]; rfl
            subst hk4
            clear hah
            go_wp2_with fail
            refine (writeString_any w.heap.size w.heap.size _ _ _ (isB_below hbld.out ((Below.refl _ _).alloc (Nat.le_refl _) _)) (by rw [byteCells_length]; omega) (by show t.text.toArray.size ≤ _; rw [List.size_toArray]; omega) (by simp; omega)).mono ?_
            rintro e w3 ⟨rfl, hu, hb2, _⟩
            have hb3 : Below w.heap.size w w3 := (hbel.alloc (by omega) _).trans hb2
            have HU : Hid (IsB w.heap.size w.heap.size (byteCells (textK ts (k + 1))) w3) := Or.inr (used_cast hu (by rw [HST.out, HP.out, HAH.out, byteCells_append]; simp [byteCells, strCells]))
            clear hu hb2
            go_wp2
            go_roundw
            case rel => exact ⟨k + 1, by omega, by go_num, HU, hb3⟩
            case measure => simp [RowKit.intOf]; omega
          · have HAH : Hid (aheadK ts k = true) := by show _ = _; rw [hah]; simp [hk4]
            have ek : ((kd : Int) == 4) = false := beq_eq_false_iff_ne.2 (by omega)
            clear hah hk4
            go_wp2_with fail
            refine (writeByte_any w.heap.size w.heap.size _ 32 _ (isB_below hbld.out ((Below.refl _ _).alloc (Nat.le_refl _) _)) (by rw [byteCells_length]; omega) (by simp; omega)).mono ?_
            rintro e w2 ⟨rfl, hu1, hb1, hkeep⟩
            have hbw2 : Below w.heap.size w w2 := (hbel.alloc (by omega) _).trans hb1
            have hs2 := hbw2.size
            have B2 := hkeep wr.heap.size _ _ _ (heap_alloc_new wr _) (by decide) (by omega)
            obtain ⟨d0, d1, d2, d3⟩ := four_cells B2
            clear hb1 hkeep B2
            go_wp2_with fail
            refine (writeString_any w.heap.size w.heap.size _ _ _ (Or.inr hu1) (by simp [byteCells]; omega) (by show t.text.toArray.size ≤ _; rw [List.size_toArray]; omega) (by omega)).mono ?_
            rintro e w3 ⟨rfl, hu, hb2, _⟩
            have hb3 : Below w.heap.size w w3 := hbw2.trans hb2
            have HU : Hid (IsB w.heap.size w.heap.size (byteCells (textK ts (k + 1))) w3) := Or.inr (used_cast hu (by rw [HST.out, HP.out, HAH.out, byteCells_append]; simp [byteCells, strCells]))
            clear hu hb2
            go_wp2
            go_roundw
            case rel => exact ⟨k + 1, by omega, by go_num, HU, hb3⟩
            case measure => simp [RowKit.intOf]; omega
        · have HAH : Hid (aheadK ts k = false) := HA0.out (by omega)
          obtain rfl : k = 0 := by omega
          go_wp2_with fail
          refine (writeString_any w.heap.size w.heap.size _ _ _ (isB_below hbld.out ((Below.refl _ _).alloc (Nat.le_refl _) _)) (by rw [byteCells_length]; omega) (by show t.text.toArray.size ≤ _; rw [List.size_toArray]; omega) (by simp; omega)).mono ?_
          rintro e w3 ⟨rfl, hu, hb2, _⟩
          have hb3 : Below w.heap.size w w3 := (hbel.alloc (by omega) _).trans hb2
          have HU : Hid (IsB w.heap.size w.heap.size (byteCells (textK ts (0 + 1))) w3) := Or.inr (used_cast hu (by rw [HST.out, HP.out, HAH.out, byteCells_append]; simp [byteCells, strCells]))
          clear hu hb2
          go_wp2
          go_roundw
          case rel => exact ⟨0 + 1, by omega, by go_num, HU, hb3⟩
          case measure => simp [RowKit.intOf]; omega
    · obtain rfl : k = N := by omega
      have HE : Hid (textK ts k = pieces false ts) := by show _ = _; unfold textK; rw [HN.out, List.take_length]
      go_wp2_with fail
      refine (Tryd.Builder_String_any w.heap.size w.heap.size _ _ hbld.out hsz).mono ?_
      rintro e w2 ⟨rfl, hb2⟩
      rw [HE.out]
      go_wp2
      go_ret
      exact ⟨rfl, hbel.trans hb2⟩

end Go.Proofs.YtfklgicmhbkoiaaDoor
