/-
  The program's Apart keeps its contract.
  An array of rows that is written, header by header; what is found by one pair more.
  The document's Route (layer 5): what its loops keep.
-/
import Derived.Test.YtccbheijfnodjaaB12
import Derived.Test.YtccbheijfnodjaaB08
import Derived.Maps.Own
import Derived.Maps.OwnOps
import Derived.Maps.Views
import Derived.Test.YtccbheijfnodjaaB19
import Derived.Test.YtccbheijfnodjaaB07
import Derived.Test.YtccbheijfnodjaaB14
import Derived.Test.YtccbheijfnodjaaB06
import Derived.Test.YtccbheijfnodjaaB04
import Derived.Test.YtccbheijfnodjaaB11
namespace Go.Proofs.Ytccbheijfnodjaa
open Go.RowKit Go.Lib Go.Maps

theorem zeroI (w : World) : (zeroValue 3).run Try.prog w = .ok (.int .i64 0) w := by kernel_rfl
/-- A map that tells of each number how often it stands in L. -/
def CntM (D : DataW Unit) (L : List Int) : Prop := IsMap D ∧ ∀ x : Int, D.atKey (.int .i64 x) (.lit (.int .i64 0)) = .lit (.int .i64 (L.count x))
theorem cntM_nil : CntM (.map []) [] := ⟨isMap_empty, fun _ => rfl⟩
theorem CntM.put {D : DataW Unit} {L : List Int} (h : CntM D L) (x : Int) {c : Int} (hc : c = (L.count x : Nat) + 1) : CntM (D.put (.int .i64 x) (.lit (.int .i64 c))) (L ++ [x]) := by
  refine ⟨h.1.put _ _, fun y => ?_⟩
  by_cases e : y = x
  · subst e
    rw [atKey_put_same (k := .int .i64 y) h.1 (show WideAt.IsKeyLit (.int .i64 y) from trivial), hc]
    congr 2
    simp
  · rw [atKey_put_other (by simp; exact e), h.2 y]
    congr 3
    simp [List.count_append, List.count_cons]
    omega
/-- What stands ahead of place j of row k. -/
def doneL (LL : List (List Int)) (k j : Nat) : List Int := (LL.take k).flatten ++ (LL.getD k []).take j
theorem doneL_zero (LL : List (List Int)) : doneL LL 0 0 = [] := by simp [doneL]
theorem doneL_next {LL : List (List Int)} {k j : Nat} (hk : k < LL.length) (hj : j < LL[k].length) : doneL LL k (j + 1) = doneL LL k j ++ [LL[k][j]] := by
  unfold doneL
  have e : LL.getD k [] = LL[k] := by simp [List.getD, hk]
  rw [e, List.append_assoc, List.take_append_getElem hj]
theorem doneL_row {LL : List (List Int)} {k j : Nat} (hk : k < LL.length) (hj : LL[k].length ≤ j) : doneL LL k j = doneL LL (k + 1) 0 := by
  unfold doneL
  have e : LL.getD k [] = LL[k] := by simp [List.getD, hk]
  rw [e, List.take_of_length_le hj, List.take_zero, List.append_nil]
  rw [← List.take_append_getElem hk, List.flatten_append]
  simp
theorem doneL_all (LL : List (List Int)) : doneL LL LL.length 0 = LL.flatten := by simp [doneL]
theorem doneL_le (LL : List (List Int)) (k j : Nat) (hk : k < LL.length) : (doneL LL k j).length ≤ LL.flatten.length := by
  have h1 : LL.flatten = (LL.take k).flatten ++ (LL.drop k).flatten := by rw [← List.flatten_append, List.take_append_drop]
  rw [h1]
  unfold doneL
  rw [List.length_append, List.length_append, List.drop_eq_getElem_cons hk, List.flatten_cons, List.length_append]
  have e : LL.getD k [] = LL[k] := by simp [List.getD, hk]
  rw [e, List.length_take]
  omega
/-- The inner places of the first k rows, and those of row k ahead of place i, stand alone. -/
def AloneTo (LL : List (List Int)) (k i : Nat) : Prop := ∀ q (hq : q < LL.length), (q < k ∨ q = k) → ∀ p (hp : p + 1 < LL[q].length), 1 ≤ p → (q < k ∨ p < i) → LL.flatten.count (LL[q][p]'(by omega)) = 1
theorem alone_apart {LL : List (List Int)} : AloneTo LL LL.length 0 ↔ ApartL LL := by
  constructor
  · intro h L hL p hp h1
    obtain ⟨q, hq, rfl⟩ := List.getElem_of_mem hL
    exact h q hq (Or.inl hq) p hp h1 (Or.inl hq)
  · intro h q hq _ p hp h1 _
    exact h LL[q] (List.getElem_mem hq) p hp h1

set_option maxHeartbeats 4000000 in
set_option maxRecDepth 100000 in
theorem apart_any (a : Option Addr) (cap : Nat) (LL : List (List Int)) (r : Bool) (w : World) (hN : LL.length ≤ 1000000) (hF : LL.flatten.length ≤ 1000000000) (hL : LLAt w a LL) (hwf : WfR LL) (hr : r = true ↔ ApartL LL) :
    Calls Try.prog 24 #[.slice a LL.length cap] w fun e w' => e = .returned (.bool r) ∧ Below w.heap.size w w' := by
  have hmm := @run_makeMap Try.prog
  obtain ⟨N, hNe⟩ := ex_eq LL.length
  have HN := hid hNe
  have HF : Hid (LL.flatten.length ≤ 1000000000) := hF
  have HLL : Hid (∀ X, Below w.heap.size w X → LLAt X a LL) := fun X hX => hL.below hX
  have HWF := hid hwf
  have HR := hid hr
  have hrl : ∀ q (hq : q < LL.length), LL[q].length ≤ 1000000000 := fun q hq => by
    have := doneL_le LL q LL[q].length hq
    unfold doneL at this
    have e : LL.getD q [] = LL[q] := by simp [List.getD, hq]
    rw [e, List.take_length, List.length_append] at this
    omega
  have HRL := hid hrl
  rw [← hNe] at hN ⊢
  clear hNe hF hL hwf hr hrl
  go_enter Try.func24, Try.ntmps24
  go_wp2
  clear hmm
  go_loopg [14] N (fun Gh i wz => ∃ (k n : Nat) (D : DataW Unit), k ≤ N ∧ N - k ≤ Gh ∧ i = .int .i64 k ∧ Hid (wz.ownsMap Try.prog 3 (plainElem Try.prog 3) w.heap.size n D ∧ n ≤ (doneL LL k 0).length ∧ CntM D (doneL LL k 0)) ∧ Hid (Below w.heap.size w wz))
  case atStart => exact ⟨0, 0, .map [], Nat.zero_le _, by omega, rfl, ⟨World.ownsMap_made _ _ _ _, Nat.zero_le _, by rw [doneL_zero]; exact cntM_nil⟩, (Below.refl _ _).alloc (Nat.le_refl _) _⟩
  case round =>
    obtain ⟨k, n, D, hk, hGh, rfl, hM, hb⟩ := hrel
    by_cases hlt : k < N
    · have hkr : k < LL.length := by rw [← HN.out]; exact hlt
      obtain ⟨g, off, ak, ck, rfl, c0, hI0⟩ := (HLL.out wr hb.out).at hkr
      have HIA : Hid (∀ X, Below w.heap.size w X → X.cell? ⟨g, off + k, none⟩ = some (.slice ak LL[k].length ck) → IAt X ak LL[k]) := fun X hX hc => by
        obtain ⟨g', off', ak', ck', e, c0', hI'⟩ := (HLL.out X hX).at hkr
        cases e
        rw [hc] at c0'
        cases c0'
        exact hI'
      have HCK : Hid (∀ X, Below w.heap.size w X → X.cell? ⟨g, off + k, none⟩ = some (.slice ak LL[k].length ck)) := fun X hX => by
        obtain ⟨g', off', hg', hgl, hh⟩ := (HLL.out w (Below.refl _ _)) (by omega)
        cases hg'
        obtain ⟨ak', ck', h1, _⟩ := hh k hkr
        have h2 := (hb.out.cell (p := ⟨g, off + k, none⟩) hgl).trans h1
        rw [c0] at h2
        cases h2
        exact (hX.cell (p := ⟨g, off + k, none⟩) hgl).trans h1
      obtain ⟨J, hJ⟩ := ex_eq LL[k].length
      have hJl : J ≤ 1000000000 := by rw [hJ]; exact HRL.out k hkr
      rw [← hJ] at c0
      have HJ : Hid (∃ h : k < LL.length, J = LL[k].length) := ⟨hkr, hJ⟩
      have q1 : (k : Int) < (N : Int) := by omega
      have HM0 : Hid (∃ n D, wr.ownsMap Try.prog 3 (plainElem Try.prog 3) w.heap.size n D ∧ n ≤ (doneL LL k 0).length ∧ CntM D (doneL LL k 0)) := ⟨n, D, hM.out⟩
      have HIB : Hid (∀ X, Below w.heap.size w X → ∀ h : k < LL.length, IAt X ak LL[k]) := fun X hX _ => HIA.out X hX (HCK.out X hX)
      clear hJ hM HIA HCK hI0 hkr
      go_wp2
      go_loopg [20] J (fun Gj i wz => ∃ (j : Nat), j ≤ J ∧ J - j ≤ Gj ∧ i = .int .i64 j ∧ Hid (∃ n D, wz.ownsMap Try.prog 3 (plainElem Try.prog 3) w.heap.size n D ∧ n ≤ (doneL LL k j).length ∧ CntM D (doneL LL k j)) ∧ Hid (Below w.heap.size w wz))
      case atStart => exact ⟨0, Nat.zero_le _, by omega, rfl, HM0, hb⟩
      case round =>
        obtain ⟨j, hj, hGj, rfl, hMj, hbj⟩ := hrel
        by_cases hlj : j < J
        · obtain ⟨hkr, hJe⟩ := HJ.out
          have hjr : j < LL[k].length := by rw [← hJe]; exact hlj
          obtain ⟨ga, oa, rfl, hga, hca⟩ := HIB.out wr hbj.out hkr (by omega)
          have d0 := hca j hjr
          obtain ⟨x, hx⟩ := ex_eq (LL[k][j]'hjr)
          rw [← hx] at d0
          obtain ⟨n, D, hown, hn, hcm⟩ := hMj.out
          have hdl := doneL_le LL k j hkr
          have hn9 : n ≤ 1000000000 := by have := HF.out; omega
          have hkey : keyOf Try.prog 3 (.int .i64 x) = some (.int .i64 x) := keyOf_int_mk Try.underlying3 (by rw [hx]; exact HWF.out _ (List.getElem_mem hkr) _ (List.getElem_mem hjr))
          have hat := hcm.2 x
          obtain ⟨cx, hcx⟩ := ex_eq ((doneL LL k j).count x)
          rw [← hcx] at hat
          have hcl : cx ≤ 1000000000 := by rw [hcx]; exact Nat.le_trans List.count_le_length (by have := HF.out; omega)
          have HAT := hid hat
          have HOWN := hid hown
          have HKEY := hid hkey
          have HPUT : Hid (∀ c : Int, c = (cx : Int) + 1 → CntM (D.put (.int .i64 x) (.lit (.int .i64 c))) (doneL LL k (j + 1)) ∧ n + 1 ≤ (doneL LL k (j + 1)).length) := fun c hc => by
            rw [doneL_next hkr hjr, ← hx]
            exact ⟨hcm.put x (by rw [hc, hcx]), by simp; omega⟩
          have HGR : Hid (∀ w4, wr.grownBy w4 (some w.heap.size) → Below w.heap.size w w4) := fun w4 hg => hbj.out.grown hg hbj.out.size (fun q hq => by cases hq; exact Nat.le_refl _)
          have q2 : (j : Int) < (J : Int) := by omega
          clear hca hx hown hn hcm hdl hkey hat hcx hjr hJe hkr hMj
          go_wp2_with (first
            | (at_lookup; refine wpList_lookup_own_int _ rfl _ _ 59 rfl 3 3 .i64 keyI Try.underlying59 Try.underlying3 (zeroI _) w.heap.size n _ rfl HOWN.out _ _ rfl HKEY.out ?_; intro c hatc hwc)
            | (at_mapUpdate; refine wpList_mapUpdate_own _ rfl _ _ _ 59 rfl 3 3 keyI Try.underlying59 _ w.heap.size n _ rfl HOWN.out (by unfold maxLen; omega) _ _ _ rfl rfl HKEY.out _ [] (plainElem_int Try.underlying3 (wrap64_wf _)) ?_; intro w1 hown1 hgrow1))
          have hcc : c = (cx : Int) := by
            have := hatc.symm.trans HAT.out
            simpa using this
          have hwr : wrap64 (c + 1) = (cx : Int) + 1 := by rw [hcc]; unfold wrap64; first | omega | (simp [IntKind.wrap, IntKind.bits, IntKind.signed]; omega) | (split <;> omega)
          obtain ⟨hp1, hp2⟩ := HPUT.out _ hwr
          have HNX : Hid (∃ n D, w1.ownsMap Try.prog 3 (plainElem Try.prog 3) w.heap.size n D ∧ n ≤ (doneL LL k (j + 1)).length ∧ CntM D (doneL LL k (j + 1))) := ⟨n + 1, _, hown1, hp2, hp1⟩
          have HB1 := hid (HGR.out w1 hgrow1)
          clear hown1 hgrow1 hp1 hp2 hatc hwc hwr hcc HPUT HGR HOWN HKEY HAT
          try go_wp2
          go_roundg (J - (j + 1))
          case measure => omega
          case rel => exact ⟨j + 1, by omega, Nat.le_refl _, by go_num, HNX, HB1⟩
        · obtain rfl : j = J := by omega
          have HNX : Hid (∃ n D, wr.ownsMap Try.prog 3 (plainElem Try.prog 3) w.heap.size n D ∧ n ≤ (doneL LL (k + 1) 0).length ∧ CntM D (doneL LL (k + 1) 0)) := by
            obtain ⟨hkr, hJe⟩ := HJ.out
            rw [Hid, ← doneL_row (j := j) hkr (Nat.le_of_eq hJe.symm)]
            exact hMj.out
          obtain ⟨n, D, hNX⟩ := HNX.out
          have HNY := hid hNX
          clear hMj HNX hNX
          go_wp2
          go_roundg (N - (k + 1))
          case measure => omega
          case rel => exact ⟨k + 1, n, D, by omega, Nat.le_refl _, by go_num, HNY, hbj⟩
    · obtain rfl : k = N := by omega
      have HMA : Hid (wr.ownsMap Try.prog 3 (plainElem Try.prog 3) w.heap.size n D ∧ CntM D LL.flatten) := by
        refine ⟨hM.out.1, ?_⟩
        have := hM.out.2.2
        rw [HN.out, doneL_all] at this
        exact this
      clear hM
      rename World => W9
      have HB9 := hb
      have q9 : n ≤ n := Nat.le_refl _
      clear hb q9
      go_wp2
      go_loopg [32] k (fun Gh i wz => ∃ (u : Nat), u ≤ k ∧ k - u ≤ Gh ∧ i = .int .i64 u ∧ Hid (AloneTo LL u 0) ∧ Hid (wz = W9))
      case atStart => exact ⟨0, Nat.zero_le _, by omega, rfl, (fun q _ h p _ _ h2 => by omega), rfl⟩
      case round =>
        obtain ⟨u, hu, hGu, rfl, hal, hw9⟩ := hrel
        have hbu : Below w.heap.size w wr := by rw [hw9.out]; exact HB9.out
        by_cases hlu : u < k
        · have hur : u < LL.length := by rw [← HN.out]; exact hlu
          obtain ⟨g, off, ak, ck, rfl, c0, hI0⟩ := (HLL.out wr hbu).at hur
          obtain ⟨J, hJ⟩ := ex_eq LL[u].length
          have hJl : J ≤ 1000000000 := by rw [hJ]; exact HRL.out u hur
          rw [← hJ] at c0
          have HJ : Hid (∃ h : u < LL.length, J = LL[u].length ∧ IAt W9 ak LL[u]) := ⟨hur, hJ, by rw [← hw9.out]; exact hI0⟩
          have HAL : Hid (AloneTo LL u 1) := fun q hq h p hp h1 h2 => hal.out q hq h p hp h1 (by omega)
          have q1 : (u : Int) < (k : Int) := by omega
          clear hJ hI0 hal hur hbu
          go_wp2
          go_loopg [10] (J + 1) (fun Gj i wz => ∃ (j : Nat), 1 ≤ j ∧ j ≤ J + 1 ∧ J + 1 - j ≤ Gj ∧ i = .int .i64 j ∧ Hid (AloneTo LL u j) ∧ Hid (wz = W9))
          case atStart => exact ⟨1, Nat.le_refl _, by omega, by omega, rfl, HAL, hw9⟩
          case round =>
            obtain ⟨j, hj1, hj, hGj, rfl, haj, hw8⟩ := hrel
            have e1 : IntKind.i64.wrap ((J : Int) - 1) = (J : Int) - 1 := by simp [IntKind.wrap, IntKind.bits, IntKind.signed]; omega
            by_cases hlj : j + 1 < J
            · obtain ⟨hur, hJe, hIA⟩ := HJ.out
              have hjr : j < LL[u].length := by rw [← hJe]; omega
              obtain ⟨ga, oa, rfl, hga, hca⟩ := hIA (by omega)
              have d0 := hca j hjr
              rw [← hw8.out] at d0
              obtain ⟨x, hx⟩ := ex_eq (LL[u][j]'hjr)
              rw [← hx] at d0
              have HOWN : Hid (wr.ownsMap Try.prog 3 (plainElem Try.prog 3) w.heap.size n D) := by rw [Hid, hw8.out]; exact HMA.out.1
              have HKEY : Hid (keyOf Try.prog 3 (.int .i64 x) = some (.int .i64 x)) := keyOf_int_mk Try.underlying3 (by rw [hx]; exact HWF.out _ (List.getElem_mem hur) _ (List.getElem_mem hjr))
              have hat := HMA.out.2.2 x
              obtain ⟨cx, hcx⟩ := ex_eq (LL.flatten.count x)
              rw [← hcx] at hat
              have HAT := hid hat
              have hpos : 0 < cx := by
                rw [hcx]
                refine List.count_pos_iff.2 (List.mem_flatten.2 ⟨LL[u], List.getElem_mem hur, ?_⟩)
                rw [hx]; exact List.getElem_mem hjr
              have q2 : (j : Int) < (J : Int) - 1 := by omega
              have q3 : (j : Int) < (J : Int) := by omega
              have q4 : decide ((j : Int) < (J : Int) - 1) = true := decide_eq_true q2
              by_cases hone : cx = 1
              · have HNX : Hid (AloneTo LL u (j + 1)) := fun q hq h p hp h1 h2 => by
                  by_cases e : q < u ∨ p < j
                  · exact haj.out q hq h p hp h1 e
                  · obtain rfl : q = u := by omega
                    obtain rfl : p = j := by omega
                    rw [← hx, ← hcx]; exact hone
                clear hca hx hat hcx hjr hJe hIA haj hur
                go_wp2_with (first
                  | (at_lookup; refine wpList_lookup_own_int _ rfl _ _ 59 rfl 3 3 .i64 keyI Try.underlying59 Try.underlying3 (zeroI _) w.heap.size n _ rfl HOWN.out _ _ rfl HKEY.out ?_; intro c hatc hwc; obtain rfl : c = 1 := by { have := hatc.symm.trans HAT.out; rw [hone] at this; simpa using this }))
                try go_wp2
                go_roundg (J + 1 - (j + 1))
                case measure => omega
                case rel => exact ⟨j + 1, by omega, by omega, Nat.le_refl _, by go_num, HNX, hw8⟩
              · obtain rfl : r = false := b_false HR.out (fun h => by
                  have := h LL[u] (List.getElem_mem hur) j (by omega) hj1
                  rw [← hx, ← hcx] at this
                  exact hone this)
                have HBW : Hid (Below w.heap.size w wr) := by rw [hw8.out]; exact HB9.out
                clear hca hx hat hcx hjr hJe hIA haj hur HR
                go_wp2_with (first
                  | (at_lookup; refine wpList_lookup_own_int _ rfl _ _ 59 rfl 3 3 .i64 keyI Try.underlying59 Try.underlying3 (zeroI _) w.heap.size n _ rfl HOWN.out _ _ rfl HKEY.out ?_; intro c hatc hwc; obtain rfl : c = (cx : Int) := by { have := hatc.symm.trans HAT.out; simpa using this }; have h1c : decide ((1 : Int) < (cx : Int)) = true := decide_eq_true (by omega); have h2c : (1 : Int) < (cx : Int) := by { omega }))
                try go_wp2
                go_ret
                exact ⟨rfl, HBW.out⟩
            · have HNX : Hid (AloneTo LL (u + 1) 0) := fun q hq h p hp h1 h2 => by
                obtain ⟨hur, hJe, _⟩ := HJ.out
                by_cases e : q < u
                · exact haj.out q hq (Or.inl e) p hp h1 (Or.inl e)
                · obtain rfl : q = u := by omega
                  exact haj.out q hq (Or.inr rfl) p hp h1 (Or.inr (by omega))
              have q2 : ¬ (j : Int) < (J : Int) - 1 := by omega
              have q4 : decide ((j : Int) < (J : Int) - 1) = false := decide_eq_false q2
              clear haj
              go_wp2
              go_roundg (k - (u + 1))
              case measure => omega
              case rel => exact ⟨u + 1, by omega, Nat.le_refl _, by go_num, HNX, hw8⟩
        · obtain rfl : u = k := by omega
          obtain rfl : r = true := HR.out.2 (alone_apart.1 (by have := hal.out; rw [HN.out] at this; exact this))
          clear HR hal
          go_wp2
          go_ret
          exact ⟨rfl, hbu⟩
end Go.Proofs.Ytccbheijfnodjaa
namespace Go.Proofs.Ytccbheijfnodjaa
open Go.RowKit Go.Lib

/-- An array of headers in block g, their rows in blocks with P. -/
structure RW (w : World) (g n : Nat) (P : Nat → Prop) (B : Nat → List Int) : Prop where
  lt : g < w.heap.size
  no : ¬ P g
  at_ : ∀ v, v < n → ∃ ak ck, w.cell? ⟨g, v, none⟩ = some (.slice ak (B v).length ck) ∧ w.frozen? ⟨g, v, none⟩ = false ∧ Sl ak ck (B v).length ∧ IAt w ak (B v) ∧ ∀ g' off, ak = some ⟨g', off, none⟩ → 0 < (B v).length → P g'
theorem RW.kept {T P : Nat → Prop} {w w' : World} {g n : Nat} {B : Nat → List Int} (h : RW w g n P B) (hk : KeptBut T w w') (hg : ¬ T g) (hT : ∀ k, P k → k < w.heap.size → ¬ T k) : RW w' g n P B := by
  refine ⟨Nat.lt_of_lt_of_le h.lt hk.size, h.no, fun v hv => ?_⟩
  obtain ⟨ak, ck, h1, h2, h3, h4, h5⟩ := h.at_ v hv
  refine ⟨ak, ck, (hk.cell (p := ⟨g, v, none⟩) h.lt hg).trans h1, (hk.frozen (p := ⟨g, v, none⟩) h.lt hg).trans h2, h3, h4.kept hk (fun g' off e h0 => hT g' (h5 g' off e h0) ?_), h5⟩
  obtain ⟨g2, o2, e2, hg2, _⟩ := h4 h0
  rw [e] at e2
  cases e2
  exact hg2
theorem RW.below {P : Nat → Prop} {w w' : World} {g n : Nat} {B : Nat → List Int} (h : RW w g n P B) (hb : Below w.heap.size w w') : RW w' g n P B := h.kept (KeptBut.of_whole (fun _ => False) hb) (fun e => e) (fun _ _ _ e => e)
theorem RW.mono {P P' : Nat → Prop} {w : World} {g n : Nat} {B : Nat → List Int} (h : RW w g n P B) (hP : ∀ k, k < w.heap.size → P k → P' k) (hn : ¬ P' g) : RW w g n P' B := by
  refine ⟨h.lt, hn, fun v hv => ?_⟩
  obtain ⟨ak, ck, h1, h2, h3, h4, h5⟩ := h.at_ v hv
  refine ⟨ak, ck, h1, h2, h3, h4, fun g' off e h0 => hP g' ?_ (h5 g' off e h0)⟩
  obtain ⟨g2, o2, e2, hg2, _⟩ := h4 h0
  rw [e] at e2
  cases e2
  exact hg2
theorem RW.put {P : Nat → Prop} {w : World} {g n : Nat} {B : Nat → List Int} (h : RW w g n P B) {v : Nat} (hv : v < n) {ak : Option Addr} {ck : Nat} {L : List Int} (hs : Sl ak ck L.length) (hI : IAt w ak L) (hP : ∀ g' off, ak = some ⟨g', off, none⟩ → 0 < L.length → P g') :
    RW (w.setCell ⟨g, v, none⟩ (.slice ak L.length ck)) g n P (fun u => if u = v then L else B u) := by
  have hk := kept_set w ⟨g, v, none⟩ (.slice ak L.length ck)
  have hne : ∀ g', P g' → ¬ g' = g := fun g' hp e => h.no (e ▸ hp)
  obtain ⟨_, _, c1, f1, _⟩ := h.at_ v hv
  refine ⟨by simpa using h.lt, h.no, fun u hu => ?_⟩
  obtain ⟨au, cu, h1, h2, h3, h4, h5⟩ := h.at_ u hu
  by_cases e : u = v
  · subst e
    simp only [if_pos]
    exact ⟨ak, ck, World.cell?_setCell_same' _ _ _ (by rw [c1]; rfl), by rw [World.frozen?_setCell]; exact f1, hs, hI.kept hk (fun g' off e h0 => hne g' (hP g' off e h0)), hP⟩
  · simp only [if_neg e]
    exact ⟨au, cu, by rw [World.cell?_setCell_other _ _ _ _ (by simp <;> omega)]; exact h1, by rw [World.frozen?_setCell]; exact h2, h3, h4.kept hk (fun g' off e h0 => hne g' (h5 g' off e h0)), h5⟩
theorem RW.congr {P : Nat → Prop} {w : World} {g n : Nat} {B B' : Nat → List Int} (h : RW w g n P B) (e : ∀ v, v < n → B v = B' v) : RW w g n P B' := ⟨h.lt, h.no, fun v hv => by rw [← e v hv]; exact h.at_ v hv⟩
theorem made_nils (n : Nat) : (madeCells (Value.slice none 0 0).cells (n * 1)).toList = List.replicate n (.slice none 0 0) := by
  apply List.ext_getElem
  · simp [madeCells]
  · intro i h1 h2
    simp [madeCells, Value.cells, Nat.mod_one]
theorem rw_made {P : Nat → Prop} {w : World} {base g n : Nat} {e : TypeId} (h : w.ownsRow base e 1 (.slice (some ⟨g, 0, none⟩) n n) n (madeCells (Value.slice none 0 0).cells (n * 1)).toList) (hn : ¬ P g) : RW w g n P (fun _ => []) := by
  rw [made_nils] at h
  have hg : g < w.heap.size := (h.lt g rfl).2
  refine ⟨hg, hn, fun v hv => ?_⟩
  rcases h.2 with ⟨hv', _⟩ | ⟨g', cap, cur, hv', _, hgb, _⟩
  · simp at hv'
  · simp only [Value.slice.injEq, Option.some.injEq, Addr.mk.injEq, and_true, true_and] at hv'
    obtain ⟨rfl, _⟩ := hv'
    have := h.cells (g := g) rfl v (.slice none 0 0) (by rw [List.getElem?_replicate, if_pos hv])
    rw [add_at, Nat.zero_add] at this
    exact ⟨none, 0, this, frozen_of_heap hgb _, sl_nil, iat_nil _ _, fun _ _ e => by cases e⟩

theorem found_nil (B : Int → List Int) (long : Nat) (away : List Int) (v : Int) : FoundBy B long away [] v [] := Or.inl ⟨rfl, fun x h => by cases h⟩
theorem found_other {B : Int → List Int} {long : Nat} {away : List Int} {D : List (Int × Int)} {x y v : Int} {F : List Int} (h : FoundBy B long away D v F) (hne : v ≠ y) : FoundBy B long away (D ++ [(x, y)]) v F := by
  have hm : ∀ z, (z, v) ∈ D ++ [(x, y)] ↔ (z, v) ∈ D := fun z => by
    rw [List.mem_append]
    exact ⟨fun h => h.elim id (fun h => by simp at h; exact absurd h.2 hne), Or.inl⟩
  rcases h with ⟨h1, h2⟩ | ⟨z, h1, h2, h3, h4⟩
  · exact Or.inl ⟨h1, fun z hz => h2 z ((hm z).1 hz)⟩
  · exact Or.inr ⟨z, (hm z).2 h1, h2, h3, fun u hu => h4 u ((hm u).1 hu)⟩
/-- One pair more that brings nothing. -/
theorem found_skip {B : Int → List Int} {long : Nat} {away : List Int} {D : List (Int × Int)} {x y v : Int} {F : List Int} (h : FoundBy B long away D v F) (hn : ¬ Cand B long away x y) : FoundBy B long away (D ++ [(x, y)]) v F := by
  have hm : ∀ z, (z, v) ∈ D ++ [(x, y)] → Cand B long away z v → (z, v) ∈ D := fun z hz hc => by
    rcases List.mem_append.1 hz with h | h
    · exact h
    · simp at h; obtain ⟨rfl, rfl⟩ := h; exact absurd hc hn
  rcases h with ⟨h1, h2⟩ | ⟨z, h1, h2, h3, h4⟩
  · exact Or.inl ⟨h1, fun z hz hc => h2 z (hm z hz hc) hc⟩
  · exact Or.inr ⟨z, List.mem_append_left _ h1, h2, h3, fun u hu hc => h4 u (hm u hu hc) hc⟩
/-- One pair more that is taken. -/
theorem found_take {B : Int → List Int} {long : Nat} {away : List Int} {D : List (Int × Int)} {x y : Int} {F : List Int} (h : FoundBy B long away D y F) (hc : Cand B long away x y) (hl : F = [] ∨ lexL (B x ++ [y]) F = true) : FoundBy B long away (D ++ [(x, y)]) y (B x ++ [y]) := by
  refine Or.inr ⟨x, by simp, hc, rfl, fun z hz hcz => ?_⟩
  rcases List.mem_append.1 hz with hz | hz
  · rcases h with ⟨_, h2⟩ | ⟨u, _, _, h3, h4⟩
    · exact absurd hcz (h2 z hz)
    · rcases hl with hl | hl
      · rw [h3] at hl; simp at hl
      · exact lex_low' (h4 z hz hcz) (Or.inr hl)
  · simp at hz
    rw [hz]
    exact lexL_irrefl _
/-- One pair more that is no better. -/
theorem found_keep {B : Int → List Int} {long : Nat} {away : List Int} {D : List (Int × Int)} {x y : Int} {F : List Int} (h : FoundBy B long away D y F) (hne : F ≠ []) (hl : lexL (B x ++ [y]) F = false) : FoundBy B long away (D ++ [(x, y)]) y F := by
  rcases h with ⟨h1, _⟩ | ⟨z, h1, h2, h3, h4⟩
  · exact absurd h1 hne
  · refine Or.inr ⟨z, List.mem_append_left _ h1, h2, h3, fun u hu hc => ?_⟩
    rcases List.mem_append.1 hu with hu | hu
    · exact h4 u hu hc
    · simp at hu; rw [hu]; exact hl
end Go.Proofs.Ytccbheijfnodjaa
namespace Go.Proofs.Ytccbheijfnodjaa
open Go.RowKit Go.Lib

theorem no_route {n : Int} {es : List (Int × Int)} {x y : Int} {away : List Int} (h : ¬ ((0 ≤ x ∧ x < n) ∧ (0 ≤ y ∧ y < n) ∧ x ∉ away ∧ y ∉ away)) : RouteIs n es x y away [] := Or.inl ⟨rfl, fun p hp => h (by
  obtain ⟨h0, e1⟩ := head_at hp.first
  obtain ⟨_, e2⟩ := last_at hp.last
  have m1 : x ∈ p := by rw [← e1]; exact List.getElem_mem _
  have m2 : y ∈ p := by rw [← e2]; exact List.getElem_mem _
  exact ⟨hp.path.inn x m1, hp.path.inn y m2, hp.off x m1, hp.off y m2⟩)⟩
theorem route_nil {n : Int} {es : List (Int × Int)} {x y : Int} {away : List Int} {w X : World} (hb : Below w.heap.size w X) (h : ¬ (RightG n es ∧ (0 ≤ x ∧ x < n) ∧ (0 ≤ y ∧ y < n) ∧ x ∉ away ∧ y ∉ away)) : RouteTold n es x y away w X (.slice none 0 0) := by
  refine ⟨none, 0, [], rfl, ?_, sl_nil, iat_nil _ _, hb⟩
  by_cases hR : RightG n es
  · exact Or.inl ⟨hR, no_route (fun h' => h ⟨hR, h'⟩)⟩
  · exact Or.inr ⟨hR, rfl⟩
/-- What the stages keep: the best ways so far, in memory. -/
structure RtSt (w2 wz : World) (g1 m : Nat) (es : List (Int × Int)) (x : Int) (away : List Int) (long : Nat) (B : Nat → List Int) : Prop where
  rw_ : RW wz g1 m (fun k => g1 < k) B
  best : ∀ v : Nat, v < m → BestAt m es x away long v (B v)
  bel : Below g1 w2 wz
/-- While the pairs are looked at: what is found so far, beside the best ways. -/
structure RtIn (w1 wz : World) (g1 g2 m : Nat) (es : List (Int × Int)) (away : List Int) (long : Nat) (B : Nat → List Int) (t : Nat) (F : Nat → List Int) : Prop where
  rf : RW wz g2 m (fun k => g2 < k) F
  rb : RW wz g1 m (fun k => g1 < k ∧ k < g2) B
  fd : ∀ v : Nat, v < m → FoundBy (fun z => B z.toNat) long away ((dirs es).take t) v (F v)
  bel : Below g1 w1 wz
  lt : g1 < g2
theorem RtSt.found {w1 wr w4 : World} {g1 m : Nat} {es : List (Int × Int)} {x : Int} {away : List Int} {long : Nat} {B : Nat → List Int} (h : RtSt w1 wr g1 m es x away long B) (hb : Below wr.heap.size wr w4) (hf : RW w4 wr.heap.size m (fun k => wr.heap.size < k) (fun _ => [])) : RtIn w1 w4 g1 wr.heap.size m es away long B 0 (fun _ => []) := by
  have hlt := h.rw_.lt
  refine ⟨hf, (h.rw_.mono (P' := fun k => g1 < k ∧ k < wr.heap.size) (fun k hk hp => ⟨hp, hk⟩) (fun e => Nat.lt_irrefl _ e.1)).below hb, fun v _ => by rw [List.take_zero]; exact found_nil _ _ _ _, h.bel.trans (hb.mono (Nat.le_of_lt hlt)), hlt⟩
theorem dirs_take {es : List (Int × Int)} {t : Nat} {e : Int × Int} (h : (dirs es)[t]? = some e) : (dirs es).take (t + 1) = (dirs es).take t ++ [e] := by
  have ht : t < (dirs es).length := by
    by_cases h' : t < (dirs es).length
    · exact h'
    · rw [List.getElem?_eq_none (by omega)] at h; cases h
  rw [List.take_succ_eq_append_getElem ht]
  rw [List.getElem?_eq_getElem ht] at h
  cases h
  rfl
theorem RtIn.on {w1 wz wy : World} {g1 g2 m : Nat} {es : List (Int × Int)} {away : List Int} {long : Nat} {B : Nat → List Int} {t : Nat} {F : Nat → List Int} (h : RtIn w1 wz g1 g2 m es away long B t F) (hb : Below wz.heap.size wz wy) : RtIn w1 wy g1 g2 m es away long B t F :=
  ⟨h.rf.below hb, h.rb.below hb, h.fd, h.bel.trans (hb.mono (Nat.le_of_lt h.rb.lt)), h.lt⟩
/-- A pair that brings nothing. -/
theorem RtIn.skip {w1 wz : World} {g1 g2 m : Nat} {es : List (Int × Int)} {away : List Int} {long : Nat} {B : Nat → List Int} {t : Nat} {F : Nat → List Int} (h : RtIn w1 wz g1 g2 m es away long B t F) {x y : Nat} (he : (dirs es)[t]? = some ((x : Int), (y : Int))) (hn : ¬ ((B x).length = long ∧ B y = [] ∧ (y : Int) ∉ away)) : RtIn w1 wz g1 g2 m es away long B (t + 1) F :=
  ⟨h.rf, h.rb, fun v hv => by rw [dirs_take he]; exact found_skip (h.fd v hv) (fun hc => hn (by simpa [Cand] using hc)), h.bel, h.lt⟩
/-- A pair that is no better. -/
theorem RtIn.keep {w1 wz : World} {g1 g2 m : Nat} {es : List (Int × Int)} {away : List Int} {long : Nat} {B : Nat → List Int} {t : Nat} {F : Nat → List Int} (h : RtIn w1 wz g1 g2 m es away long B t F) {x y : Nat} (he : (dirs es)[t]? = some ((x : Int), (y : Int))) (hne : F y ≠ []) (hl : lexL (B x ++ [(y : Int)]) (F y) = false) : RtIn w1 wz g1 g2 m es away long B (t + 1) F :=
  ⟨h.rf, h.rb, fun v hv => by
    rw [dirs_take he]
    by_cases e : v = y
    · subst e
      exact found_keep (h.fd v hv) hne (by simpa using hl)
    · exact found_other (h.fd v hv) (by omega), h.bel, h.lt⟩
/-- A pair that is taken: what is found for y is put into its place. -/
theorem RtIn.take {w1 wz : World} {g1 g2 m : Nat} {es : List (Int × Int)} {away : List Int} {long : Nat} {B : Nat → List Int} {t : Nat} {F : Nat → List Int} (h : RtIn w1 wz g1 g2 m es away long B t F) {x y : Nat} (hy : y < m) (he : (dirs es)[t]? = some ((x : Int), (y : Int))) (hc : (B x).length = long ∧ B y = [] ∧ (y : Int) ∉ away) (hl : F y = [] ∨ lexL (B x ++ [(y : Int)]) (F y) = true)
    {ak : Option Addr} {ck : Nat} (hs : Sl ak ck (B x ++ [(y : Int)]).length) (hI : IAt wz ak (B x ++ [(y : Int)])) (hP : ∀ g' off, ak = some ⟨g', off, none⟩ → g2 < g') :
    RtIn w1 (wz.setCell ⟨g2, y, none⟩ (.slice ak (B x ++ [(y : Int)]).length ck)) g1 g2 m es away long B (t + 1) (fun u => if u = y then B x ++ [(y : Int)] else F u) := by
  have hk := kept_set wz ⟨g2, y, none⟩ (.slice ak (B x ++ [(y : Int)]).length ck)
  refine ⟨h.rf.put hy hs hI (fun g' off e _ => hP g' off e), h.rb.kept hk (fun e => by have e' : g1 = g2 := e; have := h.lt; omega) (fun k hp _ e => by have e' : k = g2 := e; omega), fun v hv => ?_, h.bel.setCell (p := ⟨g2, y, none⟩) (Nat.le_of_lt h.lt) _, h.lt⟩
  rw [dirs_take he]
  by_cases e : v = y
  · subst e
    rw [if_pos rfl]
    have := found_take (B := fun z => B z.toNat) (long := long) (away := away) (x := (x : Int)) (h.fd v hv) (by simpa [Cand] using hc) (by simpa using hl)
    simpa using this
  · rw [if_neg e]
    exact found_other (h.fd v hv) (by omega)
/-- While what was found is put beside the best. -/
structure RtMg (w1 wz : World) (g1 g2 m : Nat) (B F : Nat → List Int) (t : Nat) : Prop where
  rf : RW wz g2 m (fun k => g2 < k) F
  rb : RW wz g1 m (fun k => g1 < k ∧ k ≠ g2) (fun v => if v < t ∧ F v ≠ [] then F v else B v)
  bel : Below g1 w1 wz
  lt : g1 < g2
theorem RtIn.merge {w1 wz : World} {g1 g2 m : Nat} {es : List (Int × Int)} {away : List Int} {long : Nat} {B : Nat → List Int} {t : Nat} {F : Nat → List Int} (h : RtIn w1 wz g1 g2 m es away long B t F) : RtMg w1 wz g1 g2 m B F 0 :=
  ⟨h.rf, (h.rb.mono (P' := fun k => g1 < k ∧ k ≠ g2) (fun k _ hp => ⟨hp.1, by omega⟩) (fun e => Nat.lt_irrefl _ e.1)).congr (fun v _ => by rw [if_neg (by omega)]), h.bel, h.lt⟩
theorem RtMg.skip {w1 wz : World} {g1 g2 m : Nat} {B F : Nat → List Int} {t : Nat} (h : RtMg w1 wz g1 g2 m B F t) (hf : F t = []) : RtMg w1 wz g1 g2 m B F (t + 1) :=
  ⟨h.rf, h.rb.congr (fun v _ => by
    by_cases e : v = t
    · subst e
      rw [if_neg (by omega), if_neg (fun h => h.2 hf)]
    · by_cases e2 : v < t ∧ F v ≠ []
      · rw [if_pos e2, if_pos ⟨by omega, e2.2⟩]
      · rw [if_neg e2, if_neg (fun h => e2 ⟨by omega, h.2⟩)]), h.bel, h.lt⟩
theorem RtMg.take {w1 wz : World} {g1 g2 m : Nat} {B F : Nat → List Int} {t : Nat} (h : RtMg w1 wz g1 g2 m B F t) (ht : t < m) (hf : F t ≠ []) : ∃ ak ck, wz.cell? ⟨g2, t, none⟩ = some (.slice ak (F t).length ck) ∧ RtMg w1 (wz.setCell ⟨g1, t, none⟩ (.slice ak (F t).length ck)) g1 g2 m B F (t + 1) := by
  obtain ⟨ak, ck, h1, _, h3, h4, h5⟩ := h.rf.at_ t ht
  have hk := kept_set wz ⟨g1, t, none⟩ (.slice ak (F t).length ck)
  have hlt := h.lt
  refine ⟨ak, ck, h1, h.rf.kept hk (fun e => by have e' : g2 = g1 := e; omega) (fun k hp _ e => by have e' : k = g1 := e; omega), (h.rb.put ht h3 h4 (fun g' off e h0 => by have := h5 g' off e h0; exact ⟨by omega, by omega⟩)).congr (fun v _ => ?_), h.bel.setCell (p := ⟨g1, t, none⟩) (Nat.le_refl _) _, h.lt⟩
  by_cases e : v = t
  · subst e
    rw [if_pos rfl, if_pos ⟨by omega, hf⟩]
  · rw [if_neg e]
    by_cases e2 : v < t ∧ F v ≠ []
    · rw [if_pos e2, if_pos ⟨by omega, e2.2⟩]
    · rw [if_neg e2, if_neg (fun h => e2 ⟨by omega, h.2⟩)]
/-- The next length. -/
theorem RtMg.done {w1 wz : World} {g1 g2 m : Nat} {es : List (Int × Int)} {x : Int} {away : List Int} {long : Nat} {B F : Nat → List Int} (h : RtMg w1 wz g1 g2 m B F m) (hR : RightG m es) (hl : 1 ≤ long) (hB : ∀ v : Nat, v < m → BestAt m es x away long v (B v)) (hF : ∀ v : Nat, v < m → FoundBy (fun z => B z.toNat) long away (dirs es) v (F v)) :
    RtSt w1 wz g1 m es x away (long + 1) (fun v => if F v = [] then B v else F v) := by
  refine ⟨(h.rb.mono (P' := fun k => g1 < k) (fun k _ hp => hp.1) (Nat.lt_irrefl _)).congr (fun v hv => ?_), fun v hv => ?_, h.bel⟩
  · by_cases e : F v = []
    · rw [if_pos e, if_neg (fun h => h.2 e)]
    · rw [if_neg e, if_pos ⟨hv, e⟩]
  · have := best_step (n := m) (a := x) (B := fun z => B z.toNat) (F := fun z => F z.toNat) hR hl (fun z h0 h1 => by
      obtain ⟨k, rfl⟩ : ∃ k : Nat, z = k := ⟨z.toNat, by omega⟩
      exact hB k (by omega)) (fun z h0 h1 => by
      obtain ⟨k, rfl⟩ : ∃ k : Nat, z = k := ⟨z.toNat, by omega⟩
      exact hF k (by omega)) (v : Int) (by omega) (by omega)
    simpa using this
end Go.Proofs.Ytccbheijfnodjaa
