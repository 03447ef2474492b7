/-
  The program's Apart keeps its contract.
  Where a graph falls apart (layer 7): edges that no vertex parts. No program is named here.
  Blocks (layer 7): they are whole, also without one of their vertices; a ring lies in one; one edge more. No program is named here.
  The blocks and cuts of a graph as they are told (layer 7). No program is named here.
-/
import Derived.Test.YtckcbaegehfkoaaC07
import Derived.Test.YtckcbaegehfkoaaC13
import Derived.Maps.Own
import Derived.Maps.OwnOps
import Derived.Maps.Views
import Derived.Test.YtckcbaegehfkoaaC12
namespace Go.Proofs.Ytckcbaegehfkoaa
open Go.RowKit Go.Lib Go.Maps

theorem zeroI (w : World) : (zeroValue 3).run Try.prog w = .ok (.int .i64 0) w := by kernel_rfl
/-- A map that tells of each number how often it stands in L. -/
def CntM (D : DataW Unit) (L : List Int) : Prop := IsMap D ∧ ∀ x : Int, D.atKey (.int .i64 x) (.lit (.int .i64 0)) = .lit (.int .i64 (L.count x))
theorem cntM_nil : CntM (.map []) [] := ⟨isMap_empty, fun _ => rfl⟩
theorem CntM.put {D : DataW Unit} {L : List Int} (h : CntM D L) (x : Int) {c : Int} (hc : c = (L.count x : Nat) + 1) : CntM (D.put (.int .i64 x) (.lit (.int .i64 c))) (L ++ [x]) := by
  refine ⟨h.1.put _ _, fun y => ?_⟩
  by_cases e : y = x
  · subst e
    rw [atKey_put_same (k := .int .i64 y) h.1 (show WideAt.IsKeyLit (.int .i64 y) from trivial), hc]
    congr 2
    simp
  · rw [atKey_put_other (by simp; exact e), h.2 y]
    congr 3
    simp [List.count_append, List.count_cons]
    omega
/-- What stands ahead of place j of row k. -/
def doneL (LL : List (List Int)) (k j : Nat) : List Int := (LL.take k).flatten ++ (LL.getD k []).take j
theorem doneL_zero (LL : List (List Int)) : doneL LL 0 0 = [] := by simp [doneL]
theorem doneL_next {LL : List (List Int)} {k j : Nat} (hk : k < LL.length) (hj : j < LL[k].length) : doneL LL k (j + 1) = doneL LL k j ++ [LL[k][j]] := by
  unfold doneL
  have e : LL.getD k [] = LL[k] := by simp [List.getD, hk]
  rw [e, List.append_assoc, List.take_append_getElem hj]
theorem doneL_row {LL : List (List Int)} {k j : Nat} (hk : k < LL.length) (hj : LL[k].length ≤ j) : doneL LL k j = doneL LL (k + 1) 0 := by
  unfold doneL
  have e : LL.getD k [] = LL[k] := by simp [List.getD, hk]
  rw [e, List.take_of_length_le hj, List.take_zero, List.append_nil]
  rw [← List.take_append_getElem hk, List.flatten_append]
  simp
theorem doneL_all (LL : List (List Int)) : doneL LL LL.length 0 = LL.flatten := by simp [doneL]
theorem doneL_le (LL : List (List Int)) (k j : Nat) (hk : k < LL.length) : (doneL LL k j).length ≤ LL.flatten.length := by
  have h1 : LL.flatten = (LL.take k).flatten ++ (LL.drop k).flatten := by rw [← List.flatten_append, List.take_append_drop]
  rw [h1]
  unfold doneL
  rw [List.length_append, List.length_append, List.drop_eq_getElem_cons hk, List.flatten_cons, List.length_append]
  have e : LL.getD k [] = LL[k] := by simp [List.getD, hk]
  rw [e, List.length_take]
  omega
/-- The inner places of the first k rows, and those of row k ahead of place i, stand alone. -/
def AloneTo (LL : List (List Int)) (k i : Nat) : Prop := ∀ q (hq : q < LL.length), (q < k ∨ q = k) → ∀ p (hp : p + 1 < LL[q].length), 1 ≤ p → (q < k ∨ p < i) → LL.flatten.count (LL[q][p]'(by omega)) = 1
theorem alone_apart {LL : List (List Int)} : AloneTo LL LL.length 0 ↔ ApartL LL := by
  constructor
  · intro h L hL p hp h1
    obtain ⟨q, hq, rfl⟩ := List.getElem_of_mem hL
    exact h q hq (Or.inl hq) p hp h1 (Or.inl hq)
  · intro h q hq _ p hp h1 _
    exact h LL[q] (List.getElem_mem hq) p hp h1

set_option maxHeartbeats 4000000 in
set_option maxRecDepth 100000 in
theorem apart_any (a : Option Addr) (cap : Nat) (LL : List (List Int)) (r : Bool) (w : World) (hN : LL.length ≤ 1000000) (hF : LL.flatten.length ≤ 1000000000) (hL : LLAt w a LL) (hwf : WfR LL) (hr : r = true ↔ ApartL LL) :
    Calls Try.prog 34 #[.slice a LL.length cap] w fun e w' => e = .returned (.bool r) ∧ Below w.heap.size w w' := by
  have hmm := @run_makeMap Try.prog
  obtain ⟨N, hNe⟩ := ex_eq LL.length
  have HN := hid hNe
  have HF : Hid (LL.flatten.length ≤ 1000000000) := hF
  have HLL : Hid (∀ X, Below w.heap.size w X → LLAt X a LL) := fun X hX => hL.below hX
  have HWF := hid hwf
  have HR := hid hr
  have hrl : ∀ q (hq : q < LL.length), LL[q].length ≤ 1000000000 := fun q hq => by
    have := doneL_le LL q LL[q].length hq
    unfold doneL at this
    have e : LL.getD q [] = LL[q] := by simp [List.getD, hq]
    rw [e, List.take_length, List.length_append] at this
    omega
  have HRL := hid hrl
  rw [← hNe] at hN ⊢
  clear hNe hF hL hwf hr hrl
  go_enter Try.func34, Try.ntmps34
  go_wp2
  clear hmm
  go_loopg [14] N (fun Gh i wz => ∃ (k n : Nat) (D : DataW Unit), k ≤ N ∧ N - k ≤ Gh ∧ i = .int .i64 k ∧ Hid (wz.ownsMap Try.prog 3 (plainElem Try.prog 3) w.heap.size n D ∧ n ≤ (doneL LL k 0).length ∧ CntM D (doneL LL k 0)) ∧ Hid (Below w.heap.size w wz))
  case atStart => exact ⟨0, 0, .map [], Nat.zero_le _, by omega, rfl, ⟨World.ownsMap_made _ _ _ _, Nat.zero_le _, by rw [doneL_zero]; exact cntM_nil⟩, (Below.refl _ _).alloc (Nat.le_refl _) _⟩
  case round =>
    obtain ⟨k, n, D, hk, hGh, rfl, hM, hb⟩ := hrel
    by_cases hlt : k < N
    · have hkr : k < LL.length := by rw [← HN.out]; exact hlt
      obtain ⟨g, off, ak, ck, rfl, c0, hI0⟩ := (HLL.out wr hb.out).at hkr
      have HIA : Hid (∀ X, Below w.heap.size w X → X.cell? ⟨g, off + k, none⟩ = some (.slice ak LL[k].length ck) → IAt X ak LL[k]) := fun X hX hc => by
        obtain ⟨g', off', ak', ck', e, c0', hI'⟩ := (HLL.out X hX).at hkr
        cases e
        rw [hc] at c0'
        cases c0'
        exact hI'
      have HCK : Hid (∀ X, Below w.heap.size w X → X.cell? ⟨g, off + k, none⟩ = some (.slice ak LL[k].length ck)) := fun X hX => by
        obtain ⟨g', off', hg', hgl, hh⟩ := (HLL.out w (Below.refl _ _)) (by omega)
        cases hg'
        obtain ⟨ak', ck', h1, _⟩ := hh k hkr
        have h2 := (hb.out.cell (p := ⟨g, off + k, none⟩) hgl).trans h1
        rw [c0] at h2
        cases h2
        exact (hX.cell (p := ⟨g, off + k, none⟩) hgl).trans h1
      obtain ⟨J, hJ⟩ := ex_eq LL[k].length
      have hJl : J ≤ 1000000000 := by rw [hJ]; exact HRL.out k hkr
      rw [← hJ] at c0
      have HJ : Hid (∃ h : k < LL.length, J = LL[k].length) := ⟨hkr, hJ⟩
      have q1 : (k : Int) < (N : Int) := by omega
      have HM0 : Hid (∃ n D, wr.ownsMap Try.prog 3 (plainElem Try.prog 3) w.heap.size n D ∧ n ≤ (doneL LL k 0).length ∧ CntM D (doneL LL k 0)) := ⟨n, D, hM.out⟩
      have HIB : Hid (∀ X, Below w.heap.size w X → ∀ h : k < LL.length, IAt X ak LL[k]) := fun X hX _ => HIA.out X hX (HCK.out X hX)
      clear hJ hM HIA HCK hI0 hkr
      go_wp2
      go_loopg [20] J (fun Gj i wz => ∃ (j : Nat), j ≤ J ∧ J - j ≤ Gj ∧ i = .int .i64 j ∧ Hid (∃ n D, wz.ownsMap Try.prog 3 (plainElem Try.prog 3) w.heap.size n D ∧ n ≤ (doneL LL k j).length ∧ CntM D (doneL LL k j)) ∧ Hid (Below w.heap.size w wz))
      case atStart => exact ⟨0, Nat.zero_le _, by omega, rfl, HM0, hb⟩
      case round =>
        obtain ⟨j, hj, hGj, rfl, hMj, hbj⟩ := hrel
        by_cases hlj : j < J
        · obtain ⟨hkr, hJe⟩ := HJ.out
          have hjr : j < LL[k].length := by rw [← hJe]; exact hlj
          obtain ⟨ga, oa, rfl, hga, hca⟩ := HIB.out wr hbj.out hkr (by omega)
          have d0 := hca j hjr
          obtain ⟨x, hx⟩ := ex_eq (LL[k][j]'hjr)
          rw [← hx] at d0
          obtain ⟨n, D, hown, hn, hcm⟩ := hMj.out
          have hdl := doneL_le LL k j hkr
          have hn9 : n ≤ 1000000000 := by have := HF.out; omega
          have hkey : keyOf Try.prog 3 (.int .i64 x) = some (.int .i64 x) := keyOf_int_mk Try.underlying3 (by rw [hx]; exact HWF.out _ (List.getElem_mem hkr) _ (List.getElem_mem hjr))
          have hat := hcm.2 x
          obtain ⟨cx, hcx⟩ := ex_eq ((doneL LL k j).count x)
          rw [← hcx] at hat
          have hcl : cx ≤ 1000000000 := by rw [hcx]; exact Nat.le_trans List.count_le_length (by have := HF.out; omega)
          have HAT := hid hat
          have HOWN := hid hown
          have HKEY := hid hkey
          have HPUT : Hid (∀ c : Int, c = (cx : Int) + 1 → CntM (D.put (.int .i64 x) (.lit (.int .i64 c))) (doneL LL k (j + 1)) ∧ n + 1 ≤ (doneL LL k (j + 1)).length) := fun c hc => by
            rw [doneL_next hkr hjr, ← hx]
            exact ⟨hcm.put x (by rw [hc, hcx]), by simp; omega⟩
          have HGR : Hid (∀ w4, wr.grownBy w4 (some w.heap.size) → Below w.heap.size w w4) := fun w4 hg => hbj.out.grown hg hbj.out.size (fun q hq => by cases hq; exact Nat.le_refl _)
          have q2 : (j : Int) < (J : Int) := by omega
          clear hca hx hown hn hcm hdl hkey hat hcx hjr hJe hkr hMj
          go_wp2_with (first
            | (at_lookup; refine wpList_lookup_own_int _ rfl _ _ 102 rfl 3 3 .i64 keyI Try.underlying102 Try.underlying3 (zeroI _) w.heap.size n _ rfl HOWN.out _ _ rfl HKEY.out ?_; intro c hatc hwc)
            | (at_mapUpdate; refine wpList_mapUpdate_own _ rfl _ _ _ 102 rfl 3 3 keyI Try.underlying102 _ w.heap.size n _ rfl HOWN.out (by unfold maxLen; omega) _ _ _ rfl rfl HKEY.out _ [] (plainElem_int Try.underlying3 (wrap64_wf _)) ?_; intro w1 hown1 hgrow1))
          have hcc : c = (cx : Int) := by
            have := hatc.symm.trans HAT.out
            simpa using this
          have hwr : wrap64 (c + 1) = (cx : Int) + 1 := by rw [hcc]; unfold wrap64; first | omega | (simp [IntKind.wrap, IntKind.bits, IntKind.signed]; omega) | (split <;> omega)
          obtain ⟨hp1, hp2⟩ := HPUT.out _ hwr
          have HNX : Hid (∃ n D, w1.ownsMap Try.prog 3 (plainElem Try.prog 3) w.heap.size n D ∧ n ≤ (doneL LL k (j + 1)).length ∧ CntM D (doneL LL k (j + 1))) := ⟨n + 1, _, hown1, hp2, hp1⟩
          have HB1 := hid (HGR.out w1 hgrow1)
          clear hown1 hgrow1 hp1 hp2 hatc hwc hwr hcc HPUT HGR HOWN HKEY HAT
          try go_wp2
          go_roundg (J - (j + 1))
          case measure => omega
          case rel => exact ⟨j + 1, by omega, Nat.le_refl _, by go_num, HNX, HB1⟩
        · obtain rfl : j = J := by omega
          have HNX : Hid (∃ n D, wr.ownsMap Try.prog 3 (plainElem Try.prog 3) w.heap.size n D ∧ n ≤ (doneL LL (k + 1) 0).length ∧ CntM D (doneL LL (k + 1) 0)) := by
            obtain ⟨hkr, hJe⟩ := HJ.out
            rw [Hid, ← doneL_row (j := j) hkr (Nat.le_of_eq hJe.symm)]
            exact hMj.out
          obtain ⟨n, D, hNX⟩ := HNX.out
          have HNY := hid hNX
          clear hMj HNX hNX
          go_wp2
          go_roundg (N - (k + 1))
          case measure => omega
          case rel => exact ⟨k + 1, n, D, by omega, Nat.le_refl _, by go_num, HNY, hbj⟩
    · obtain rfl : k = N := by omega
      have HMA : Hid (wr.ownsMap Try.prog 3 (plainElem Try.prog 3) w.heap.size n D ∧ CntM D LL.flatten) := by
        refine ⟨hM.out.1, ?_⟩
        have := hM.out.2.2
        rw [HN.out, doneL_all] at this
        exact this
      clear hM
      rename World => W9
      have HB9 := hb
      have q9 : n ≤ n := Nat.le_refl _
      clear hb q9
      go_wp2
      go_loopg [32] k (fun Gh i wz => ∃ (u : Nat), u ≤ k ∧ k - u ≤ Gh ∧ i = .int .i64 u ∧ Hid (AloneTo LL u 0) ∧ Hid (wz = W9))
      case atStart => exact ⟨0, Nat.zero_le _, by omega, rfl, (fun q _ h p _ _ h2 => by omega), rfl⟩
      case round =>
        obtain ⟨u, hu, hGu, rfl, hal, hw9⟩ := hrel
        have hbu : Below w.heap.size w wr := by rw [hw9.out]; exact HB9.out
        by_cases hlu : u < k
        · have hur : u < LL.length := by rw [← HN.out]; exact hlu
          obtain ⟨g, off, ak, ck, rfl, c0, hI0⟩ := (HLL.out wr hbu).at hur
          obtain ⟨J, hJ⟩ := ex_eq LL[u].length
          have hJl : J ≤ 1000000000 := by rw [hJ]; exact HRL.out u hur
          rw [← hJ] at c0
          have HJ : Hid (∃ h : u < LL.length, J = LL[u].length ∧ IAt W9 ak LL[u]) := ⟨hur, hJ, by rw [← hw9.out]; exact hI0⟩
          have HAL : Hid (AloneTo LL u 1) := fun q hq h p hp h1 h2 => hal.out q hq h p hp h1 (by omega)
          have q1 : (u : Int) < (k : Int) := by omega
          clear hJ hI0 hal hur hbu
          go_wp2
          go_loopg [10] (J + 1) (fun Gj i wz => ∃ (j : Nat), 1 ≤ j ∧ j ≤ J + 1 ∧ J + 1 - j ≤ Gj ∧ i = .int .i64 j ∧ Hid (AloneTo LL u j) ∧ Hid (wz = W9))
          case atStart => exact ⟨1, Nat.le_refl _, by omega, by omega, rfl, HAL, hw9⟩
          case round =>
            obtain ⟨j, hj1, hj, hGj, rfl, haj, hw8⟩ := hrel
            have e1 : IntKind.i64.wrap ((J : Int) - 1) = (J : Int) - 1 := by simp [IntKind.wrap, IntKind.bits, IntKind.signed]; omega
            by_cases hlj : j + 1 < J
            · obtain ⟨hur, hJe, hIA⟩ := HJ.out
              have hjr : j < LL[u].length := by rw [← hJe]; omega
              obtain ⟨ga, oa, rfl, hga, hca⟩ := hIA (by omega)
              have d0 := hca j hjr
              rw [← hw8.out] at d0
              obtain ⟨x, hx⟩ := ex_eq (LL[u][j]'hjr)
              rw [← hx] at d0
              have HOWN : Hid (wr.ownsMap Try.prog 3 (plainElem Try.prog 3) w.heap.size n D) := by rw [Hid, hw8.out]; exact HMA.out.1
              have HKEY : Hid (keyOf Try.prog 3 (.int .i64 x) = some (.int .i64 x)) := keyOf_int_mk Try.underlying3 (by rw [hx]; exact HWF.out _ (List.getElem_mem hur) _ (List.getElem_mem hjr))
              have hat := HMA.out.2.2 x
              obtain ⟨cx, hcx⟩ := ex_eq (LL.flatten.count x)
              rw [← hcx] at hat
              have HAT := hid hat
              have hpos : 0 < cx := by
                rw [hcx]
                refine List.count_pos_iff.2 (List.mem_flatten.2 ⟨LL[u], List.getElem_mem hur, ?_⟩)
                rw [hx]; exact List.getElem_mem hjr
              have q2 : (j : Int) < (J : Int) - 1 := by omega
              have q3 : (j : Int) < (J : Int) := by omega
              have q4 : decide ((j : Int) < (J : Int) - 1) = true := decide_eq_true q2
              by_cases hone : cx = 1
              · have HNX : Hid (AloneTo LL u (j + 1)) := fun q hq h p hp h1 h2 => by
                  by_cases e : q < u ∨ p < j
                  · exact haj.out q hq h p hp h1 e
                  · obtain rfl : q = u := by omega
                    obtain rfl : p = j := by omega
                    rw [← hx, ← hcx]; exact hone
                clear hca hx hat hcx hjr hJe hIA haj hur
                go_wp2_with (first
                  | (at_lookup; refine wpList_lookup_own_int _ rfl _ _ 102 rfl 3 3 .i64 keyI Try.underlying102 Try.underlying3 (zeroI _) w.heap.size n _ rfl HOWN.out _ _ rfl HKEY.out ?_; intro c hatc hwc; obtain rfl : c = 1 := by { have := hatc.symm.trans HAT.out; rw [hone] at this; simpa using this }))
                try go_wp2
                go_roundg (J + 1 - (j + 1))
                case measure => omega
                case rel => exact ⟨j + 1, by omega, by omega, Nat.le_refl _, by go_num, HNX, hw8⟩
              · obtain rfl : r = false := b_false HR.out (fun h => by
                  have := h LL[u] (List.getElem_mem hur) j (by omega) hj1
                  rw [← hx, ← hcx] at this
                  exact hone this)
                have HBW : Hid (Below w.heap.size w wr) := by rw [hw8.out]; exact HB9.out
                clear hca hx hat hcx hjr hJe hIA haj hur HR
                go_wp2_with (first
                  | (at_lookup; refine wpList_lookup_own_int _ rfl _ _ 102 rfl 3 3 .i64 keyI Try.underlying102 Try.underlying3 (zeroI _) w.heap.size n _ rfl HOWN.out _ _ rfl HKEY.out ?_; intro c hatc hwc; obtain rfl : c = (cx : Int) := by { have := hatc.symm.trans HAT.out; simpa using this }; have h1c : decide ((1 : Int) < (cx : Int)) = true := decide_eq_true (by omega); have h2c : (1 : Int) < (cx : Int) := by { omega }))
                try go_wp2
                go_ret
                exact ⟨rfl, HBW.out⟩
            · have HNX : Hid (AloneTo LL (u + 1) 0) := fun q hq h p hp h1 h2 => by
                obtain ⟨hur, hJe, _⟩ := HJ.out
                by_cases e : q < u
                · exact haj.out q hq (Or.inl e) p hp h1 (Or.inl e)
                · obtain rfl : q = u := by omega
                  exact haj.out q hq (Or.inr rfl) p hp h1 (Or.inr (by omega))
              have q2 : ¬ (j : Int) < (J : Int) - 1 := by omega
              have q4 : decide ((j : Int) < (J : Int) - 1) = false := decide_eq_false q2
              clear haj
              go_wp2
              go_roundg (k - (u + 1))
              case measure => omega
              case rel => exact ⟨u + 1, by omega, Nat.le_refl _, by go_num, HNX, hw8⟩
        · obtain rfl : u = k := by omega
          obtain rfl : r = true := HR.out.2 (alone_apart.1 (by have := hal.out; rw [HN.out] at this; exact this))
          clear HR hal
          go_wp2
          go_ret
          exact ⟨rfl, hbu⟩
end Go.Proofs.Ytckcbaegehfkoaa
namespace Go.Proofs.Ytckcbaegehfkoaa

/-- One comes from x to y by edges that do not meet v. -/
def Av (es : List (Int × Int)) (v x y : Int) : Prop := ∀ S : Int → Prop, S x → (∀ u w, S u → Adj es u w → u ≠ v → w ≠ v → S w) → S y
theorem Av.refl (es : List (Int × Int)) (v x : Int) : Av es v x x := fun _ h _ => h
theorem Av.trans {es : List (Int × Int)} {v x y z : Int} (h : Av es v x y) (k : Av es v y z) : Av es v x z := fun S h0 hs => k S (h S h0 hs) hs
theorem Av.step {es : List (Int × Int)} {v x u w : Int} (h : Av es v x u) (ha : Adj es u w) (hu : u ≠ v) (hw : w ≠ v) : Av es v x w := fun S h0 hs => hs u w (h S h0 hs) ha hu hw
theorem Av.one {es : List (Int × Int)} {v u w : Int} (ha : Adj es u w) (hu : u ≠ v) (hw : w ≠ v) : Av es v u w := (Av.refl es v u).step ha hu hw
theorem Av.symm {es : List (Int × Int)} {v x y : Int} (h : Av es v x y) : Av es v y x :=
  h (fun z => Av es v z x) (Av.refl _ _ _) (fun _ _ hu ha h1 h2 => (Av.one ha.symm h2 h1).trans hu)
/-- x is an end of e. -/
def End (e : Int × Int) (x : Int) : Prop := x = e.1 ∨ x = e.2
/-- Two edges belong together: no vertex parts them. -/
def Tog (es : List (Int × Int)) (e f : Int × Int) : Prop := ∀ v x y, End e x → End f y → x ≠ v → y ≠ v → Av es v x y
theorem Tog.symm {es : List (Int × Int)} {e f : Int × Int} (h : Tog es e f) : Tog es f e := fun v x y hx hy h1 h2 => (h v y x hy hx h2 h1).symm
theorem Tog.refl {es : List (Int × Int)} {e : Int × Int} (ha : Adj es e.1 e.2) : Tog es e e := fun v x y hx hy h1 h2 => by
  rcases hx with rfl | rfl <;> rcases hy with rfl | rfl
  · exact Av.refl _ _ _
  · exact Av.one ha h1 h2
  · exact Av.one ha.symm h1 h2
  · exact Av.refl _ _ _
theorem Tog.trans {es : List (Int × Int)} {e f g : Int × Int} (hne : f.1 ≠ f.2) (h : Tog es e f) (k : Tog es f g) : Tog es e g := fun v x y hx hy h1 h2 => by
  by_cases e1 : f.1 = v
  · have e2 : f.2 ≠ v := fun e => hne (e1.trans e.symm)
    exact (h v x f.2 hx (Or.inr rfl) h1 e2).trans (k v f.2 y (Or.inr rfl) hy e2 h2)
  · exact (h v x f.1 hx (Or.inl rfl) h1 e1).trans (k v f.1 y (Or.inl rfl) hy e1 h2)
theorem Tog.turn {es : List (Int × Int)} {a b : Int} {f : Int × Int} (h : Tog es (a, b) f) : Tog es (b, a) f := fun v x y hx hy h1 h2 => h v x y hx.symm hy h1 h2
/-- The vertices of the block of e. -/
def Bl (es : List (Int × Int)) (e : Int × Int) (x : Int) : Prop := ∃ f : Int × Int, Adj es f.1 f.2 ∧ Tog es e f ∧ End f x
theorem Bl.own {es : List (Int × Int)} {e : Int × Int} (ha : Adj es e.1 e.2) {x : Int} (hx : End e x) : Bl es e x := ⟨e, ha, Tog.refl ha, hx⟩
theorem Bl.av {es : List (Int × Int)} {e : Int × Int} {v p z : Int} (hz : Bl es e z) (hp : End e p) (h1 : p ≠ v) (h2 : z ≠ v) : Av es v p z := by
  obtain ⟨f, _, ht, hf⟩ := hz
  exact ht v p z hp hf h1 h2
theorem Bl.av2 {es : List (Int × Int)} {e : Int × Int} (hne : e.1 ≠ e.2) {v y z : Int} (hy : Bl es e y) (hz : Bl es e z) (h1 : y ≠ v) (h2 : z ≠ v) : Av es v y z := by
  by_cases e1 : e.1 = v
  · have e2 : e.2 ≠ v := fun k => hne (e1.trans k.symm)
    exact (hy.av (Or.inr rfl) e2 h1).symm.trans (hz.av (Or.inr rfl) e2 h2)
  · exact (hy.av (Or.inl rfl) e1 h1).symm.trans (hz.av (Or.inl rfl) e1 h2)
/-- Two blocks with two vertices in common are one. -/
theorem two_share {es : List (Int × Int)} {e f : Int × Int} {x y : Int} (hxy : x ≠ y) (h1 : Bl es e x) (h2 : Bl es e y) (h3 : Bl es f x) (h4 : Bl es f y) : Tog es e f := fun v p q hp hq k1 k2 => by
  by_cases e1 : x = v
  · have e2 : y ≠ v := fun k => hxy (e1.trans k.symm)
    exact (h2.av hp k1 e2).trans (h4.av hq k2 e2).symm
  · exact (h1.av hp k1 e1).trans (h3.av hq k2 e1).symm
theorem Bl.tog {es : List (Int × Int)} {e f : Int × Int} (he : e.1 ≠ e.2) (h : Tog es e f) {x : Int} (hx : Bl es e x) : Bl es f x := by
  obtain ⟨g, hg, ht, hend⟩ := hx
  exact ⟨g, hg, Tog.trans he h.symm ht, hend⟩
/-- An edge with both ends in a block is one of it. -/
theorem edge_in {es : List (Int × Int)} {e : Int × Int} {x y : Int} (ha : Adj es x y) (hxy : x ≠ y) (h1 : Bl es e x) (h2 : Bl es e y) : Tog es e (x, y) :=
  two_share hxy h1 h2 (Bl.own (e := (x, y)) ha (Or.inl rfl)) (Bl.own (e := (x, y)) ha (Or.inr rfl))
/-- A way that leaves a block's vertex, and comes to another one without going back, leaves by an edge of the block. -/
theorem leave_in {es : List (Int × Int)} {e : Int × Int} {x y z : Int} (hx : Bl es e x) (hy : Bl es e y) (hxy : y ≠ x) (ha : Adj es x z) (h : Av es x z y) : Tog es e (x, z) := fun v p q hp hq h1 h2 => by
  by_cases e1 : v = x
  · subst e1
    rcases hq with hq | hq
    · exact absurd hq h2
    · have hq' : q = z := hq
      subst hq'
      exact (hy.av hp h1 hxy).trans h.symm
  · have hx1 : x ≠ v := fun k => e1 k.symm
    have h3 := hx.av hp h1 hx1
    rcases hq with hq | hq
    · have hq' : q = x := hq
      subst hq'; exact h3
    · have hq' : q = z := hq
      subst hq'
      exact h3.step ha hx1 h2
/-- A path's later vertices are come to without its first one. -/
theorem path_av {es : List (Int × Int)} {x : Int} : ∀ {p : List Int}, Links es p → (∀ z ∈ p, z ≠ x) → ∀ i j (hi : i < p.length) (hj : j < p.length), Av es x p[i] p[j] := fun {p} hl hx => by
  have h0 : ∀ j (hj : j < p.length), Av es x (p[0]'(by omega)) p[j] := fun j => by
    induction j with
    | zero => intro hj; exact Av.refl _ _ _
    | succ j ih => intro hj; exact (ih (by omega)).step (hl j hj) (hx _ (List.getElem_mem _)) (hx _ (List.getElem_mem _))
  intro i j hi hj
  exact (h0 i hi).symm.trans (h0 j hj)
/-- A path between two vertices of a block stays in it. -/
theorem path_in {n : Int} {es : List (Int × Int)} {e : Int × Int} : ∀ {p : List Int}, PathL n es p → (∀ h : 0 < p.length, Bl es e p[0] ∧ Bl es e (p[p.length - 1]'(by omega))) → (∀ z ∈ p, Bl es e z) ∧ ∀ i (h : i + 1 < p.length), Tog es e (p[i]'(by omega), p[i + 1])
  | [], h, _ => absurd rfl h.ne
  | [x], _, hb => ⟨fun z hz => by simp at hz; subst hz; exact (hb (by simp)).1, fun i h => by simp at h⟩
  | x :: z :: p, h, hb => by
    have hlen : (x :: z :: p).length = p.length + 2 := rfl
    obtain ⟨b0, b1⟩ := hb (by simp)
    have hnd := h.nd
    rw [List.nodup_cons] at hnd
    have hx : ∀ u ∈ z :: p, u ≠ x := fun u hu k => hnd.1 (k ▸ hu)
    have hl2 : Links es (z :: p) := fun i hi => h.lk (i + 1) (by simp at hi ⊢; omega)
    have ha : Adj es x z := h.lk 0 (by simp)
    have hp2 : PathL n es (z :: p) := ⟨by simp, hnd.2, fun u hu => h.inn u (List.mem_cons_of_mem _ hu), hl2⟩
    have hlast : (x :: z :: p)[(x :: z :: p).length - 1]'(by simp) = (z :: p)[(z :: p).length - 1]'(by simp) := by
      simp only [List.length_cons, Nat.add_sub_cancel]
      rw [List.getElem_cons_succ]
    rw [hlast] at b1
    have hy : (z :: p)[(z :: p).length - 1]'(by simp) ≠ x := hx _ (List.getElem_mem _)
    have htog := leave_in (z := z) b0 b1 hy ha (path_av hl2 hx 0 _ (by simp) (by simp))
    have hz : Bl es e z := ⟨(x, z), ha, htog, Or.inr rfl⟩
    obtain ⟨r1, r2⟩ := path_in hp2 (fun _ => ⟨hz, b1⟩)
    refine ⟨fun u hu => ?_, fun i hi => ?_⟩
    · rcases List.mem_cons.1 hu with rfl | hu
      · exact b0
      · exact r1 u hu
    · cases i with
      | zero => exact htog
      | succ i => exact r2 i (by simp at hi ⊢; omega)
end Go.Proofs.Ytckcbaegehfkoaa
namespace Go.Proofs.Ytckcbaegehfkoaa

theorem av_pth {n : Int} {es : List (Int × Int)} {v x y : Int} (hR : RightG n es) (hx : 0 ≤ x ∧ x < n) (hxv : x ≠ v) (h : Av es v x y) : Pth n es (fun z => z ≠ v) x y :=
  h (fun z => Pth n es (fun z => z ≠ v) x z) (pth_self hx hxv) (fun _ _ hu ha _ hw => hu.step hR ha hw)
theorem Bl.in {n : Int} {es : List (Int × Int)} {e : Int × Int} {x : Int} (hR : RightG n es) (h : Bl es e x) : 0 ≤ x ∧ x < n := by
  obtain ⟨f, ha, _, hx⟩ := h
  have := ha.in hR
  rcases hx with rfl | rfl
  · exact this.1
  · exact this.2.1
/-- Two vertices of a block: a path between them lies in it. -/
theorem block_path {n : Int} {es : List (Int × Int)} {e : Int × Int} {v x y : Int} (hR : RightG n es) (hne : e.1 ≠ e.2) (hx : Bl es e x) (hy : Bl es e y) (h1 : x ≠ v) (h2 : y ≠ v) :
    ∃ p, PathL n es p ∧ p.head? = some x ∧ p.getLast? = some y ∧ (∀ z ∈ p, z ≠ v) ∧ (∀ z ∈ p, Bl es e z) ∧ ∀ i (h : i + 1 < p.length), Tog es e (p[i]'(by omega), p[i + 1]) := by
  obtain ⟨p, hp, e1, e2, e3⟩ := av_pth hR (hx.in hR) h1 (Bl.av2 hne hx hy h1 h2)
  obtain ⟨h0, f1⟩ := head_at e1
  obtain ⟨_, f2⟩ := last_at e2
  obtain ⟨r1, r2⟩ := path_in hp (fun _ => by rw [f1, f2]; exact ⟨hx, hy⟩)
  exact ⟨p, hp, e1, e2, e3, r1, r2⟩
/-- Edges of a greater graph that belong together in the lesser one do so in it. -/
theorem Tog.more {es fs : List (Int × Int)} (hs : ∀ x y, Adj es x y → Adj fs x y) {e f : Int × Int} (h : Tog es e f) : Tog fs e f := fun v x y hx hy h1 h2 S h0 hst => h v x y hx hy h1 h2 S h0 (fun u w hu ha k1 k2 => hst u w hu (hs u w ha) k1 k2)
end Go.Proofs.Ytckcbaegehfkoaa
namespace Go.Proofs.Ytckcbaegehfkoaa

/-- A row is a block: its vertices rise. -/
def IsBlk (es : List (Int × Int)) (B : List Int) : Prop := B.Pairwise (· < ·) ∧ ∃ a b, Adj es a b ∧ ∀ x, x ∈ B ↔ Bl es (a, b) x
/-- All blocks, in their order. -/
structure BlocksL (es : List (Int × Int)) (Bs : List (List Int)) : Prop where
  is : ∀ B, B ∈ Bs ↔ IsBlk es B
  ord : Bs.Pairwise (fun A B => lexL A B = true)
/-- All cuts, rising. -/
structure CutsL (es : List (Int × Int)) (Cs : List Int) : Prop where
  is : ∀ v, v ∈ Cs ↔ ∃ x y, Adj es v x ∧ Adj es v y ∧ ¬ Av es v x y
  up : Cs.Pairwise (· < ·)
/-- Rows in an order, with the same members, are one. -/
theorem lex_one : ∀ {a b : List (List Int)}, a.Pairwise (fun A B => lexL A B = true) → b.Pairwise (fun A B => lexL A B = true) → (∀ x, x ∈ a ↔ x ∈ b) → a = b
  | [], [], _, _, _ => rfl
  | [], y :: b, _, _, h => by have := (h y).2 (by simp); simp at this
  | x :: a, [], _, _, h => by have := (h x).1 (by simp); simp at this
  | x :: a, y :: b, ha, hb, h => by
    obtain ⟨h1, h2⟩ := List.pairwise_cons.1 ha
    obtain ⟨k1, k2⟩ := List.pairwise_cons.1 hb
    have e : x = y := by
      rcases List.mem_cons.1 ((h x).1 (by simp)) with e | e
      · exact e
      · rcases List.mem_cons.1 ((h y).2 (by simp)) with e' | e'
        · exact e'.symm
        · have r1 := k1 x e
          have r2 := h1 y e'
          rw [lexL_asymm r1] at r2
          cases r2
    subst e
    congr 1
    refine lex_one h2 k2 (fun z => ⟨fun hz => ?_, fun hz => ?_⟩)
    · rcases List.mem_cons.1 ((h z).1 (List.mem_cons_of_mem _ hz)) with e | e
      · subst e
        have := h1 z hz
        rw [lexL_irrefl] at this
        cases this
      · exact e
    · rcases List.mem_cons.1 ((h z).2 (List.mem_cons_of_mem _ hz)) with e | e
      · subst e
        have := k1 z hz
        rw [lexL_irrefl] at this
        cases this
      · exact e
theorem BlocksL.one {es : List (Int × Int)} {A B : List (List Int)} (h : BlocksL es A) (k : BlocksL es B) : A = B := lex_one h.ord k.ord (fun x => (h.is x).trans (k.is x).symm)
theorem up_oneB : ∀ {a b : List Int}, a.Pairwise (· < ·) → b.Pairwise (· < ·) → (∀ x, x ∈ a ↔ x ∈ b) → a = b
  | [], [], _, _, _ => rfl
  | [], y :: b, _, _, h => by have := (h y).2 (by simp); simp at this
  | x :: a, [], _, _, h => by have := (h x).1 (by simp); simp at this
  | x :: a, y :: b, ha, hb, h => by
    obtain ⟨h1, h2⟩ := List.pairwise_cons.1 ha
    obtain ⟨k1, k2⟩ := List.pairwise_cons.1 hb
    have e : x = y := by
      rcases List.mem_cons.1 ((h x).1 (by simp)) with e | e
      · exact e
      · rcases List.mem_cons.1 ((h y).2 (by simp)) with e' | e'
        · exact e'.symm
        · have := k1 x e
          have := h1 y e'
          omega
    subst e
    congr 1
    refine up_oneB h2 k2 (fun z => ⟨fun hz => ?_, fun hz => ?_⟩)
    · rcases List.mem_cons.1 ((h z).1 (List.mem_cons_of_mem _ hz)) with e | e
      · have := h1 z hz; omega
      · exact e
    · rcases List.mem_cons.1 ((h z).2 (List.mem_cons_of_mem _ hz)) with e | e
      · have := k1 z hz; omega
      · exact e
theorem CutsL.one {es : List (Int × Int)} {A B : List Int} (h : CutsL es A) (k : CutsL es B) : A = B := up_oneB h.up k.up (fun x => (h.is x).trans (k.is x).symm)
/-- The block of an edge, as a row. -/
theorem blk_ex {m : Nat} {es : List (Int × Int)} (hR : RightG m es) {a b : Int} (ha : Adj es a b) : ∃ B, IsBlk es B ∧ ∀ x, x ∈ B ↔ Bl es (a, b) x := by
  have hdec : ∀ x, Decidable (Bl es (a, b) x) := fun x => Classical.propDecidable _
  refine ⟨((List.range m).filter (fun i : Nat => @decide (Bl es (a, b) (i : Int)) (hdec i))).map (fun i : Nat => (i : Int)), ?_, ?_⟩
  · refine ⟨?_, a, b, ha, ?_⟩
    · rw [List.pairwise_map]
      exact (List.pairwise_lt_range.filter _).imp (fun h => by omega)
    · intro x
      simp only [List.mem_map, List.mem_filter, List.mem_range, decide_eq_true_eq]
      constructor
      · rintro ⟨i, ⟨_, h2⟩, rfl⟩; exact h2
      · intro h
        have := h.in hR
        exact ⟨x.toNat, ⟨by omega, by rw [Int.toNat_of_nonneg this.1]; exact h⟩, by omega⟩
  · intro x
    simp only [List.mem_map, List.mem_filter, List.mem_range, decide_eq_true_eq]
    constructor
    · rintro ⟨i, ⟨_, h2⟩, rfl⟩; exact h2
    · intro h
      have := h.in hR
      exact ⟨x.toNat, ⟨by omega, by rw [Int.toNat_of_nonneg this.1]; exact h⟩, by omega⟩
/-- Two blocks with two vertices in common are one row. -/
theorem blk_share {n : Int} {es : List (Int × Int)} {A B : List Int} (hR : RightG n es) (hA : IsBlk es A) (hB : IsBlk es B) {x y : Int} (hxy : x ≠ y) (h1 : x ∈ A) (h2 : y ∈ A) (h3 : x ∈ B) (h4 : y ∈ B) : A = B := by
  obtain ⟨ua, a, b, hab, ia⟩ := hA
  obtain ⟨ub, c, d, hcd, ib⟩ := hB
  have ht := two_share hxy ((ia x).1 h1) ((ia y).1 h2) ((ib x).1 h3) ((ib y).1 h4)
  refine up_oneB ua ub (fun z => ?_)
  rw [ia, ib]
  exact ⟨fun h => h.tog (hab.in hR).2.2 ht, fun h => h.tog (hcd.in hR).2.2 ht.symm⟩
/-- An edge's ends stand in just one block. -/
theorem blk_edge {m : Nat} {es : List (Int × Int)} {Bs : List (List Int)} (hR : RightG m es) (hB : BlocksL es Bs) {a b : Int} (ha : Adj es a b) : ∃ B, B ∈ Bs ∧ a ∈ B ∧ b ∈ B ∧ ∀ C, C ∈ Bs → a ∈ C → b ∈ C → C = B := by
  obtain ⟨B, h1, h2⟩ := blk_ex hR ha
  have ea : a ∈ B := (h2 a).2 (Bl.own (e := (a, b)) ha (Or.inl rfl))
  have eb : b ∈ B := (h2 b).2 (Bl.own (e := (a, b)) ha (Or.inr rfl))
  exact ⟨B, (hB.is B).2 h1, ea, eb, fun C hC k1 k2 => blk_share hR ((hB.is C).1 hC) h1 (ha.in hR).2.2 k1 k2 ea eb⟩
end Go.Proofs.Ytckcbaegehfkoaa
