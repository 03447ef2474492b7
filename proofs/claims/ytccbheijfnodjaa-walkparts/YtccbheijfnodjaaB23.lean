/-
  The program's Turn keeps its contract.
-/
import Derived.Test.YtccbheijfnodjaaB22
import Derived.Deep.RegionLaw
import Derived.BigQuiet
namespace Go.Proofs.Ytccbheijfnodjaa
open Go.RowKit Go.Lib Go.Shelf Go.Sort

theorem foldl_min : ∀ (l : List Int) (a : Int), l.foldl min a ≤ a ∧ (∀ x ∈ l, l.foldl min a ≤ x) ∧ (l.foldl min a = a ∨ l.foldl min a ∈ l)
  | [], a => ⟨Int.le_refl _, by simp, Or.inl rfl⟩
  | y :: l, a => by
    obtain ⟨h1, h2, h3⟩ := foldl_min l (min a y)
    simp only [List.foldl_cons]
    refine ⟨by omega, fun x hx => ?_, ?_⟩
    · rcases List.mem_cons.1 hx with rfl | hx
      · omega
      · exact h2 x hx
    · rcases h3 with h | h
      · by_cases e : a ≤ y
        · exact Or.inl (by rw [h]; omega)
        · exact Or.inr (List.mem_cons.2 (Or.inl (by rw [h]; omega)))
      · exact Or.inr (List.mem_cons_of_mem _ h)
theorem min_at {c : List Int} (h0 : 0 < c.length) : ∃ k, ∃ hk : k < c.length, Lib.minOf c = c[k] ∧ ∀ x ∈ c, c[k] ≤ x := by
  obtain ⟨h1, h2, h3⟩ := foldl_min c (c.headD 0)
  have hm : Lib.minOf c ∈ c := by
    rcases h3 with h | h
    · unfold Lib.minOf
      rw [h]
      cases c with
      | nil => simp at h0
      | cons x l => simp
    · exact h
  obtain ⟨k, hk, e⟩ := List.getElem_of_mem hm
  exact ⟨k, hk, e.symm, fun x hx => by rw [e]; exact h2 x hx⟩
theorem oneL_cut {c : List Int} {k : Nat} (hk : k < c.length) : oneL c k = c.drop k ++ c.take k := by
  refine List.ext_getElem (by rw [oneL_len]; simp; omega) (fun i h1 h2 => ?_)
  rw [oneL_len] at h1
  rw [oneL_at (by rw [oneL_len]; exact h1)]
  by_cases e : k + i < c.length
  · rw [Nat.mod_eq_of_lt e, List.getElem_append_left (by simp; omega), List.getElem_drop]
    simp [List.getD, e]
  · rw [List.getElem_append_right (by simp; omega), List.getElem_take]
    have e2 : (k + i) % c.length = k + i - c.length := by rw [Nat.mod_eq_sub_mod (by omega), Nat.mod_eq_of_lt (by omega)]
    rw [e2]
    have e3 : k + i - c.length < c.length := by omega
    simp only [List.getD, List.getElem?_eq_getElem e3, Option.getD_some, List.length_drop]
    congr 1
    omega
/-- The way on from the least number is the Turn, or the way back is. -/
theorem turn_two {c R : List Int} {k : Nat} (hc : Ring c) (hk : k < c.length) (hmin : ∀ x ∈ c, c[k] ≤ x) (hR : R = oneL c k) : (∀ h : 1 < R.length, R[1] < R[R.length - 1] → TurnIs c R) ∧ (∀ h : 1 < R.length, R[R.length - 1] < R[1] → TurnIs c (R.headD 0 :: R.tail.reverse)) ∧ ∀ h : 1 < R.length, R[1] ≠ R[R.length - 1] := by
  have hro : Round c R := ⟨k, hk, Or.inl hR⟩
  have hrr := hro.ring hc
  have hl := hrr.1
  have hh : R.headD 0 = c[k] := by
    rw [hR, oneL_cut hk, List.drop_eq_getElem_cons hk]
    rfl
  refine ⟨fun h h1 => turn_of hc hro (fun x hx => ?_) (fun _ => h1), fun h h1 => ?_, fun h e => ?_⟩
  · rw [hh]; exact hmin x (hro.mem hx)
  · have hro2 : Round c (twoL R 0) := hro.trans ⟨0, by omega, Or.inr rfl⟩
    rw [two_back (by omega)] at hro2
    refine turn_of hc hro2 (fun x hx => ?_) (fun h2 => ?_)
    · rw [List.headD_cons, hh]; exact hmin x (hro2.mem hx)
    · have hl2 : (R.headD 0 :: R.tail.reverse).length = R.length := by simp; omega
      have e1 : (R.headD 0 :: R.tail.reverse)[1]'h2 = R[R.length - 1] := by
        rw [List.getElem_cons_succ, List.getElem_reverse, List.getElem_tail]
        congr 1
        simp
        omega
      have e2 : (R.headD 0 :: R.tail.reverse)[(R.headD 0 :: R.tail.reverse).length - 1]'(by omega) = R[1] := by
        have : (R.headD 0 :: R.tail.reverse).length - 1 = (R.length - 2) + 1 := by omega
        simp only [this, List.getElem_cons_succ, List.getElem_reverse, List.getElem_tail]
        congr 1
        simp
        omega
      rw [e1, e2]
      exact h1
  · exact List.pairwise_iff_getElem.1 hrr.2 1 (R.length - 1) h (by omega) (by omega) e
theorem idx_at {c : List Int} {k : Nat} (hk : k < c.length) (hn : c.Nodup) : Lib.idxOf (c.take c.length) c[k] = (k : Int) := by
  refine Lib.idxOf_hit c c.length k c[k] hk (Nat.le_refl _) (by simp [List.getD, hk]) (fun j hj => ?_)
  have := List.pairwise_iff_getElem.1 hn j k (by omega) hk hj
  simp only [List.getD, List.getElem?_eq_getElem (show j < c.length by omega), Option.getD_some]
  exact this
theorem getD_cells {w : World} {g off : Nat} {c : List Int} (hc : ∀ k (hk : k < c.length), w.cell? ⟨g, off + k, none⟩ = some (.int .i64 c[k])) : ∀ j, j < c.length → w.cell? ⟨g, off + j, none⟩ = some (.int .i64 (c.getD j 0)) := fun j hj => by
  rw [hc j hj]; simp [List.getD, hj]
theorem cloneI_any (a : Option Addr) (cap : Nat) (c : List Int) (w : World) (hN : c.length ≤ 1000000) (hw : Slw a cap c.length) (hI : IAt w a c) (hr : ¬ Ring c) :
    Calls Try.prog 45 #[.slice a c.length cap] w fun e w' => ∃ v, e = .returned v ∧ TurnTold c w w' v := by
  have key : ∀ w' v, w'.ownsRow w.heap.size 3 1 v c.length (c.map (Value.int .i64)) → Below w.heap.size w w' → TurnTold c w w' v := fun w' v h1 h2 => by
    obtain ⟨a1, c1, e1, hI1⟩ := iat_own h1
    obtain ⟨a2, c2, e2, hs2⟩ := sl_own h1
    rw [e2] at e1
    obtain ⟨rfl, rfl⟩ : a2 = a1 ∧ c2 = c1 := by simpa using e1
    exact ⟨a2, c2, c, e2, Or.inl ⟨hr, rfl⟩, hs2, hI1, h2⟩
  by_cases h0 : 0 < c.length
  · obtain ⟨g, off, rfl, hg, hc⟩ := hI h0
    have h := Any.slices_Clone_int Try.clone g off c.length cap c w (Nat.le_refl _) (by omega) (getD_cells hc)
    change Calls Try.prog 45 _ _ _ at h
    refine h.mono ?_
    rintro e w' ⟨v, rfl, h1, _, h3⟩
    rw [List.take_length] at h1
    exact ⟨v, rfl, key w' v h1 h3⟩
  · have hn : c = [] := List.length_eq_zero_iff.1 (by omega)
    subst hn
    cases a with
    | none =>
      have h := Any.slices_Clone_int_nil Try.clone 0 cap w
      change Calls Try.prog 45 _ _ _ at h
      refine h.mono ?_
      rintro e w' ⟨rfl, rfl⟩
      exact ⟨_, rfl, none, 0, [], rfl, Or.inl ⟨hr, rfl⟩, sl_nil, iat_nil _ _, Below.refl _ _⟩
    | some p =>
      have h := Any.slices_Clone_int_zero Try.clone p cap w
      change Calls Try.prog 45 _ _ _ at h
      refine h.mono ?_
      rintro e w' ⟨v, rfl, h1, _, h3⟩
      exact ⟨v, rfl, key w' v h1 h3⟩
/-- append that grows, as one step of a region that draws. -/
theorem step_append_grows {P : Program} {ops : Array Oper} {o : Oper} {a : Act} {w : World} {K : Act → World → Prop} {Q : Exit → Act → World → Prop} {E : Prop}
    (hgd : o.guard = none) (s x : Operand) (t : TypeId) (ho : o.op = .call { callee := .builtin .append, args := #[s, x], argTypes := #[t, t] })
    (e : TypeId) (i : TypeInfo) (z : Value) (size bytes : Nat) (ht : P.underlying t = some (.slice e)) (hi : P.info? e = some i) (hz : i.zero = some z) (hsize : i.size = size) (hby : i.bytes = bytes) (hzs : z.cells.size = size) (hsz : 0 < size)
    (b : Addr) (n cap : Nat) (olds : List Value) (hs : a.eval s = .slice (some b) n cap) (hlo : olds.length = n * size) (holds : ∀ j u, olds[j]? = some u → w.cell? (b.add j) = some u)
    (ad : Addr) (m c : Nat) (news : List Value) (hx : a.eval x = .slice (some ad) m c) (hl : news.length = m * size) (hnews : ∀ j u, news[j]? = some u → w.cell? (ad.add j) = some u)
    (hg : cap < n + m) (h63 : n + m ≤ maxLen) (hbytes : (n + m) * bytes ≤ 140737488355328)
    (h : ∀ v' w', w'.ownsRow w.heap.size e size v' (n + m) (olds ++ news) → w.grownBy w' none → K (a.put o.dst v') w') :
    if Region.wanted o (yielded ops a.tmps) = true then Oper.wp P o a w K Q else E := by
  have hw : Region.wanted o (yielded ops a.tmps) = true := by simp [Region.wanted, hgd]
  rw [if_pos hw]
  obtain ⟨v', w', hr, h2, h3⟩ := run_append_arg_grows (P := P) w t o.type e i z size bytes ht hi hz hsize hby hzs hsz b n cap olds hlo holds ad m c news hl hnews hg h63 hbytes
  unfold Oper.wp execOp
  simp only [ho, resolve, invoke, builtin, Sem.run_bind, Sem.run_pure, Result.andThen_ok, List.map_toArray, List.map_cons, List.map_nil, hs, hx, hr]
  exact h v' w' h2 h3
end Go.Proofs.Ytccbheijfnodjaa
