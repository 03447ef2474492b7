/-
  Without a vertex: how many parts there are (layer 7). No program is named here.
-/
import Derived.Test.YtplhpinaadgkkaaGreatB12
import Derived.Test.YtplhpinaadgkkaaGreatB09
namespace Go.Proofs.YtplhpinaadgkkaaGreat

def dnN (v x : Nat) : Nat := if x < v then x else x - 1
theorem dn_up (v a : Nat) : dnN v (upN v a) = a := by
  unfold dnN upN
  by_cases h : a < v
  · simp [h]
  · have h2 : ¬ a + 1 < v := by omega
    simp [h, h2]
theorem up_dn {v x : Nat} (h : x ≠ v) : upN v (dnN v x) = x := by
  unfold dnN upN
  by_cases h2 : x < v
  · simp [h2]
  · have h3 : ¬ x - 1 < v := by omega
    simp [h2, h3]
    omega
/-- The parts of what is left behind Delete are the parts without the vertex, less itself. -/
theorem del_parts {m m1 V : Nat} {es E : List (Int × Int)} {fh f0 : Nat → Nat} (hm : m = m1 + 1) (hV : V < m) (hR : RightG m es) (hRE : RightG m1 E) (hE : IndE es (othL m V) E) (hh : Pt m1 fh) (th : Tells m1 fh (prsN E)) (h0 : Pt m f0) (t0 : Tells m f0 (prsN (offL V es))) : (repsF m1 fh).length + 1 = (repsF m f0).length := by
  have hRo : RightG m (offL V es) := ⟨hR.1, hR.2.1, Nat.le_trans (List.length_filter_le _ _) hR.2.2.1, fun f hf => hR.2.2.2.1 f (mem_offL.1 hf).1, hR.2.2.2.2.filter _⟩
  have hl := othL_len hV
  have adj : ∀ i j : Nat, i < m1 → j < m1 → i ≠ j → (Adj E (i : Int) (j : Int) ↔ Adj es (upN V i : Nat) (upN V j : Nat)) := fun i j hi hj hne => by
    have h := hE.adj (i := i) (j := j) (by omega) (by omega) hne
    rw [othL_at hV (by omega), othL_at hV (by omega)] at h
    exact h
  have upb : ∀ a, a < m1 → upN V a < m ∧ upN V a ≠ V := fun a ha => by unfold upN; split <;> omega
  have clOf : ∀ (n : Nat) (xs : List (Int × Int)), RightG n xs → ∀ a b : Nat, Adj xs (a : Int) (b : Int) → Cl (prsN xs) a b := fun n xs hx a b h => by
    rcases h with h | h
    · exact Cl.of (e := (a, b)) ((mem_prsN hx).2 h)
    · exact (Cl.of (e := (b, a)) ((mem_prsN hx).2 h)).symm
  refine reps_renamed (v := V) hV hm hh h0 (fun a ha e => ?_) (fun a b ha hb => ?_)
  · have hcl := (t0 a V ha hV).1 e
    have key := hcl (fun x y => x = V ↔ y = V) (fun _ => Iff.rfl) (fun _ _ h => h.symm) (fun _ _ _ h k => h.trans k) (fun q hq => by
      have hmq := (mem_prsN (a := q.1) (b := q.2) hRo).1 hq
      obtain ⟨_, h2, h3⟩ := mem_offL.1 hmq
      simp only at h2 h3
      constructor
      · intro k; omega
      · intro k; omega)
    exact key.2 rfl
  · obtain ⟨u1, u2⟩ := upb a ha
    obtain ⟨u3, u4⟩ := upb b hb
    rw [th a b ha hb, t0 _ _ u1 u3]
    constructor
    · intro h
      refine h (fun x y => Cl (prsN (offL V es)) (upN V x) (upN V y)) (fun _ => Cl.refl _ _) (fun _ _ k => Cl.symm k) (fun _ _ _ k1 k2 => Cl.trans k1 k2) (fun e he => ?_)
      have hm2 := (mem_prsN (a := e.1) (b := e.2) hRE).1 he
      have hin := hRE.2.2.2.1 _ hm2
      simp only at hin
      have ha2 := (adj e.1 e.2 (by omega) (by omega) (by omega)).1 (Or.inl hm2)
      refine clOf m _ hRo _ _ ?_
      obtain ⟨p1, p2⟩ := upb e.1 (by omega)
      obtain ⟨p3, p4⟩ := upb e.2 (by omega)
      rcases ha2 with k | k
      · exact Or.inl (mem_offL.2 ⟨k, by simp only; omega, by simp only; omega⟩)
      · exact Or.inr (mem_offL.2 ⟨k, by simp only; omega, by simp only; omega⟩)
    · intro h
      have key := h (fun x y => Cl (prsN E) (dnN V x) (dnN V y)) (fun _ => Cl.refl _ _) (fun _ _ k => Cl.symm k) (fun _ _ _ k1 k2 => Cl.trans k1 k2) (fun e he => by
        have hm2 := (mem_prsN (a := e.1) (b := e.2) hRo).1 he
        obtain ⟨k1, k2, k3⟩ := mem_offL.1 hm2
        have hin := hR.2.2.2.1 _ k1
        simp only at hin k2 k3
        have n1 : e.1 ≠ V := by omega
        have n2 : e.2 ≠ V := by omega
        refine clOf m1 _ hRE _ _ ((adj (dnN V e.1) (dnN V e.2) ?_ ?_ ?_).2 ?_)
        · unfold dnN; split <;> omega
        · unfold dnN; split <;> omega
        · intro e3
          have := congrArg (upN V) e3
          rw [up_dn n1, up_dn n2] at this
          omega
        · rw [up_dn n1, up_dn n2]
          exact Or.inl k1)
      simp only [dn_up] at key
      exact key
/-- In so many blocks, so many parts more. -/
theorem cut_count {m m1 V : Nat} {es E : List (Int × Int)} {Bs : List (List Int)} {fh f : Nat → Nat} (hm : m = m1 + 1) (hV : V < m) (hR : RightG m es) (hRE : RightG m1 E) (hE : IndE es (othL m V) E) (hh : Pt m1 fh) (th : Tells m1 fh (prsN E)) (hf : Pt m f) (tf : Tells m f (prsN es)) (hB : BlocksL es Bs) : (repsF m f).length + (atL Bs V).length = (repsF m1 fh).length + 1 := by
  have hRo : RightG m (offL V es) := ⟨hR.1, hR.2.1, Nat.le_trans (List.length_filter_le _ _) hR.2.2.1, fun f hf => hR.2.2.2.1 f (mem_offL.1 hf).1, hR.2.2.2.2.filter _⟩
  obtain ⟨f0, h0, t0⟩ := tells_ex (n := m) (prsN (offL V es)) (prsN_in hRo)
  rw [del_parts hm hV hR hRE hE hh th h0 t0]
  exact block_parts hR hV hB hf tf h0 t0
theorem del_ok {m m1 V : Nat} {es : List (Int × Int)} {er N : Int} {E : List (Int × Int)} (h : DelS m es V er N E) (hR : RightG m es) (hv : V < m) (hm : m = m1 + 1) : er = 0 ∧ N = m1 ∧ IndE es (othL m V) E ∧ RightG m1 E := by
  rcases h with ⟨h1, _⟩ | ⟨_, h2, _⟩ | ⟨_, _, h1, h2, h3⟩
  · exact absurd hR h1
  · exact absurd ⟨by omega, by omega⟩ h2
  · have h3' : IndE es (othL m V) E := by simpa using h3
    have hl := othL_len hv
    have h4 := h3'.right hR (othL_nodup _ _) (by have := hR.2.1; omega)
    rw [hl] at h4
    exact ⟨h1, by omega, h3', by rw [show m - 1 = m1 by omega] at h4; exact h4⟩
theorem at_next {Bs : List (List Int)} {V : Int} {k : Nat} (h : k < Bs.length) : (atL (Bs.take (k + 1)) V).length = (atL (Bs.take k) V).length + (if V ∈ Bs[k] then 1 else 0) := by
  unfold atL
  rw [← List.take_append_getElem h, List.filter_append, List.length_append]
  congr 1
  by_cases e : V ∈ Bs[k]
  · simp [e]
  · simp [e]
end Go.Proofs.YtplhpinaadgkkaaGreat
