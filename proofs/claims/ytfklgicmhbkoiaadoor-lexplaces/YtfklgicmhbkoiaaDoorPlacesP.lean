/-
  Plain facts on where tokens stand in their text. No program is named here.
-/
import Derived.Test.YtfklgicmhbkoiaaDoorLexCall
namespace Go.Proofs.YtfklgicmhbkoiaaDoor
open Go.RowKit Go.Lib

/-- A token stands where it says, not ahead of a place. -/
structure Stands (l : List UInt8) (from_ : Nat) (t : Tk) : Prop where
  ahead : from_ ≤ t.pos
  inside : t.pos < l.length
  kind1 : 1 ≤ t.kind
  kind4 : t.kind ≤ 4
  line : t.kind = 4 ↔ (l.getD t.pos 0).toNat = 10
  empty : t.kind = 4 ↔ t.text = []
  num : t.kind ≠ 2 → t.num = 0
  len : t.text.length ≤ l.length - t.pos
  text : (l.drop t.pos).take t.text.length = t.text
  sign : t.kind = 3 → t.text.length = 1
  short : t.text.length ≤ 32
def StandAll (l : List UInt8) : Nat → List Tk → Prop
  | _, [] => True
  | p, t :: ts => Stands l p t ∧ StandAll l (t.pos + max 1 t.text.length) ts
theorem StandAll.mono {l : List UInt8} : ∀ {ts : List Tk} {p q : Nat}, StandAll l q ts → p ≤ q → StandAll l p ts
  | [], _, _, _, _ => trivial
  | _ :: _, _, _, h, hpq => ⟨⟨Nat.le_trans hpq h.1.ahead, h.1.inside, h.1.kind1, h.1.kind4, h.1.line, h.1.empty, h.1.num, h.1.len, h.1.text, h.1.sign, h.1.short⟩, h.2⟩
theorem StandAll.mono' {l : List UInt8} {ts : List Tk} {p q : Nat} (h : StandAll l q ts) (hpq : p ≤ q) : StandAll l p ts := StandAll.mono h hpq

theorem kin_sign {r : Nat} (h : kin r = 5) : 33 ≤ r ∧ r ≤ 126 := by
  unfold kin at h
  repeat' split at h
  all_goals omega
theorem kin_two_10 {r : Nat} (h : kin r = 2) : r = 10 := by
  unfold kin at h
  repeat' split at h
  all_goals omega
/-- The first byte of a rune is 10 just if the rune is. -/
theorem enc_line {r : Nat} (ho : okR r) (t : List UInt8) : ((enc r ++ t).getD 0 0).toNat = 10 ↔ kin r = 2 := by
  obtain ⟨b, u, he, hlen, hb, _⟩ := enc_head ho
  have hd : (enc r ++ t).getD 0 0 = b := by rw [he]; rfl
  rw [hd]
  constructor
  · intro h
    have h1 : (enc r).length = 1 := by rw [hlen]; unfold lenOf; rw [h]; rfl
    have hr : r < 128 := by
      rcases Nat.lt_or_ge r 128 with hr | hr
      · exact hr
      · exfalso
        rcases Nat.lt_or_ge r 2048 with h2 | h2
        · rw [enc2 hr h2] at h1; simp at h1
        · rcases Nat.lt_or_ge r 65536 with h3 | h3
          · rw [enc3 h2 h3] at h1; simp at h1
          · rw [enc4 h3] at h1; simp at h1
    rw [enc1 hr] at he
    simp only [List.cons.injEq] at he
    rw [← he.1, u8n _ (by omega)] at h
    rw [h]; exact kin_line
  · intro h
    have := kin_two_10 h
    subst this
    rw [enc1 (by omega)] at he
    simp only [List.cons.injEq] at he
    rw [← he.1]
    rfl

theorem LexT.stand {p : Nat} {rs : List Nat} {ts : List Tk} {e : Nat × Nat} (h : LexT p rs ts e) : ∀ (pre : List UInt8), pre.length = p → (∀ r ∈ rs, okR r) → StandAll (pre ++ flat rs) p ts := by
  induction h using LexT.ind with
  | nil p => intro pre _ _; trivial
  | skip p r rs ts e _ _ ih =>
    intro pre hp hok
    have hsp : flat (r :: rs) = flat (r :: more r rs) ++ flat (rs.drop (more r rs).length) := by
      rw [← flat_append, List.cons_append]
      conv => lhs; rw [← List.take_append_drop (more r rs).length rs]
      rw [← more_take]
    have := ih (pre ++ flat (r :: more r rs)) (by rw [List.length_append, hp]) (fun x hx => hok x (by simp [List.mem_of_mem_drop hx]))
    rw [List.append_assoc, ← hsp] at this
    exact this.mono' (by omega)
  | tok p r rs ts e t h1 h2 _ ih =>
    intro pre hp hok
    have hsp : flat (r :: rs) = flat (r :: more r rs) ++ flat (rs.drop (more r rs).length) := by
      rw [← flat_append, List.cons_append]
      conv => lhs; rw [← List.take_append_drop (more r rs).length rs]
      rw [← more_take]
    have ih' := ih (pre ++ flat (r :: more r rs)) (by rw [List.length_append, hp]) (fun x hx => hok x (by simp [List.mem_of_mem_drop hx]))
    rw [List.append_assoc, ← hsp] at ih'
    obtain ⟨hpos, hk1, hk4, hcase⟩ := tokOf_ok h2
    have hor := hok r (by simp)
    have hep := enc_pos r
    have hlen : (pre ++ flat (r :: rs)).length = p + (flat (r :: rs)).length := by rw [List.length_append, hp]
    have hfl : (flat (r :: rs)).length = (flat (r :: more r rs)).length + (flat (rs.drop (more r rs).length)).length := flat_split r rs
    have hfr : (flat (r :: more r rs)).length = (enc r).length + (flat (more r rs)).length := by rw [flat_cons, List.length_append]
    have hdrop : (pre ++ flat (r :: rs)).drop p = flat (r :: rs) := by rw [← hp, List.drop_left]
    have hget : (pre ++ flat (r :: rs)).getD p 0 = (flat (r :: rs)).getD 0 0 := by
      rw [List.getD_eq_getElem?_getD, List.getD_eq_getElem?_getD, List.getElem?_append_right (by omega), ← hp, Nat.sub_self]
    have hline : ((flat (r :: rs)).getD 0 0).toNat = 10 ↔ kin r = 2 := by rw [flat_cons]; exact enc_line hor _
    have htk : ∀ tx, tx = flat (r :: more r rs) → ((pre ++ flat (r :: rs)).drop p).take tx.length = tx := by
      intro tx htx
      rw [hdrop, hsp, htx, List.take_left]
    have hne : flat (r :: more r rs) ≠ [] := by intro h; rw [h] at hfr; simp at hfr; omega
    have hk2 : ∀ c : Int, c ≠ 2 → kin r = c → ¬ (((pre ++ flat (r :: rs)).getD p 0).toNat = 10) := by
      intro c hc hk h
      rw [hget] at h
      exact hc (hk.symm.trans (hline.1 h))
    rcases hcase with ⟨k, rfl⟩ | ⟨k, h9, rfl⟩ | ⟨k, h32, rfl⟩ | ⟨k, rfl⟩
    · refine ⟨⟨Nat.le_refl _, by rw [hlen]; show p < _; omega, by simp, by simp, ?_, by simp, fun _ => rfl, by simp, rfl, fun h => by simp at h, by simp⟩, ?_⟩
      · rw [hget]
        exact ⟨fun _ => hline.2 k, fun _ => rfl⟩
      · refine ih'.mono' ?_
        show p + max 1 0 ≤ _
        omega
    · refine ⟨⟨Nat.le_refl _, by rw [hlen]; show p < _; omega, by simp, by simp, ?_, ?_, fun h => absurd rfl h, ?_, htk _ rfl, fun h => by simp at h, ?_⟩, ?_⟩
      · exact ⟨fun h => by simp at h, fun h => absurd h (hk2 3 (by decide) k)⟩
      · exact ⟨fun h => by simp at h, fun h => absurd h hne⟩
      · rw [hlen]; show (flat (r :: more r rs)).length ≤ _ - p; omega
      · show (flat (r :: more r rs)).length ≤ 32; omega
      · refine ih'.mono' ?_
        show p + max 1 (flat (r :: more r rs)).length ≤ _
        omega
    · refine ⟨⟨Nat.le_refl _, by rw [hlen]; show p < _; omega, by simp, by simp, ?_, ?_, fun _ => rfl, ?_, htk _ rfl, fun h => by simp at h, h32⟩, ?_⟩
      · exact ⟨fun h => by simp at h, fun h => absurd h (hk2 4 (by decide) k)⟩
      · exact ⟨fun h => by simp at h, fun h => absurd h hne⟩
      · rw [hlen]; show (flat (r :: more r rs)).length ≤ _ - p; omega
      · refine ih'.mono' ?_
        show p + max 1 (flat (r :: more r rs)).length ≤ _
        omega
    · have hm : more r rs = [] := by
        have hr := kin_sign k
        have hr35 : r ≠ 35 := by
          intro h35
          rw [h35] at h1
          cases h1
        have hg : ∀ c, goes r c = false := by
          intro c
          unfold goes
          rw [if_neg hr35, if_neg (by rw [k]; decide)]
        unfold more
        cases rs with
        | nil => rfl
        | cons x t => rw [List.takeWhile_cons, if_neg]; rw [hg]; simp
      have h1l : (flat (r :: more r rs)).length = 1 := by
        rw [hm]
        have := kin_sign k
        rw [flat_cons, enc1 (by omega)]
        rfl
      refine ⟨⟨Nat.le_refl _, by rw [hlen]; show p < _; omega, by simp, by simp, ?_, ?_, fun _ => rfl, ?_, htk _ rfl, fun _ => h1l, ?_⟩, ?_⟩
      · exact ⟨fun h => by simp at h, fun h => absurd h (hk2 5 (by decide) k)⟩
      · exact ⟨fun h => by simp at h, fun h => absurd h hne⟩
      · rw [hlen]; show (flat (r :: more r rs)).length ≤ _ - p; omega
      · show (flat (r :: more r rs)).length ≤ 32; omega
      · refine ih'.mono' ?_
        show p + max 1 (flat (r :: more r rs)).length ≤ _
        omega
  | bad p r rs t c h1 h2 h3 => intro pre _ _; trivial

/-- What follows for the token k, and the place behind the one ahead of it. -/
def behindK (ts : List Tk) : Nat → Nat
  | 0 => 0
  | k + 1 => match ts[k]? with
    | some t => t.pos + max 1 t.text.length
    | none => 0
theorem standAll_at {l : List UInt8} : ∀ {ts : List Tk} {p : Nat}, StandAll l p ts → ∀ (k : Nat) (h : k < ts.length), Stands l (match k with | 0 => p | j + 1 => match ts[j]? with | some t => t.pos + max 1 t.text.length | none => 0) ts[k]
  | [], _, _, k, h => by simp at h
  | t :: ts, p, hs, 0, _ => hs.1
  | t :: ts, p, hs, k + 1, h => by
    have ih := standAll_at hs.2 k (by simpa using h)
    cases k with
    | zero => exact ih
    | succ j => exact ih
theorem stands_at {l : List UInt8} {ts : List Tk} (h : StandAll l 0 ts) (k : Nat) (hk : k < ts.length) : Stands l (behindK ts k) ts[k] := by
  have := standAll_at h k hk
  cases k with
  | zero => exact this
  | succ j => exact this
theorem behindK_succ {ts : List Tk} {k : Nat} (h : k < ts.length) : behindK ts (k + 1) = ts[k].pos + max 1 ts[k].text.length := by
  show (match ts[k]? with | some t => t.pos + max 1 t.text.length | none => 0) = _
  rw [List.getElem?_eq_getElem h]

end Go.Proofs.YtfklgicmhbkoiaaDoor
