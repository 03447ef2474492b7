/-
  What a text's tokens are, as the document says it: a relation on rows of runes, and a function that finds it. No program is named here.
-/
import Derived.Test.YtfklgicmhbkoiaaDoorCutFacts
namespace Go.Proofs.YtfklgicmhbkoiaaDoor
open Go.RowKit Go.Lib

/-- A token: its kind, its place, its text, its number. -/
structure Tk where
  kind : Nat
  pos : Nat
  text : List UInt8
  num : Nat

theorem pair_of {α β : Type} (x : α × β) : ∃ a b, x = (a, b) := ⟨x.1, x.2, rfl⟩
def goes (r : Nat) (k : Int) : Bool :=
  if r = 35 then !(k == 2) else if kin r = 3 ∨ kin r = 4 then (k == 3 || k == kin r) else false
def passed (r : Nat) : Bool := decide (r = 35 ∨ kin r = 1)
def more (r : Nat) (rs : List Nat) : List Nat := rs.takeWhile (fun x => goes r (kin x))
def digits (l : List UInt8) : Nat := l.foldl (fun v b => v * 10 + (b.toNat - 48)) 0
def noTk : Tk := ⟨0, 0, [], 0⟩
/-- The token that begins with r and has this text, and which error it is. -/
def tokOf (r p : Nat) (tx : List UInt8) : Tk × Nat :=
  if kin r = 2 then (⟨4, p, [], 0⟩, 0)
  else if kin r = 3 then (if 9 < tx.length then (noTk, 4) else (⟨2, p, tx, digits tx⟩, 0))
  else if kin r = 4 then (if 32 < tx.length then (noTk, 5) else (⟨1, p, tx, 0⟩, 0))
  else if kin r = 5 then (⟨3, p, tx, 0⟩, 0)
  else (noTk, 3)

/-- What a step finds: a token, or an error. -/
def lexOne (x : Tk × Nat) (p : Nat) (rest : List Tk × (Nat × Nat)) : List Tk × (Nat × Nat) := match x with
  | (t, 0) => (t :: rest.1, rest.2)
  | (_, c + 1) => ([], (p, c + 1))
def lexF : Nat → Nat → List Nat → List Tk × (Nat × Nat)
  | 0, _, _ => ([], (0, 0))
  | _ + 1, _, [] => ([], (0, 0))
  | n + 1, p, r :: rs =>
    if passed r = true then lexF n (p + (flat (r :: more r rs)).length) (rs.drop (more r rs).length)
    else lexOne (tokOf r p (flat (r :: more r rs))) p (lexF n (p + (flat (r :: more r rs)).length) (rs.drop (more r rs).length))
theorem lexF_nil (n p : Nat) : lexF n p [] = ([], (0, 0)) := by cases n <;> rfl
theorem lexF_cons (n p r : Nat) (rs : List Nat) : lexF (n + 1) p (r :: rs) = if passed r = true then lexF n (p + (flat (r :: more r rs)).length) (rs.drop (more r rs).length)
    else lexOne (tokOf r p (flat (r :: more r rs))) p (lexF n (p + (flat (r :: more r rs)).length) (rs.drop (more r rs).length)) := rfl
theorem lexF_fuel : ∀ (n m p : Nat) (rs : List Nat), rs.length ≤ n → rs.length ≤ m → lexF n p rs = lexF m p rs
  | _, _, _, [], _, _ => by rw [lexF_nil, lexF_nil]
  | 0, _, _, _ :: _, h, _ => by simp at h
  | _ + 1, 0, _, _ :: _, _, h => by simp at h
  | n + 1, m + 1, p, r :: rs, hn, hm => by
    have ih := lexF_fuel n m (p + (flat (r :: more r rs)).length) (rs.drop (more r rs).length) (by simp at hn ⊢; omega) (by simp at hm ⊢; omega)
    rw [lexF_cons, lexF_cons, ih]

/-- LexT p rs ts e: the runes rs, of which the first one stands at p, have the tokens ts, up to the error e = (place, number); (0, 0) is none. -/
def LexT (p : Nat) (rs : List Nat) (ts : List Tk) (e : Nat × Nat) : Prop := lexF rs.length p rs = (ts, e)
theorem lexF_is (n p : Nat) (rs : List Nat) (h : rs.length ≤ n) : LexT p rs (lexF n p rs).1 (lexF n p rs).2 := by
  obtain ⟨a, b, hab⟩ := pair_of (lexF n p rs)
  rw [hab]
  exact (lexF_fuel rs.length n p rs (Nat.le_refl _) h).trans hab
theorem lexT_of {n p : Nat} {rs : List Nat} {ts : List Tk} {e : Nat × Nat} (hn : rs.length ≤ n) (h : lexF n p rs = (ts, e)) : LexT p rs ts e := (lexF_fuel rs.length n p rs (Nat.le_refl _) hn).trans h
theorem LexT.fuel {n p : Nat} {rs : List Nat} {ts : List Tk} {e : Nat × Nat} (h : LexT p rs ts e) (hn : rs.length ≤ n) : lexF n p rs = (ts, e) := (lexF_fuel n rs.length p rs hn (Nat.le_refl _)).trans h
theorem drop_le (rs : List Nat) (k : Nat) : (rs.drop k).length ≤ rs.length := by rw [List.length_drop]; omega
theorem LexT.nil (p : Nat) : LexT p [] [] (0, 0) := lexF_nil 0 p
theorem LexT.skip (p r : Nat) (rs : List Nat) (ts : List Tk) (e : Nat × Nat) (h1 : passed r = true) (h2 : LexT (p + (flat (r :: more r rs)).length) (rs.drop (more r rs).length) ts e) : LexT p (r :: rs) ts e :=
  lexT_of (n := rs.length + 1) (Nat.le_refl _) (by rw [lexF_cons, if_pos h1]; exact h2.fuel (drop_le _ _))
theorem LexT.tok (p r : Nat) (rs : List Nat) (ts : List Tk) (e : Nat × Nat) (t : Tk) (h1 : passed r = false) (h2 : tokOf r p (flat (r :: more r rs)) = (t, 0)) (h3 : LexT (p + (flat (r :: more r rs)).length) (rs.drop (more r rs).length) ts e) : LexT p (r :: rs) (t :: ts) e :=
  lexT_of (n := rs.length + 1) (Nat.le_refl _) (by rw [lexF_cons, if_neg (by rw [h1]; decide), h2, h3.fuel (drop_le _ _)]; rfl)
theorem LexT.bad (p r : Nat) (rs : List Nat) (t : Tk) (c : Nat) (h1 : passed r = false) (h2 : tokOf r p (flat (r :: more r rs)) = (t, c)) (h3 : c ≠ 0) : LexT p (r :: rs) [] (p, c) := by
  cases c with
  | zero => exact absurd rfl h3
  | succ c => exact lexT_of (n := rs.length + 1) (Nat.le_refl _) (by rw [lexF_cons, if_neg (by rw [h1]; decide), h2]; rfl)
theorem LexT.one {p : Nat} {rs : List Nat} {ts ts' : List Tk} {e e' : Nat × Nat} (h : LexT p rs ts e) (h' : LexT p rs ts' e') : ts = ts' ∧ e = e' := Prod.mk.inj ((Eq.symm h).trans h')
theorem LexT.none {p : Nat} {ts : List Tk} {e : Nat × Nat} (h : LexT p [] ts e) : ts = [] ∧ e = (0, 0) := h.one (LexT.nil p)

/-- A row of runes has its tokens by one of four steps. -/
theorem LexT.ind {motive : (p : Nat) → (rs : List Nat) → (ts : List Tk) → (e : Nat × Nat) → LexT p rs ts e → Prop}
    (nil : ∀ p, motive p [] [] (0, 0) (LexT.nil p))
    (skip : ∀ p r rs ts e (h1 : passed r = true) (h2 : LexT (p + (flat (r :: more r rs)).length) (rs.drop (more r rs).length) ts e), motive _ _ ts e h2 → motive p (r :: rs) ts e (LexT.skip p r rs ts e h1 h2))
    (tok : ∀ p r rs ts e t (h1 : passed r = false) (h2 : tokOf r p (flat (r :: more r rs)) = (t, 0)) (h3 : LexT (p + (flat (r :: more r rs)).length) (rs.drop (more r rs).length) ts e), motive _ _ ts e h3 → motive p (r :: rs) (t :: ts) e (LexT.tok p r rs ts e t h1 h2 h3))
    (bad : ∀ p r rs t c (h1 : passed r = false) (h2 : tokOf r p (flat (r :: more r rs)) = (t, c)) (h3 : c ≠ 0), motive p (r :: rs) [] (p, c) (LexT.bad p r rs t c h1 h2 h3))
    {p : Nat} {rs : List Nat} {ts : List Tk} {e : Nat × Nat} (h : LexT p rs ts e) : motive p rs ts e h := by
  have key : ∀ (n p : Nat) (rs : List Nat) (ts : List Tk) (e : Nat × Nat) (h : LexT p rs ts e), rs.length ≤ n → motive p rs ts e h := by
    intro n
    induction n with
    | zero =>
      intro p rs ts e h hn
      have hr : rs = [] := List.eq_nil_of_length_eq_zero (by omega)
      subst hr
      obtain ⟨rfl, rfl⟩ := h.none
      exact nil p
    | succ n ih =>
      intro p rs ts e h hn
      cases rs with
      | nil =>
        obtain ⟨rfl, rfl⟩ := h.none
        exact nil p
      | cons r rs =>
        have hlen : (rs.drop (more r rs).length).length ≤ n := by simp at hn ⊢; omega
        obtain ⟨ts1, e1, hr⟩ : ∃ ts1 e1, LexT (p + (flat (r :: more r rs)).length) (rs.drop (more r rs).length) ts1 e1 := ⟨_, _, lexF_is _ _ _ (Nat.le_refl _)⟩
        have ih1 := ih _ _ _ _ hr hlen
        cases h1 : passed r with
        | true =>
          obtain ⟨rfl, rfl⟩ := h.one (LexT.skip p r rs ts1 e1 h1 hr)
          exact skip p r rs _ _ h1 hr ih1
        | false =>
          obtain ⟨t, c, hx⟩ := pair_of (tokOf r p (flat (r :: more r rs)))
          by_cases hc : c = 0
          · rw [hc] at hx
            obtain ⟨rfl, rfl⟩ := h.one (LexT.tok p r rs ts1 e1 t h1 hx hr)
            exact tok p r rs _ _ t h1 hx hr ih1
          · obtain ⟨rfl, rfl⟩ := h.one (LexT.bad p r rs t c h1 hx hc)
            exact bad p r rs t c h1 hx hc
  exact key rs.length p rs ts e h (Nat.le_refl _)

/-- What is left of the runes once the reading has come to the rune k: told of whatever follows. -/
def Upto (rs : List Nat) (k : Nat) (ts : List Tk) : Prop := ∀ ts' e, LexT (posR rs k) (rs.drop k) ts' e → LexT 0 rs (ts ++ ts') e
theorem upto_zero (rs : List Nat) : Upto rs 0 [] := fun ts' e h => by simpa [posR_zero] using h
def toK (rs : List Nat) (k : Nat) (h : k < rs.length) : Nat := k + 1 + (more rs[k] (rs.drop (k + 1))).length
theorem more_le (r : Nat) (rs : List Nat) : (more r rs).length ≤ rs.length := (List.takeWhile_prefix _).length_le
theorem toK_le {rs : List Nat} {k : Nat} (h : k < rs.length) : k < toK rs k h ∧ toK rs k h ≤ rs.length := by
  have := more_le rs[k] (rs.drop (k + 1))
  rw [List.length_drop] at this
  unfold toK; omega
theorem more_take (r : Nat) (rs : List Nat) : more r rs = rs.take (more r rs).length := by
  unfold more
  exact List.prefix_iff_eq_take.1 (List.takeWhile_prefix _)
theorem posR_toK {rs : List Nat} {k : Nat} (h : k < rs.length) : posR rs (toK rs k h) = posR rs k + (flat (rs[k] :: more rs[k] (rs.drop (k + 1)))).length := by
  unfold posR toK
  have e : rs.take (k + 1 + (more rs[k] (rs.drop (k + 1))).length) = rs.take k ++ (rs[k] :: more rs[k] (rs.drop (k + 1))) := by
    rw [List.take_add, take_snocN rs k h, ← more_take, List.append_assoc]; rfl
  rw [e, flat_append, List.length_append]
theorem drop_toK {rs : List Nat} {k : Nat} (h : k < rs.length) : (rs.drop (k + 1)).drop (more rs[k] (rs.drop (k + 1))).length = rs.drop (toK rs k h) := by
  rw [List.drop_drop]; rfl
theorem drop_at_k {rs : List Nat} {k : Nat} (h : k < rs.length) : rs.drop k = rs[k] :: rs.drop (k + 1) := by rw [List.getElem_cons_drop h]

/-- The text of what begins with the rune k. -/
def txt (rs : List Nat) (k : Nat) (h : k < rs.length) : List UInt8 := flat (rs[k] :: more rs[k] (rs.drop (k + 1)))
theorem upto_skip {rs : List Nat} {k : Nat} {ts : List Tk} (h : k < rs.length) (hp : passed rs[k] = true) (hu : Upto rs k ts) : Upto rs (toK rs k h) ts := fun ts' e h' => by
  refine hu ts' e ?_
  rw [drop_at_k h]
  refine LexT.skip _ _ _ _ _ hp ?_
  rw [← posR_toK h, drop_toK h]
  exact h'
theorem upto_tok {rs : List Nat} {k : Nat} {ts : List Tk} {t : Tk} (h : k < rs.length) (hp : passed rs[k] = false) (ht : tokOf rs[k] (posR rs k) (txt rs k h) = (t, 0)) (hu : Upto rs k ts) : Upto rs (toK rs k h) (ts ++ [t]) := fun ts' e h' => by
  rw [List.append_assoc]
  refine hu _ e ?_
  rw [drop_at_k h]
  refine LexT.tok _ _ _ _ _ t hp ht ?_
  rw [← posR_toK h, drop_toK h]
  exact h'
theorem upto_bad {rs : List Nat} {k : Nat} {ts : List Tk} {t : Tk} {c : Nat} (h : k < rs.length) (hp : passed rs[k] = false) (ht : tokOf rs[k] (posR rs k) (txt rs k h) = (t, c)) (hc : c ≠ 0) (hu : Upto rs k ts) : LexT 0 rs ts (posR rs k, c) := by
  have := hu [] _ (by rw [drop_at_k h]; exact LexT.bad _ _ _ t c hp ht hc)
  rwa [List.append_nil] at this
theorem upto_end {rs : List Nat} {ts : List Tk} (hu : Upto rs rs.length ts) : LexT 0 rs ts (0, 0) := by
  have := hu [] (0, 0) (by rw [List.drop_length]; exact LexT.nil _)
  rwa [List.append_nil] at this

def cellsT (ts : List Tk) : List Value := ts.flatMap fun t => [.int .i64 t.kind, .int .i64 t.pos, .string ⟨t.text.toArray⟩, .int .i64 t.num]
theorem cellsT_snoc (ts : List Tk) (t : Tk) : cellsT (ts ++ [t]) = cellsT ts ++ [.int .i64 t.kind, .int .i64 t.pos, .string ⟨t.text.toArray⟩, .int .i64 t.num] := by simp [cellsT]
theorem cellsT_length (ts : List Tk) : (cellsT ts).length = ts.length * 4 := by
  induction ts with
  | nil => rfl
  | cons t ts ih => simp [cellsT] at ih ⊢; omega
theorem cellsT_at (ts : List Tk) : ∀ (k : Nat) (h : k < ts.length), (cellsT ts)[k * 4]? = some (.int .i64 (ts[k].kind : Nat)) ∧ (cellsT ts)[k * 4 + 1]? = some (.int .i64 (ts[k].pos : Nat)) ∧ (cellsT ts)[k * 4 + 2]? = some (.string ⟨ts[k].text.toArray⟩) ∧ (cellsT ts)[k * 4 + 3]? = some (.int .i64 (ts[k].num : Nat)) := by
  induction ts with
  | nil => intro k h; simp at h
  | cons t ts ih =>
    intro k h
    cases k with
    | zero => simp [cellsT]
    | succ k =>
      have hk : k < ts.length := by simpa using h
      have := ih k hk
      rw [show (k + 1) * 4 = k * 4 + 1 + 1 + 1 + 1 by omega]
      simpa only [cellsT, List.flatMap_cons, List.cons_append, List.nil_append, List.getElem?_cons_succ, List.getElem_cons_succ] using this

/-- A row of tokens in memory. -/
def TksAt (w : World) (a : Option Addr) (ts : List Tk) : Prop :=
  0 < ts.length → ∃ g, a = some ⟨g, 0, none⟩ ∧ g < w.heap.size ∧
    ∀ k (hk : k < ts.length), w.cell? ⟨g, k * 4, none⟩ = some (.int .i64 (ts[k].kind : Nat)) ∧ w.cell? ⟨g, k * 4 + 1, none⟩ = some (.int .i64 (ts[k].pos : Nat)) ∧ w.cell? ⟨g, k * 4 + 2, none⟩ = some (.string ⟨ts[k].text.toArray⟩) ∧ w.cell? ⟨g, k * 4 + 3, none⟩ = some (.int .i64 (ts[k].num : Nat))
theorem TksAt.below {w w' : World} {a : Option Addr} {ts : List Tk} (h : TksAt w a ts) (hb : Below w.heap.size w w') : TksAt w' a ts := by
  intro h0
  obtain ⟨g, ha, hg, hc⟩ := h h0
  exact ⟨g, ha, Nat.lt_of_lt_of_le hg hb.size, fun k hk => ⟨(hb.cell (p := ⟨g, k * 4, none⟩) hg).trans (hc k hk).1, (hb.cell (p := ⟨g, k * 4 + 1, none⟩) hg).trans (hc k hk).2.1, (hb.cell (p := ⟨g, k * 4 + 2, none⟩) hg).trans (hc k hk).2.2.1, (hb.cell (p := ⟨g, k * 4 + 3, none⟩) hg).trans (hc k hk).2.2.2⟩⟩
theorem tksAt_own {w : World} {base : Nat} {e : TypeId} {v : Value} {ts : List Tk} (h : w.ownsRow base e 4 v ts.length (cellsT ts)) : ∃ a cap, v = .slice a ts.length cap ∧ TksAt w a ts := by
  by_cases hn : 0 < ts.length
  · obtain ⟨g, cap, hv, hb, hg, _, hc⟩ := own_row h hn
    refine ⟨_, cap, hv, fun _ => ⟨g, rfl, hg, fun k hk => ?_⟩⟩
    have h1 := cellsT_at ts k hk
    exact ⟨hc _ _ h1.1, hc _ _ h1.2.1, hc _ _ h1.2.2.1, hc _ _ h1.2.2.2⟩
  · rcases h.2 with ⟨hv, h0⟩ | ⟨g, cap, cur, hv, _⟩
    · exact ⟨none, 0, by rw [hv, h0], fun h => absurd h hn⟩
    · exact ⟨_, cap, hv, fun h => absurd h hn⟩

end Go.Proofs.YtfklgicmhbkoiaaDoor
