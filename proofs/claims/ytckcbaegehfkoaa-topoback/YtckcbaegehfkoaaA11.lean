/-
  The program's formed (layer 9).
  Who leads to whom in a part of the program's. No program is named here.
  What the laws of layer 4 ask of the program's parts: a row of contracts over any way in which a part may lie in memory.
  The program's parts in memory; who stands for a class (has, head).
  The program's New, Same, Count and Join of layer 4.
  The program's gather of layer 4: a map from who stands for a class to the numbers of it.
  The program's Apart keeps its contract.
-/
import Derived.Test.YtckcbaegehfkoaaA10
import Derived.Test.YtckcbaegehfkoaaA06
import Derived.BigRegion
import Derived.Lib.Walk
import Derived.Maps.GroupsBeside
import Derived.WalkSpells
import Derived.Maps.Own
import Derived.Maps.OwnOps
import Derived.Maps.Views
namespace Go.Proofs.Ytckcbaegehfkoaa
open Go.RowKit Go.Lib

theorem prL_len {kd : Int} (hk : kd = 1 ∨ kd = 2) : (prL kd).length = if kd = 1 then 6 else 3 := by
  rcases hk with rfl | rfl <;> decide
theorem topN_eq {kd : Int} (hk : kd = 1 ∨ kd = 2) : topN kd = if kd = 1 then 4 else 2 := by
  rcases hk with rfl | rfl <;> decide
theorem prL_at {kd : Int} (hk : kd = 1 ∨ kd = 2) {t : Nat} (h : t < (prL kd).length) : (prL kd)[t] = (((fromL kd t).1 : Int), ((fromL kd t).2 : Int)) := by
  rcases hk with rfl | rfl
  · have h6 : (prL 1).length = 6 := by decide
    rw [h6] at h
    rcases (by omega : t = 0 ∨ t = 1 ∨ t = 2 ∨ t = 3 ∨ t = 4 ∨ t = 5) with rfl | rfl | rfl | rfl | rfl | rfl <;> rfl
  · have h6 : (prL 2).length = 3 := by decide
    rw [h6] at h
    rcases (by omega : t = 0 ∨ t = 1 ∨ t = 2) with rfl | rfl | rfl <;> rfl
/-- A subdivision in a variable. -/
structure SC (w : World) (B : Nat) (kd : Int) (ta : Option Addr) (nt tc : Nat) (tops : List Int) (pa : Option Addr) (np pc : Nat) (paths : List (List Int)) : Prop where
  c0 : w.cell? ⟨B, 0, none⟩ = some (.int .i64 kd)
  c1 : w.cell? ⟨B, 1, none⟩ = some (.slice ta nt tc)
  c2 : w.cell? ⟨B, 2, none⟩ = some (.slice pa np pc)
  ts : IAt w ta tops
  at_ : LLAt w pa paths
theorem SC.on {w w' : World} {B : Nat} {kd : Int} {ta : Option Addr} {nt tc : Nat} {tops : List Int} {pa : Option Addr} {np pc : Nat} {paths : List (List Int)} (h : SC w B kd ta nt tc tops pa np pc paths) (hb : Below w.heap.size w w') : SC w' B kd ta nt tc tops pa np pc paths :=
  ⟨(hb.cell (p := ⟨B, 0, none⟩) (block_lt_of_cell h.c0)).trans h.c0, (hb.cell (p := ⟨B, 1, none⟩) (block_lt_of_cell h.c1)).trans h.c1, (hb.cell (p := ⟨B, 2, none⟩) (block_lt_of_cell h.c2)).trans h.c2, h.ts.below hb, h.at_.below hb⟩
theorem sc_new {w : World} {kd : Int} {ta : Option Addr} {nt tc : Nat} {tops : List Int} {pa : Option Addr} {np pc : Nat} {paths : List (List Int)} {T : TypeId} (h : IAt w ta tops) (k : LLAt w pa paths) : SC (w.alloc (.cells #[.int .i64 kd, .slice ta nt tc, .slice pa np pc] T)) w.heap.size kd ta nt tc tops pa np pc paths :=
  ⟨by rw [cell_of_heap (heap_alloc_new w _)]; rfl, by rw [cell_of_heap (heap_alloc_new w _)]; rfl, by rw [cell_of_heap (heap_alloc_new w _)]; rfl, h.below (below_one _ _), k.below (below_one _ _)⟩

set_option maxHeartbeats 2000000 in
set_option maxRecDepth 100000 in
theorem formed_any (kd : Int) (ta : Option Addr) (nt tc : Nat) (pa : Option Addr) (pc : Nat) (paths : List (List Int)) (r : Bool) (w : World) (hN : paths.length ≤ 1000000) (hL : LLAt w pa paths) (hr : r = true ↔ Formed kd nt paths) :
    Calls Try.prog 33 #[.agg #[.int .i64 kd, .slice ta nt tc, .slice pa paths.length pc]] w fun e w' => e = .returned (.bool r) ∧ Below w.heap.size w w' := by
  obtain ⟨M, hM⟩ := ex_eq paths.length
  obtain ⟨V, hV⟩ := ex_eq (w.alloc (.cells #[.int .i64 kd, .slice ta nt tc, .slice pa M pc] 32))
  have hbV : Below w.heap.size w V := by rw [hV]; exact below_one _ _
  have HSC : Hid (∀ X, Below V.heap.size V X → (X.cell? ⟨w.heap.size, 0, none⟩ = some (.int .i64 kd) ∧ X.cell? ⟨w.heap.size, 1, none⟩ = some (.slice ta nt tc) ∧ X.cell? ⟨w.heap.size, 2, none⟩ = some (.slice pa M pc)) ∧ LLAt X pa paths ∧ Below w.heap.size w X) := fun X hX => by
    have h1 : SC V w.heap.size kd ta nt tc [] pa M pc paths := by rw [hV]; exact sc_new (iat_nil _ _) hL
    have h2 := h1.on hX
    exact ⟨⟨h2.c0, h2.c1, h2.c2⟩, h2.at_, hbV.trans (hX.mono hbV.size)⟩
  have CP := hid (tpat_any kd V)
  obtain ⟨r2, hr2⟩ := boolR_of (∀ L ∈ paths, (2 : Int) ≤ L.length)
  have CA : Hid (∀ X, Below V.heap.size V X → Calls Try.prog 37 #[.int .i64 2, .slice pa M pc] X fun e w' => e = .returned (.bool r2) ∧ Below X.heap.size X w') := fun X hX => by
    rw [hM]; exact allHave_any 2 pa pc paths r2 X hN (HSC.out X hX).2.1 hr2
  have HV := hid hV
  have HR := hid hr
  have HR2 := hid hr2
  have HM := hid hM
  obtain ⟨T, hT⟩ := ex_eq (topN kd)
  obtain ⟨P, hP⟩ := ex_eq (prL kd).length
  rw [← hT, ← hP] at CP
  have HTP : Hid ((kd = 1 ∨ kd = 2) ∧ 0 < T ∧ T = (if kd = 1 then 4 else 2) ∧ P = (if kd = 1 then 6 else 3) ∨ T = 0 ∧ ¬ (kd = 1 ∨ kd = 2)) := by
    by_cases hk : kd = 1 ∨ kd = 2
    · refine Or.inl ⟨hk, ?_, by rw [hT, topN_eq hk], by rw [hP, prL_len hk]⟩
      rw [hT, topN_eq hk]; split <;> omega
    · refine Or.inr ⟨?_, hk⟩
      rw [hT]; unfold topN; rw [if_neg (fun e => hk (Or.inl e)), if_neg (fun e => hk (Or.inr e))]
  obtain ⟨⟨x0, x1, x2⟩, _, _⟩ := HSC.out V (Below.refl _ _)
  rw [← hM]
  clear hN hL hr hr2 hM hV hbV hT hP
  go_enter Try.func33, Try.ntmps33
  go_upto_region 1 with fail
  rw [← HV.out]
  go_wp2_with fail
  refine CP.out.mono ?_
  rintro e w1 ⟨a1, c1, rfl, _, hb1⟩
  obtain ⟨⟨y0, y1, y2⟩, _, hbw⟩ := HSC.out w1 hb1
  have HB1 := hid hb1
  have HBW := hid hbw
  have hsz : w.heap.size < w1.heap.size := block_lt_of_cell y0
  clear CP hb1 hbw x0 x1 x2
  rcases HTP.out with ⟨hk, hT0, hT1, hP1⟩ | ⟨hT0, hk⟩
  · have q0 : (0 : Int) < (T : Int) := by omega
    have HK := hid hk
    have HT1 := hid hT1
    have HP1 := hid hP1
    clear hk hT1 hP1
    by_cases hnt : nt = T
    · subst hnt
      by_cases hnp : M = P
      · subst hnp
        have CA1 := hid (CA.out w1 HB1.out)
        have HFIN : Hid (r2 = r) := by
          cases r with
          | true =>
            exact HR2.out.2 (fun L hL => by have := (HR.out.1 rfl).2.2.2 L hL; omega)
          | false =>
            cases r2 with
            | false => rfl
            | true =>
              have : false = true := HR.out.2 ⟨HK.out, HT1.out, by rw [← HM.out]; exact HP1.out, fun L hL => by have := HR2.out.1 rfl L hL; omega⟩
              cases this
        clear CA
        go_wp2_with fail
        refine CA1.out.mono ?_
        rintro e w2 ⟨rfl, hb2⟩
        have HF := hid (HBW.out.trans (hb2.mono HBW.out.size))
        clear CA1 hb2 y0 y1 y2
        go_wp2
        go_ret
        exact ⟨by rw [HFIN.out]; rfl, HF.out⟩
      · have hnp2 : ((M : Int) == (P : Int)) = false := by simp; omega
        have HFIN : Hid (r = false) := by
          cases r with
          | false => rfl
          | true =>
            have h := (HR.out.1 rfl).2.2.1
            exact absurd (HM.out.trans (h.trans HP1.out.symm)) hnp
        have hnp3 : ¬ (M : Int) = (P : Int) := by omega
        clear CA HM
        go_wp2
        go_ret
        exact ⟨by rw [HFIN.out]; rfl, HBW.out⟩
    · have hnt2 : ((nt : Int) == (T : Int)) = false := by simp; omega
      have HFIN : Hid (r = false) := by
        cases r with
        | false => rfl
        | true => exact absurd ((HR.out.1 rfl).2.1.trans HT1.out.symm) hnt
      have hnt3 : ¬ (nt : Int) = (T : Int) := by omega
      clear CA HM
      go_wp2
      go_ret
      exact ⟨by rw [HFIN.out]; rfl, HBW.out⟩
  · subst hT0
    have HFIN : Hid (r = false) := by
      cases r with
      | false => rfl
      | true => exact absurd (HR.out.1 rfl).1 hk
    clear CA HM
    go_wp2
    go_ret
    exact ⟨by rw [HFIN.out]; rfl, HBW.out⟩
end Go.Proofs.Ytckcbaegehfkoaa
namespace Go.Proofs.Ytckcbaegehfkoaa

/-- Each number below n leads to one of its class, and rk falls on the way; of each class just one leads to itself. -/
structure Leads (n : Nat) (f L rk : Nat → Nat) : Prop where
  lt : ∀ a, a < n → L a < n
  cls : ∀ a, a < n → f (L a) = f a
  down : ∀ a, a < n → L a ≠ a → rk (L a) < rk a
  one : ∀ a b, a < n → b < n → L a = a → L b = b → f a = f b → a = b
theorem Leads.top {n : Nat} {f L rk : Nat → Nat} (h : Leads n f L rk) : ∀ k a, rk a ≤ k → a < n → ∃ t, t < n ∧ L t = t ∧ f t = f a
  | 0, a, hk, ha => by
    by_cases e : L a = a
    · exact ⟨a, ha, e, rfl⟩
    · have := h.down a ha e; omega
  | k + 1, a, hk, ha => by
    by_cases e : L a = a
    · exact ⟨a, ha, e, rfl⟩
    · have := h.down a ha e
      obtain ⟨t, h1, h2, h3⟩ := h.top k (L a) (by omega) (h.lt a ha)
      exact ⟨t, h1, h2, h3.trans (h.cls a ha)⟩
/-- rt tells who stands for each one's class. -/
def Tops (n : Nat) (f L rt : Nat → Nat) : Prop := ∀ a, a < n → rt a < n ∧ L (rt a) = rt a ∧ f (rt a) = f a
theorem Leads.tops {n : Nat} {f L rk : Nat → Nat} (h : Leads n f L rk) : ∃ rt, Tops n f L rt := by
  have := Classical.axiomOfChoice (r := fun a t => a < n → t < n ∧ L t = t ∧ f t = f a) (fun a => by
    by_cases ha : a < n
    · obtain ⟨t, ht⟩ := h.top (rk a) a (Nat.le_refl _) ha; exact ⟨t, fun _ => ht⟩
    · exact ⟨0, fun h => absurd h ha⟩)
  exact this
theorem Tops.at {n : Nat} {f L rk rt : Nat → Nat} (h : Tops n f L rt) (hl : Leads n f L rk) {a t : Nat} (ha : a < n) (ht : t < n) (h1 : L t = t) (h2 : f t = f a) : t = rt a :=
  hl.one _ _ ht (h a ha).1 h1 (h a ha).2.1 (h2.trans (h a ha).2.2.symm)
theorem Tops.same {n : Nat} {f L rk rt : Nat → Nat} (h : Tops n f L rt) (hl : Leads n f L rk) {a b : Nat} (ha : a < n) (hb : b < n) : rt a = rt b ↔ f a = f b :=
  ⟨fun e => by rw [← (h a ha).2.2, ← (h b hb).2.2, e], fun e => h.at hl hb (h a ha).1 (h a ha).2.1 ((h a ha).2.2.trans e)⟩
/-- Two classes made one. -/
theorem Leads.join {n : Nat} {f L rk : Nat → Nat} (h : Leads n f L rk) {a b s t : Nat} (hs : s < n) (ht : t < n) (lt : L t = t) (fs : f s = f a) (ft : f t = f b) (hne : f a ≠ f b) :
    Leads n (joinF f a b) (fun j => if j = t then s else L j) (fun j => if f j = f t then rk j + rk s + 1 else rk j) := by
  have hst : s ≠ t := fun e => hne (by rw [← fs, ← ft, e])
  have hfst : f s ≠ f t := by rw [fs, ft]; exact hne
  refine ⟨fun j hj => ?_, fun j hj => ?_, fun j hj => ?_, fun i j hi hj => ?_⟩
  · by_cases e : j = t
    · simp only [e, if_true]; exact hs
    · simp only [e, if_false]; exact h.lt j hj
  · by_cases e : j = t
    · simp only [e, if_true]
      exact (joinF_same _ _ _ _ _).2 (Or.inr (Or.inl ⟨fs, ft⟩))
    · simp only [e, if_false]
      exact (joinF_same _ _ _ _ _).2 (Or.inl (h.cls j hj))
  · by_cases e : j = t
    · subst e
      simp only [if_true, hfst, if_false]
      intro _; omega
    · simp only [e, if_false]
      intro hlj
      have hd := h.down j hj hlj
      have hc := h.cls j hj
      rw [hc]
      by_cases e2 : f j = f t
      · simp only [e2, if_true]; omega
      · simp only [e2, if_false]; exact hd
  · by_cases e : i = t
    · simp only [e, if_true]; intro h1; exact absurd h1 hst
    · by_cases e2 : j = t
      · simp only [e2, if_true]; intro _ h1; exact absurd h1 hst
      · simp only [e, e2, if_false]
        intro h1 h2 h3
        rcases (joinF_same _ _ _ _ _).1 h3 with h4 | ⟨h4, h5⟩ | ⟨h4, h5⟩
        · exact h.one i j hi hj h1 h2 h4
        · exact absurd (h.one j t hj ht h2 lt (h5.trans ft.symm)) e2
        · exact absurd (h.one i t hi ht h1 lt (h4.trans ft.symm)) e
end Go.Proofs.Ytckcbaegehfkoaa
namespace Go.Proofs.Ytckcbaegehfkoaa
open Go.RowKit Go.Lib

/-- A list of rows in memory, all of them in blocks of A. -/
def LLIn (w : World) (A : Nat → Prop) (a : Option Addr) (LL : List (List Int)) : Prop :=
  0 < LL.length → ∃ g off, a = some ⟨g, off, none⟩ ∧ g < w.heap.size ∧ A g ∧ ∀ k (hk : k < LL.length), ∃ ak ck, w.cell? ⟨g, off + k, none⟩ = some (.slice ak LL[k].length ck) ∧ IAt w ak LL[k] ∧ ∀ g off, ak = some ⟨g, off, none⟩ → 0 < LL[k].length → A g
theorem LLIn.at {w : World} {A : Nat → Prop} {a : Option Addr} {LL : List (List Int)} (h : LLIn w A a LL) : LLAt w a LL := fun h0 => by
  obtain ⟨g, off, ha, hg, _, hc⟩ := h h0
  exact ⟨g, off, ha, hg, fun k hk => by obtain ⟨ak, ck, h1, h2, _⟩ := hc k hk; exact ⟨ak, ck, h1, h2⟩⟩
theorem LLIn.kept {w w' : World} {A T : Nat → Prop} {a : Option Addr} {LL : List (List Int)} (h : LLIn w A a LL) (hk : KeptBut T w w') (hs : ∀ k, A k → k < w.heap.size → ¬ T k) : LLIn w' A a LL := fun h0 => by
  obtain ⟨g, off, ha, hg, hA, hc⟩ := h h0
  refine ⟨g, off, ha, Nat.lt_of_lt_of_le hg hk.size, hA, fun k hk' => ?_⟩
  obtain ⟨ak, ck, h1, h2, h3⟩ := hc k hk'
  refine ⟨ak, ck, (hk.cell (p := ⟨g, off + k, none⟩) hg (hs g hA hg)).trans h1, h2.kept hk (fun g' off' e h0' => hs g' (h3 g' off' e h0') ?_), h3⟩
  obtain ⟨g2, off2, e2, hg2, _⟩ := h2 h0'
  rw [e] at e2
  cases e2
  exact hg2
theorem LLIn.below {w w' : World} {A : Nat → Prop} {a : Option Addr} {LL : List (List Int)} (h : LLIn w A a LL) (hb : Below w.heap.size w w') : LLIn w' A a LL := h.kept (KeptBut.of_whole (fun _ => False) hb) (fun _ _ _ e => e)
theorem LLIn.mono {w : World} {A A' : Nat → Prop} {a : Option Addr} {LL : List (List Int)} (h : LLIn w A a LL) (hA : ∀ k, A k → A' k) : LLIn w A' a LL := fun h0 => by
  obtain ⟨g, off, ha, hg, hAg, hc⟩ := h h0
  refine ⟨g, off, ha, hg, hA g hAg, fun k hk => ?_⟩
  obtain ⟨ak, ck, h1, h2, h3⟩ := hc k hk
  exact ⟨ak, ck, h1, h2, fun g off e h0 => hA g (h3 g off e h0)⟩
theorem LLOwn.in {w : World} {base : Nat} {A : Nat → Prop} {v : Value} {us : List Value} {LL : List (List Int)} (h : LLOwn w base A v us LL) : ∃ a cap, v = .slice a LL.length cap ∧ LLIn w A a LL := by
  obtain ⟨a, cap, hv, hsl⟩ := sl_own h.1
  refine ⟨a, cap, hv, fun h0 => ?_⟩
  obtain ⟨g, cap', hv', hb, hg, hc, hcs⟩ := own_row h.1 h0
  rw [hv] at hv'
  simp only [Value.slice.injEq, true_and] at hv'
  refine ⟨g, 0, hv'.1, hg, h.2.2.1 g (by rw [hv, hv'.1]; rfl), fun k hk => ?_⟩
  obtain ⟨ak, ck, h1, h2, h3⟩ := h.2.2.2 k hk
  exact ⟨ak, ck, by rw [Nat.zero_add]; exact hcs k _ h1, h2, fun g off e h0 => (h3 g off e h0).1⟩

/-- What a call on a part leaves: the part with its classes f, in blocks that it had or that are new; all else as it was. -/
def PNext (PA : World → Addr → Nat → (Nat → Nat) → (Nat → Prop) → Prop) (S : Nat → Prop) (w w' : World) (p : Addr) (n : Nat) (f : Nat → Nat) : Prop :=
  ∃ S', PA w' p n f S' ∧ (∀ k, S' k → S k ∨ w.heap.size ≤ k) ∧ KeptBut S w w'
theorem LLIn.cell {w : World} {A : Nat → Prop} {a : Option Addr} {LL : List (List Int)} (h : LLIn w A a LL) {k : Nat} (hk : k < LL.length) : ∃ g off ak ck, a = some ⟨g, off, none⟩ ∧ w.cell? ⟨g, off + k, none⟩ = some (.slice ak LL[k].length ck) ∧ IAt w ak LL[k] := h.at.at hk
/-- What a call on a part leaves, over the world of the law. -/
theorem PNext.step {PA : World → Addr → Nat → (Nat → Nat) → (Nat → Prop) → Prop} {S : Nat → Prop} {u w w' : World} {p : Addr} {n b0 : Nat} {f : Nat → Nat} (h : PNext PA S w w' p n f) (hS : ∀ k, S k → b0 ≤ k) (hb : Below b0 u w) (h0 : b0 ≤ w.heap.size) :
    ∃ S', PA w' p n f S' ∧ (∀ k, S' k → b0 ≤ k) ∧ Below b0 u w' ∧ KeptBut S w w' ∧ (∀ k, S' k → S k ∨ w.heap.size ≤ k) := by
  obtain ⟨S', h1, h2, h3⟩ := h
  exact ⟨S', h1, fun k hk => (h2 k hk).elim (hS k) (fun e => by omega), hb.trans (h3.below h0 (fun k _ e => hS k e)), h3, h2⟩

end Go.Proofs.Ytckcbaegehfkoaa
namespace Go.Proofs.Ytckcbaegehfkoaa
open Go.RowKit Go.Lib

/-- A part of the program's: a variable with a row of leads, and how many classes there are. -/
structure LAt (w : World) (b g n : Nat) (L : Nat → Nat) (c : Nat) : Prop where
  box : w.cell? ⟨b, 0, none⟩ = some (.slice (some ⟨g, 0, none⟩) n n)
  cnt : w.cell? ⟨b, 1, none⟩ = some (.int .i64 c) ∧ w.frozen? ⟨b, 1, none⟩ = false
  row : Row1 w g n (fun i => (L i : Int))
  ne : g ≠ b
theorem LAt.kept {S : Nat → Prop} {w w' : World} {b g n : Nat} {L : Nat → Nat} {c : Nat} (h : LAt w b g n L c) (hk : KeptBut S w w') (hb : ¬ S b) (hg : ¬ S g) : LAt w' b g n L c := by
  have hlt := block_lt_of_cell h.box
  refine ⟨(hk.cell (p := ⟨b, 0, none⟩) hlt hb).trans h.box, ⟨(hk.cell (p := ⟨b, 1, none⟩) hlt hb).trans h.cnt.1, (hk.frozen (p := ⟨b, 1, none⟩) hlt hb).trans h.cnt.2⟩, ?_, h.ne⟩
  exact ⟨Nat.lt_of_lt_of_le h.row.1 hk.size, fun j hj => ⟨(hk.cell (p := ⟨g, j, none⟩) h.row.1 hg).trans (h.row.2 j hj).1, (hk.frozen (p := ⟨g, j, none⟩) h.row.1 hg).trans (h.row.2 j hj).2⟩⟩
theorem LAt.put {w : World} {b g n : Nat} {L : Nat → Nat} {c : Nat} (h : LAt w b g n L c) {i : Nat} (hi : i < n) (x : Nat) : LAt (w.setCell ⟨g, i, none⟩ (.int .i64 x)) b g n (fun j => if j = i then x else L j) c := by
  have ho : ∀ q, (w.setCell ⟨g, i, none⟩ (.int .i64 x)).cell? ⟨b, q, none⟩ = w.cell? ⟨b, q, none⟩ := fun q => World.cell?_setCell_other _ _ _ _ (fun e => h.ne (congrArg Addr.block e))
  exact ⟨(ho 0).trans h.box, ⟨(ho 1).trans h.cnt.1, by rw [World.frozen?_setCell]; exact h.cnt.2⟩, (h.row.put hi (x : Int)).congr (fun j _ => by by_cases e : j = i <;> simp [e]), h.ne⟩
theorem LAt.congr {w : World} {b g n : Nat} {L L' : Nat → Nat} {c : Nat} (h : LAt w b g n L c) (e : ∀ j, j < n → L j = L' j) : LAt w b g n L' c := ⟨h.box, h.cnt, h.row.congr (fun j hj => by rw [e j hj]), h.ne⟩
theorem LAt.at {w : World} {b g n : Nat} {L : Nat → Nat} {c : Nat} (h : LAt w b g n L c) {k : Nat} (hk : k < n) : w.cell? ⟨g, k, none⟩ = some (.int .i64 (L k)) ∧ w.frozen? ⟨g, k, none⟩ = false := h.row.2 k hk
theorem LAt.drew {w : World} {b g n : Nat} {L : Nat → Nat} {c : Nat} (h : LAt w b g n L c) : LAt w.drew b g n L c := ⟨h.box, h.cnt, h.row, h.ne⟩

/-- A part of the program's with its classes f, and who stands for each. -/
def PX (w : World) (b g n : Nat) (f rt : Nat → Nat) (c : Nat) : Prop := ∃ L rk, LAt w b g n L c ∧ Leads n f L rk ∧ Tops n f L rt
theorem PX.kept {S : Nat → Prop} {w w' : World} {b g n : Nat} {f rt : Nat → Nat} {c : Nat} (h : PX w b g n f rt c) (hk : KeptBut S w w') (hb : ¬ S b) (hg : ¬ S g) : PX w' b g n f rt c := by
  obtain ⟨L, rk, h1, h2, h3⟩ := h
  exact ⟨L, rk, h1.kept hk hb hg, h2, h3⟩
/-- What head leaves. -/
def HeadIs (b g n : Nat) (f rt : Nat → Nat) (c : Nat) (w w' : World) : Prop := PX w' b g n f rt c ∧ KeptBut (fun k => k = g) w w' ∧ w'.heap.size = w.heap.size

end Go.Proofs.Ytckcbaegehfkoaa
namespace Go.Proofs.Ytckcbaegehfkoaa
open Go.RowKit Go.Lib

theorem PX.lt {w : World} {b g n : Nat} {f rt : Nat → Nat} {c : Nat} (h : PX w b g n f rt c) : b < w.heap.size ∧ g < w.heap.size ∧ g ≠ b := by
  obtain ⟨L, rk, h1, _⟩ := h
  exact ⟨block_lt_of_cell h1.box, h1.row.1, h1.ne⟩
theorem HeadIs.trans {b g n : Nat} {f rt : Nat → Nat} {c : Nat} {w w1 w2 : World} (h : HeadIs b g n f rt c w w1) (k : HeadIs b g n f rt c w1 w2) : HeadIs b g n f rt c w w2 := ⟨k.1, h.2.1.trans k.2.1, k.2.2.trans h.2.2⟩
theorem PX.box {w : World} {b g n : Nat} {f rt : Nat → Nat} {c : Nat} (h : PX w b g n f rt c) : w.cell? ⟨b, 0, none⟩ = some (.slice (some ⟨g, 0, none⟩) n n) := by
  obtain ⟨L, rk, h1, _⟩ := h
  exact h1.box
theorem PX.same {w : World} {b g n : Nat} {f rt : Nat → Nat} {c : Nat} (h : PX w b g n f rt c) {x y : Nat} (hx : x < n) (hy : y < n) : rt x = rt y ↔ f x = f y := by
  obtain ⟨L, rk, h1, h2, h3⟩ := h
  exact h3.same h2 hx hy
end Go.Proofs.Ytckcbaegehfkoaa
namespace Go.Proofs.Ytckcbaegehfkoaa
open Go.RowKit Go.Lib Go.Maps Go.ChangeShapes

theorem keyI : Keyed Try.prog 3 := int_keyed Try.underlying3
theorem KeptBut.grown {g : Nat} {w w' : World} (h : KeptBut (fun k => k = g) w w') : w.grownBy w' (some g) := ⟨h.os, h.tape, h.output, h.size, fun i hi hne => h.block i hi (fun e => hne (by rw [e]))⟩
theorem KeptBut.one {w w' : World} {row : Option Nat} {B : Nat} (h : w.grownBy w' row) (hr : ∀ j, row = some j → B ≤ j) : KeptBut (fun k => B ≤ k) w w' := ⟨h.os, h.tape, h.output, h.size, fun i hi hne => h.block i hi (fun e => hne (hr i e.symm))⟩

end Go.Proofs.Ytckcbaegehfkoaa
namespace Go.Proofs.Ytckcbaegehfkoaa
open Go.RowKit Go.Lib Go.Maps

theorem zeroI (w : World) : (zeroValue 3).run Try.prog w = .ok (.int .i64 0) w := by kernel_rfl
/-- A map that tells of each number how often it stands in L. -/
def CntM (D : DataW Unit) (L : List Int) : Prop := IsMap D ∧ ∀ x : Int, D.atKey (.int .i64 x) (.lit (.int .i64 0)) = .lit (.int .i64 (L.count x))
theorem cntM_nil : CntM (.map []) [] := ⟨isMap_empty, fun _ => rfl⟩
theorem CntM.put {D : DataW Unit} {L : List Int} (h : CntM D L) (x : Int) {c : Int} (hc : c = (L.count x : Nat) + 1) : CntM (D.put (.int .i64 x) (.lit (.int .i64 c))) (L ++ [x]) := by
  refine ⟨h.1.put _ _, fun y => ?_⟩
  by_cases e : y = x
  · subst e
    rw [atKey_put_same (k := .int .i64 y) h.1 (show WideAt.IsKeyLit (.int .i64 y) from trivial), hc]
    congr 2
    simp
  · rw [atKey_put_other (by simp; exact e), h.2 y]
    congr 3
    simp [List.count_append, List.count_cons]
    omega
/-- What stands ahead of place j of row k. -/
def doneL (LL : List (List Int)) (k j : Nat) : List Int := (LL.take k).flatten ++ (LL.getD k []).take j
theorem doneL_zero (LL : List (List Int)) : doneL LL 0 0 = [] := by simp [doneL]
theorem doneL_next {LL : List (List Int)} {k j : Nat} (hk : k < LL.length) (hj : j < LL[k].length) : doneL LL k (j + 1) = doneL LL k j ++ [LL[k][j]] := by
  unfold doneL
  have e : LL.getD k [] = LL[k] := by simp [List.getD, hk]
  rw [e, List.append_assoc, List.take_append_getElem hj]
theorem doneL_row {LL : List (List Int)} {k j : Nat} (hk : k < LL.length) (hj : LL[k].length ≤ j) : doneL LL k j = doneL LL (k + 1) 0 := by
  unfold doneL
  have e : LL.getD k [] = LL[k] := by simp [List.getD, hk]
  rw [e, List.take_of_length_le hj, List.take_zero, List.append_nil]
  rw [← List.take_append_getElem hk, List.flatten_append]
  simp
theorem doneL_all (LL : List (List Int)) : doneL LL LL.length 0 = LL.flatten := by simp [doneL]
theorem doneL_le (LL : List (List Int)) (k j : Nat) (hk : k < LL.length) : (doneL LL k j).length ≤ LL.flatten.length := by
  have h1 : LL.flatten = (LL.take k).flatten ++ (LL.drop k).flatten := by rw [← List.flatten_append, List.take_append_drop]
  rw [h1]
  unfold doneL
  rw [List.length_append, List.length_append, List.drop_eq_getElem_cons hk, List.flatten_cons, List.length_append]
  have e : LL.getD k [] = LL[k] := by simp [List.getD, hk]
  rw [e, List.length_take]
  omega
/-- The inner places of the first k rows, and those of row k ahead of place i, stand alone. -/
def AloneTo (LL : List (List Int)) (k i : Nat) : Prop := ∀ q (hq : q < LL.length), (q < k ∨ q = k) → ∀ p (hp : p + 1 < LL[q].length), 1 ≤ p → (q < k ∨ p < i) → LL.flatten.count (LL[q][p]'(by omega)) = 1
theorem alone_apart {LL : List (List Int)} : AloneTo LL LL.length 0 ↔ ApartL LL := by
  constructor
  · intro h L hL p hp h1
    obtain ⟨q, hq, rfl⟩ := List.getElem_of_mem hL
    exact h q hq (Or.inl hq) p hp h1 (Or.inl hq)
  · intro h q hq _ p hp h1 _
    exact h LL[q] (List.getElem_mem hq) p hp h1

set_option maxHeartbeats 4000000 in
set_option maxRecDepth 100000 in
theorem apart_any (a : Option Addr) (cap : Nat) (LL : List (List Int)) (r : Bool) (w : World) (hN : LL.length ≤ 1000000) (hF : LL.flatten.length ≤ 1000000000) (hL : LLAt w a LL) (hwf : WfR LL) (hr : r = true ↔ ApartL LL) :
    Calls Try.prog 34 #[.slice a LL.length cap] w fun e w' => e = .returned (.bool r) ∧ Below w.heap.size w w' := by
  have hmm := @run_makeMap Try.prog
  obtain ⟨N, hNe⟩ := ex_eq LL.length
  have HN := hid hNe
  have HF : Hid (LL.flatten.length ≤ 1000000000) := hF
  have HLL : Hid (∀ X, Below w.heap.size w X → LLAt X a LL) := fun X hX => hL.below hX
  have HWF := hid hwf
  have HR := hid hr
  have hrl : ∀ q (hq : q < LL.length), LL[q].length ≤ 1000000000 := fun q hq => by
    have := doneL_le LL q LL[q].length hq
    unfold doneL at this
    have e : LL.getD q [] = LL[q] := by simp [List.getD, hq]
    rw [e, List.take_length, List.length_append] at this
    omega
  have HRL := hid hrl
  rw [← hNe] at hN ⊢
  clear hNe hF hL hwf hr hrl
  go_enter Try.func34, Try.ntmps34
  go_wp2
  clear hmm
  go_loopg [14] N (fun Gh i wz => ∃ (k n : Nat) (D : DataW Unit), k ≤ N ∧ N - k ≤ Gh ∧ i = .int .i64 k ∧ Hid (wz.ownsMap Try.prog 3 (plainElem Try.prog 3) w.heap.size n D ∧ n ≤ (doneL LL k 0).length ∧ CntM D (doneL LL k 0)) ∧ Hid (Below w.heap.size w wz))
  case atStart => exact ⟨0, 0, .map [], Nat.zero_le _, by omega, rfl, ⟨World.ownsMap_made _ _ _ _, Nat.zero_le _, by rw [doneL_zero]; exact cntM_nil⟩, (Below.refl _ _).alloc (Nat.le_refl _) _⟩
  case round =>
    obtain ⟨k, n, D, hk, hGh, rfl, hM, hb⟩ := hrel
    by_cases hlt : k < N
    · have hkr : k < LL.length := by rw [← HN.out]; exact hlt
      obtain ⟨g, off, ak, ck, rfl, c0, hI0⟩ := (HLL.out wr hb.out).at hkr
      have HIA : Hid (∀ X, Below w.heap.size w X → X.cell? ⟨g, off + k, none⟩ = some (.slice ak LL[k].length ck) → IAt X ak LL[k]) := fun X hX hc => by
        obtain ⟨g', off', ak', ck', e, c0', hI'⟩ := (HLL.out X hX).at hkr
        cases e
        rw [hc] at c0'
        cases c0'
        exact hI'
      have HCK : Hid (∀ X, Below w.heap.size w X → X.cell? ⟨g, off + k, none⟩ = some (.slice ak LL[k].length ck)) := fun X hX => by
        obtain ⟨g', off', hg', hgl, hh⟩ := (HLL.out w (Below.refl _ _)) (by omega)
        cases hg'
        obtain ⟨ak', ck', h1, _⟩ := hh k hkr
        have h2 := (hb.out.cell (p := ⟨g, off + k, none⟩) hgl).trans h1
        rw [c0] at h2
        cases h2
        exact (hX.cell (p := ⟨g, off + k, none⟩) hgl).trans h1
      obtain ⟨J, hJ⟩ := ex_eq LL[k].length
      have hJl : J ≤ 1000000000 := by rw [hJ]; exact HRL.out k hkr
      rw [← hJ] at c0
      have HJ : Hid (∃ h : k < LL.length, J = LL[k].length) := ⟨hkr, hJ⟩
      have q1 : (k : Int) < (N : Int) := by omega
      have HM0 : Hid (∃ n D, wr.ownsMap Try.prog 3 (plainElem Try.prog 3) w.heap.size n D ∧ n ≤ (doneL LL k 0).length ∧ CntM D (doneL LL k 0)) := ⟨n, D, hM.out⟩
      have HIB : Hid (∀ X, Below w.heap.size w X → ∀ h : k < LL.length, IAt X ak LL[k]) := fun X hX _ => HIA.out X hX (HCK.out X hX)
      clear hJ hM HIA HCK hI0 hkr
      go_wp2
      go_loopg [20] J (fun Gj i wz => ∃ (j : Nat), j ≤ J ∧ J - j ≤ Gj ∧ i = .int .i64 j ∧ Hid (∃ n D, wz.ownsMap Try.prog 3 (plainElem Try.prog 3) w.heap.size n D ∧ n ≤ (doneL LL k j).length ∧ CntM D (doneL LL k j)) ∧ Hid (Below w.heap.size w wz))
      case atStart => exact ⟨0, Nat.zero_le _, by omega, rfl, HM0, hb⟩
      case round =>
        obtain ⟨j, hj, hGj, rfl, hMj, hbj⟩ := hrel
        by_cases hlj : j < J
        · obtain ⟨hkr, hJe⟩ := HJ.out
          have hjr : j < LL[k].length := by rw [← hJe]; exact hlj
          obtain ⟨ga, oa, rfl, hga, hca⟩ := HIB.out wr hbj.out hkr (by omega)
          have d0 := hca j hjr
          obtain ⟨x, hx⟩ := ex_eq (LL[k][j]'hjr)
          rw [← hx] at d0
          obtain ⟨n, D, hown, hn, hcm⟩ := hMj.out
          have hdl := doneL_le LL k j hkr
          have hn9 : n ≤ 1000000000 := by have := HF.out; omega
          have hkey : keyOf Try.prog 3 (.int .i64 x) = some (.int .i64 x) := keyOf_int_mk Try.underlying3 (by rw [hx]; exact HWF.out _ (List.getElem_mem hkr) _ (List.getElem_mem hjr))
          have hat := hcm.2 x
          obtain ⟨cx, hcx⟩ := ex_eq ((doneL LL k j).count x)
          rw [← hcx] at hat
          have hcl : cx ≤ 1000000000 := by rw [hcx]; exact Nat.le_trans List.count_le_length (by have := HF.out; omega)
          have HAT := hid hat
          have HOWN := hid hown
          have HKEY := hid hkey
          have HPUT : Hid (∀ c : Int, c = (cx : Int) + 1 → CntM (D.put (.int .i64 x) (.lit (.int .i64 c))) (doneL LL k (j + 1)) ∧ n + 1 ≤ (doneL LL k (j + 1)).length) := fun c hc => by
            rw [doneL_next hkr hjr, ← hx]
            exact ⟨hcm.put x (by rw [hc, hcx]), by simp; omega⟩
          have HGR : Hid (∀ w4, wr.grownBy w4 (some w.heap.size) → Below w.heap.size w w4) := fun w4 hg => hbj.out.grown hg hbj.out.size (fun q hq => by cases hq; exact Nat.le_refl _)
          have q2 : (j : Int) < (J : Int) := by omega
          clear hca hx hown hn hcm hdl hkey hat hcx hjr hJe hkr hMj
          go_wp2_with (first
            | (at_lookup; refine wpList_lookup_own_int _ rfl _ _ 102 rfl 3 3 .i64 keyI Try.underlying102 Try.underlying3 (zeroI _) w.heap.size n _ rfl HOWN.out _ _ rfl HKEY.out ?_; intro c hatc hwc)
            | (at_mapUpdate; refine wpList_mapUpdate_own _ rfl _ _ _ 102 rfl 3 3 keyI Try.underlying102 _ w.heap.size n _ rfl HOWN.out (by unfold maxLen; omega) _ _ _ rfl rfl HKEY.out _ [] (plainElem_int Try.underlying3 (wrap64_wf _)) ?_; intro w1 hown1 hgrow1))
          have hcc : c = (cx : Int) := by
            have := hatc.symm.trans HAT.out
            simpa using this
          have hwr : wrap64 (c + 1) = (cx : Int) + 1 := by rw [hcc]; unfold wrap64; first | omega | (simp [IntKind.wrap, IntKind.bits, IntKind.signed]; omega) | (split <;> omega)
          obtain ⟨hp1, hp2⟩ := HPUT.out _ hwr
          have HNX : Hid (∃ n D, w1.ownsMap Try.prog 3 (plainElem Try.prog 3) w.heap.size n D ∧ n ≤ (doneL LL k (j + 1)).length ∧ CntM D (doneL LL k (j + 1))) := ⟨n + 1, _, hown1, hp2, hp1⟩
          have HB1 := hid (HGR.out w1 hgrow1)
          clear hown1 hgrow1 hp1 hp2 hatc hwc hwr hcc HPUT HGR HOWN HKEY HAT
          try go_wp2
          go_roundg (J - (j + 1))
          case measure => omega
          case rel => exact ⟨j + 1, by omega, Nat.le_refl _, by go_num, HNX, HB1⟩
        · obtain rfl : j = J := by omega
          have HNX : Hid (∃ n D, wr.ownsMap Try.prog 3 (plainElem Try.prog 3) w.heap.size n D ∧ n ≤ (doneL LL (k + 1) 0).length ∧ CntM D (doneL LL (k + 1) 0)) := by
            obtain ⟨hkr, hJe⟩ := HJ.out
            rw [Hid, ← doneL_row (j := j) hkr (Nat.le_of_eq hJe.symm)]
            exact hMj.out
          obtain ⟨n, D, hNX⟩ := HNX.out
          have HNY := hid hNX
          clear hMj HNX hNX
          go_wp2
          go_roundg (N - (k + 1))
          case measure => omega
          case rel => exact ⟨k + 1, n, D, by omega, Nat.le_refl _, by go_num, HNY, hbj⟩
    · obtain rfl : k = N := by omega
      have HMA : Hid (wr.ownsMap Try.prog 3 (plainElem Try.prog 3) w.heap.size n D ∧ CntM D LL.flatten) := by
        refine ⟨hM.out.1, ?_⟩
        have := hM.out.2.2
        rw [HN.out, doneL_all] at this
        exact this
      clear hM
      rename World => W9
      have HB9 := hb
      have q9 : n ≤ n := Nat.le_refl _
      clear hb q9
      go_wp2
      go_loopg [32] k (fun Gh i wz => ∃ (u : Nat), u ≤ k ∧ k - u ≤ Gh ∧ i = .int .i64 u ∧ Hid (AloneTo LL u 0) ∧ Hid (wz = W9))
      case atStart => exact ⟨0, Nat.zero_le _, by omega, rfl, (fun q _ h p _ _ h2 => by omega), rfl⟩
      case round =>
        obtain ⟨u, hu, hGu, rfl, hal, hw9⟩ := hrel
        have hbu : Below w.heap.size w wr := by rw [hw9.out]; exact HB9.out
        by_cases hlu : u < k
        · have hur : u < LL.length := by rw [← HN.out]; exact hlu
          obtain ⟨g, off, ak, ck, rfl, c0, hI0⟩ := (HLL.out wr hbu).at hur
          obtain ⟨J, hJ⟩ := ex_eq LL[u].length
          have hJl : J ≤ 1000000000 := by rw [hJ]; exact HRL.out u hur
          rw [← hJ] at c0
          have HJ : Hid (∃ h : u < LL.length, J = LL[u].length ∧ IAt W9 ak LL[u]) := ⟨hur, hJ, by rw [← hw9.out]; exact hI0⟩
          have HAL : Hid (AloneTo LL u 1) := fun q hq h p hp h1 h2 => hal.out q hq h p hp h1 (by omega)
          have q1 : (u : Int) < (k : Int) := by omega
          clear hJ hI0 hal hur hbu
          go_wp2
          go_loopg [10] (J + 1) (fun Gj i wz => ∃ (j : Nat), 1 ≤ j ∧ j ≤ J + 1 ∧ J + 1 - j ≤ Gj ∧ i = .int .i64 j ∧ Hid (AloneTo LL u j) ∧ Hid (wz = W9))
          case atStart => exact ⟨1, Nat.le_refl _, by omega, by omega, rfl, HAL, hw9⟩
          case round =>
            obtain ⟨j, hj1, hj, hGj, rfl, haj, hw8⟩ := hrel
            have e1 : IntKind.i64.wrap ((J : Int) - 1) = (J : Int) - 1 := by simp [IntKind.wrap, IntKind.bits, IntKind.signed]; omega
            by_cases hlj : j + 1 < J
            · obtain ⟨hur, hJe, hIA⟩ := HJ.out
              have hjr : j < LL[u].length := by rw [← hJe]; omega
              obtain ⟨ga, oa, rfl, hga, hca⟩ := hIA (by omega)
              have d0 := hca j hjr
              rw [← hw8.out] at d0
              obtain ⟨x, hx⟩ := ex_eq (LL[u][j]'hjr)
              rw [← hx] at d0
              have HOWN : Hid (wr.ownsMap Try.prog 3 (plainElem Try.prog 3) w.heap.size n D) := by rw [Hid, hw8.out]; exact HMA.out.1
              have HKEY : Hid (keyOf Try.prog 3 (.int .i64 x) = some (.int .i64 x)) := keyOf_int_mk Try.underlying3 (by rw [hx]; exact HWF.out _ (List.getElem_mem hur) _ (List.getElem_mem hjr))
              have hat := HMA.out.2.2 x
              obtain ⟨cx, hcx⟩ := ex_eq (LL.flatten.count x)
              rw [← hcx] at hat
              have HAT := hid hat
              have hpos : 0 < cx := by
                rw [hcx]
                refine List.count_pos_iff.2 (List.mem_flatten.2 ⟨LL[u], List.getElem_mem hur, ?_⟩)
                rw [hx]; exact List.getElem_mem hjr
              have q2 : (j : Int) < (J : Int) - 1 := by omega
              have q3 : (j : Int) < (J : Int) := by omega
              have q4 : decide ((j : Int) < (J : Int) - 1) = true := decide_eq_true q2
              by_cases hone : cx = 1
              · have HNX : Hid (AloneTo LL u (j + 1)) := fun q hq h p hp h1 h2 => by
                  by_cases e : q < u ∨ p < j
                  · exact haj.out q hq h p hp h1 e
                  · obtain rfl : q = u := by omega
                    obtain rfl : p = j := by omega
                    rw [← hx, ← hcx]; exact hone
                clear hca hx hat hcx hjr hJe hIA haj hur
                go_wp2_with (first
                  | (at_lookup; refine wpList_lookup_own_int _ rfl _ _ 102 rfl 3 3 .i64 keyI Try.underlying102 Try.underlying3 (zeroI _) w.heap.size n _ rfl HOWN.out _ _ rfl HKEY.out ?_; intro c hatc hwc; obtain rfl : c = 1 := by { have := hatc.symm.trans HAT.out; rw [hone] at this; simpa using this }))
                try go_wp2
                go_roundg (J + 1 - (j + 1))
                case measure => omega
                case rel => exact ⟨j + 1, by omega, by omega, Nat.le_refl _, by go_num, HNX, hw8⟩
              · obtain rfl : r = false := b_false HR.out (fun h => by
                  have := h LL[u] (List.getElem_mem hur) j (by omega) hj1
                  rw [← hx, ← hcx] at this
                  exact hone this)
                have HBW : Hid (Below w.heap.size w wr) := by rw [hw8.out]; exact HB9.out
                clear hca hx hat hcx hjr hJe hIA haj hur HR
                go_wp2_with (first
                  | (at_lookup; refine wpList_lookup_own_int _ rfl _ _ 102 rfl 3 3 .i64 keyI Try.underlying102 Try.underlying3 (zeroI _) w.heap.size n _ rfl HOWN.out _ _ rfl HKEY.out ?_; intro c hatc hwc; obtain rfl : c = (cx : Int) := by { have := hatc.symm.trans HAT.out; simpa using this }; have h1c : decide ((1 : Int) < (cx : Int)) = true := decide_eq_true (by omega); have h2c : (1 : Int) < (cx : Int) := by { omega }))
                try go_wp2
                go_ret
                exact ⟨rfl, HBW.out⟩
            · have HNX : Hid (AloneTo LL (u + 1) 0) := fun q hq h p hp h1 h2 => by
                obtain ⟨hur, hJe, _⟩ := HJ.out
                by_cases e : q < u
                · exact haj.out q hq (Or.inl e) p hp h1 (Or.inl e)
                · obtain rfl : q = u := by omega
                  exact haj.out q hq (Or.inr rfl) p hp h1 (Or.inr (by omega))
              have q2 : ¬ (j : Int) < (J : Int) - 1 := by omega
              have q4 : decide ((j : Int) < (J : Int) - 1) = false := decide_eq_false q2
              clear haj
              go_wp2
              go_roundg (k - (u + 1))
              case measure => omega
              case rel => exact ⟨u + 1, by omega, Nat.le_refl _, by go_num, HNX, hw8⟩
        · obtain rfl : u = k := by omega
          obtain rfl : r = true := HR.out.2 (alone_apart.1 (by have := hal.out; rw [HN.out] at this; exact this))
          clear HR hal
          go_wp2
          go_ret
          exact ⟨rfl, hbu⟩
end Go.Proofs.Ytckcbaegehfkoaa
