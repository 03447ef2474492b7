/-
  The program's allMeet: which two sets an edge leads between, told by a map.
  What Read tells is one answer; the small case that the laws of layer 9 begin with.
  The small case that the laws of layer 9 begin with answers true.
-/
import Derived.Test.YtckcbaegehfkoaaC24
import Derived.Test.YtckcbaegehfkoaaC13
import Derived.Maps.OwnOps
import Derived.Maps.Views
import Derived.DeepKeys4
import Derived.Lib.Walk
import Derived.BigQuiet
import Derived.Test.YtckcbaegehfkoaaC22
import Derived.Test.YtckcbaegehfkoaaC26
import Derived.Test.YtckcbaegehfkoaaC04
import Derived.Test.YtckcbaegehfkoaaC03
import Derived.Test.YtckcbaegehfkoaaC06
import Derived.Test.YtckcbaegehfkoaaC12
import Derived.Test.YtckcbaegehfkoaaC23
namespace Go.Proofs.Ytckcbaegehfkoaa
open Go.RowKit Go.Lib Go.Maps Go.WideMaps

theorem keyW : (match Try.prog.underlying 59 with | some (.array _ _) | some (.struct _) => true | _ => false) = true := by rw [Try.underlying59]
set_option maxRecDepth 100000 in
theorem keyE : Keyed Try.prog 59 := Keyed.of_law (deep_law_laid (by kernel_rfl) (m := 2) (by omega) (of_decide_eq_true (by kernel_rfl)) (by kernel_rfl) keyW)
/-- The key that an edge is. -/
def kE (a b : Int) : Lit := .string (keyBytes [.int .i64 a, .int .i64 b])
set_option maxRecDepth 100000 in
theorem key_edge {a b : Int} (wa : (Lit.int .i64 a).wf = true) (wb : (Lit.int .i64 b).wf = true) : keyOf Try.prog 59 (.agg #[.int .i64 a, .int .i64 b]) = some (kE a b) := by
  have hkt : Try.prog.keyType 59 = true := by kernel_rfl
  have hc : Try.prog.cellsOf 59 = 2 := by kernel_rfl
  have hci : Try.prog.cellsOf 3 = 1 := by kernel_rfl
  have hpos : 0 < Try.prog.types.size := of_decide_eq_true (by kernel_rfl)
  obtain ⟨m, hm⟩ : ∃ m, Try.prog.types.size = m + 1 := ⟨Try.prog.types.size - 1, by omega⟩
  unfold keyOf
  simp only [Try.underlying59]
  rw [if_pos (by simp [hkt, Value.formed, Try.underlying59, hc]), hm]
  unfold Program.keyLits
  simp only [Try.underlying59, Value.cells]
  rw [if_pos (by rw [hc]; exact ⟨rfl, by kernel_rfl⟩)]
  simp [hci, Program.keyLits, Try.underlying3, wa, wb, kE]
theorem key_ne {a b p q : Int} (wa : (Lit.int .i64 a).wf = true) (wb : (Lit.int .i64 b).wf = true) (wp : (Lit.int .i64 p).wf = true) (wq : (Lit.int .i64 q).wf = true) (h : (a, b) ≠ (p, q)) : kE a b ≠ kE p q := fun e => by
  have h1 := key_edge wa wb
  rw [e] at h1
  have := keyE.inj h1 (key_edge wp wq)
  simp at this
  exact h (by rw [this.1, this.2])
/-- A map that tells of each pair of numbers whether it stands in l. -/
def MetM (D : DataW Unit) (l : List (Int × Int)) : Prop := IsMap D ∧ ∀ a b : Int, (Lit.int .i64 a).wf = true → (Lit.int .i64 b).wf = true → D.atKey (kE a b) (.lit (.bool false)) = .lit (.bool (decide ((a, b) ∈ l)))
theorem MetM.put {D : DataW Unit} {l : List (Int × Int)} (h : MetM D l) {p q : Int} (wp : (Lit.int .i64 p).wf = true) (wq : (Lit.int .i64 q).wf = true) : MetM (D.put (kE p q) (.lit (.bool true))) (l ++ [(p, q)]) := by
  refine ⟨h.1.put _ _, fun a b wa wb => ?_⟩
  by_cases e : (a, b) = (p, q)
  · cases e
    rw [atKey_put_same (k := kE p q) h.1 (show WideAt.IsKeyLit (kE p q) from trivial)]
    simp
  · rw [atKey_put_other (key_ne wa wb wp wq e), h.2 a b wa wb]
    congr 2
    simp [e]
end Go.Proofs.Ytckcbaegehfkoaa
namespace Go.Proofs.Ytckcbaegehfkoaa
open Go.RowKit Go.Lib

/-- Rows in order are told by what they are, if no two have one key. -/
theorem ways_one : ∀ {l m : List (List Int)}, l.Perm m → l.Pairwise (fun A B => lt3 (keyL B) (keyL A) = false) → m.Pairwise (fun A B => lt3 (keyL A) (keyL B) = true) → l = m
  | [], m, hp, _, _ => (List.Perm.nil_eq hp)
  | a :: l, [], hp, _, _ => by have := hp.length_eq; simp at this
  | a :: l, b :: m, hp, hl, hm => by
    rw [List.pairwise_cons] at hl hm
    have hab : a = b := by
      have h1 : a ∈ b :: m := hp.mem_iff.1 (by simp)
      have h2 : b ∈ a :: l := hp.mem_iff.2 (by simp)
      rcases List.mem_cons.1 h1 with h1 | h1
      · exact h1
      rcases List.mem_cons.1 h2 with h2 | h2
      · exact h2.symm
      have e1 := hl.1 b h2
      have e2 := hm.1 a h1
      rw [e1] at e2
      cases e2
    subst hab
    rw [ways_one (List.Perm.cons_inv hp) hl.2 hm.2]
/-- Where ways are a subdivision with all edges, nothing else is told. -/
theorem read_yes {m : Nat} {es : List (Int × Int)} {kd : Int} {T : List Int} {P : List (List Int)} {kd' : Int} {T' : List Int} {LL : List (List Int)} {ok : Bool} (hT : forkL m es = T) (hB : (betL m es T).Perm P) (hP : P.Pairwise (fun A B => lt3 (keyL A) (keyL B) = true)) (hS : SubL m es kd T P) (hC : Covers es P)
    (h : (ok = true ∧ ReadYes m es kd' T' LL) ∨ (ok = false ∧ kd' = 0 ∧ T' = [] ∧ LL = [] ∧ ReadNo m es)) : ok = true ∧ kd' = kd ∧ T' = T ∧ LL = P := by
  have one : ∀ LL, Ways m es T LL → LL = P := fun LL h => ways_one (h.1.trans hB) h.2 hP
  have hk : (if T.length = 4 then (1 : Int) else 2) = kd := by
    have h1 := hS.tl
    rcases hS.kind with rfl | rfl
    · rw [if_pos rfl] at h1; rw [if_pos h1]
    · rw [if_neg (by decide)] at h1; rw [if_neg (by omega)]
  rcases h with ⟨h1, h2⟩ | ⟨_, _, _, _, h2⟩
  · have ht : T' = T := h2.tops.trans hT
    subst ht
    have hl := one LL h2.ways
    subst hl
    refine ⟨h1, ?_, rfl, rfl⟩
    have a := h2.sub.tl
    have b := hS.tl
    rcases h2.sub.kind with rfl | rfl <;> rcases hS.kind with rfl | rfl
    · rfl
    · rw [if_pos rfl] at a; rw [if_neg (by decide)] at b; omega
    · rw [if_neg (by decide)] at a; rw [if_pos rfl] at b; omega
    · rfl
  · exfalso
    rcases h2 with h2 | ⟨h2, h3⟩ | ⟨LL', h2, h3⟩
    · exact h2 hS.right
    · have e : (m : Int).toNat = m := Int.toNat_natCast m
      rw [e, hT] at h2 h3
      have := hS.tl
      rcases hS.kind with rfl | rfl
      · rw [if_pos rfl] at this; exact h2 this
      · rw [if_neg (by decide)] at this; exact h3 this
    · have e : (m : Int).toNat = m := Int.toNat_natCast m
      rw [e, hT] at h2 h3
      rw [one LL' h2, hk] at h3
      exact h3 ⟨hS, hC⟩
def esY : List (Int × Int) := [(0, 1), (0, 2), (0, 3), (1, 2), (1, 4), (2, 3), (3, 4)]
def plY : List (List Int) := [[0, 1], [0, 2], [0, 3], [1, 2], [1, 4, 3], [2, 3]]
theorem esY_right : RightG (5 : Nat) esY := ⟨by decide, by decide, by decide, by decide, by unfold Rises esY; simp [ltE]⟩
theorem forkY : forkL 5 esY = [0, 1, 2, 3] := by decide
theorem betY : betL 5 esY [0, 1, 2, 3] = plY := by decide
theorem plY_sorted : plY.Pairwise (fun A B => lt3 (keyL A) (keyL B) = true) := by unfold plY; simp [lt3, keyL]
theorem pathY {p : List Int} (h1 : p ≠ []) (h2 : p.Nodup) (h3 : ∀ x ∈ p, 0 ≤ x ∧ x < ((5 : Nat) : Int)) (h4 : ∀ i (h : i + 1 < p.length), (p[i]'(by omega), p[i + 1]) ∈ esY ∨ (p[i + 1], p[i]'(by omega)) ∈ esY) : PathL ((5 : Nat) : Int) esY p := ⟨h1, h2, h3, h4⟩
theorem subY : SubL (5 : Nat) esY 1 [0, 1, 2, 3] plY := by
  have l2 : ∀ x y : Int, ((x, y) ∈ esY ∨ (y, x) ∈ esY) → (x ≠ y) → (0 ≤ x ∧ x < ((5 : Nat) : Int)) → (0 ≤ y ∧ y < ((5 : Nat) : Int)) → PathL ((5 : Nat) : Int) esY [x, y] := fun x y h hne hx hy => by
    refine pathY (by simp) (by simp [hne]) (fun z hz => by simp at hz; rcases hz with rfl | rfl; exact hx; exact hy) (fun i hi => ?_)
    have : i = 0 := by simp at hi; omega
    subst this
    exact h
  refine ⟨Or.inl rfl, esY_right, rfl, rfl, by decide, fun k hk => ?_, ?_⟩
  · have hk6 : k < 6 := hk
    rcases (by omega : k = 0 ∨ k = 1 ∨ k = 2 ∨ k = 3 ∨ k = 4 ∨ k = 5) with rfl | rfl | rfl | rfl | rfl | rfl
    · exact ⟨l2 0 1 (by decide) (by decide) (by decide) (by decide), by simp [plY], rfl, rfl⟩
    · exact ⟨l2 0 2 (by decide) (by decide) (by decide) (by decide), by simp [plY], rfl, rfl⟩
    · exact ⟨l2 0 3 (by decide) (by decide) (by decide) (by decide), by simp [plY], rfl, rfl⟩
    · exact ⟨l2 1 2 (by decide) (by decide) (by decide) (by decide), by simp [plY], rfl, rfl⟩
    · refine ⟨pathY (p := [1, 4, 3]) (by simp) (by decide) (by decide) (fun i hi => ?_), by simp [plY], rfl, rfl⟩
      have : i = 0 ∨ i = 1 := by simp at hi; omega
      rcases this with rfl | rfl
      · show ((1 : Int), (4 : Int)) ∈ esY ∨ _
        exact Or.inl (by decide)
      · show ((4 : Int), (3 : Int)) ∈ esY ∨ ((3 : Int), (4 : Int)) ∈ esY
        exact Or.inr (by decide)
    · exact ⟨l2 2 3 (by decide) (by decide) (by decide) (by decide), by simp [plY], rfl, rfl⟩
  · intro L hL k hk h1
    unfold plY at hL
    simp at hL
    rcases hL with rfl | rfl | rfl | rfl | rfl | rfl
    all_goals simp at hk
    all_goals first | omega | skip
    have : k = 1 := by omega
    subst this
    show plY.flatten.count 4 = 1
    decide
theorem coverY : Covers esY plY := by
  refine ⟨esY, esY_right.2.2.2.2, fun x => ⟨fun h => ?_, fun h => ?_⟩, rfl⟩
  · have : ∀ x ∈ esY, x ∈ plY.flatMap peL := by decide
    exact this x h
  · have : ∀ x ∈ plY.flatMap peL, x ∈ esY := by decide
    exact this x h
/-- What is read of the graph of the small case. -/
theorem readY {kd : Int} {T : List Int} {LL : List (List Int)} {ok : Bool} (h : (ok = true ∧ ReadYes 5 esY kd T LL) ∨ (ok = false ∧ kd = 0 ∧ T = [] ∧ LL = [] ∧ ReadNo (5 : Nat) esY)) : ok = true ∧ kd = 1 ∧ T = [0, 1, 2, 3] ∧ LL = plY :=
  read_yes forkY (by rw [betY]) plY_sorted subY coverY h
theorem readN {kd : Int} {T : List Int} {LL : List (List Int)} {ok : Bool} (h : (ok = true ∧ ReadYes 3 [] kd T LL) ∨ (ok = false ∧ kd = 0 ∧ T = [] ∧ LL = [] ∧ ReadNo (3 : Nat) [])) : ok = false ∧ kd = 0 ∧ T = [] ∧ LL = [] := by
  rcases h with ⟨_, h⟩ | ⟨h1, h2, h3, h4, _⟩
  · exfalso
    have h1 := h.tops
    have h2 : forkL 3 [] = [] := by decide
    rw [h2] at h1
    have h3 := h.sub.tl
    rw [h1] at h3
    rcases h.sub.kind with rfl | rfl <;> simp at h3
  · exact ⟨h1, h2, h3, h4⟩
theorem setsY : subSets 1 [0, 1, 2, 3] plY = [[0], [1, 4], [2], [3]] := by decide
end Go.Proofs.Ytckcbaegehfkoaa
namespace Go.Proofs.Ytckcbaegehfkoaa
open Go.RowKit Go.Lib

set_option maxHeartbeats 8000000 in
set_option maxRecDepth 100000 in
theorem yshown_any (w : World) :
    Calls Try.prog 11 #[] w fun e w' => e = .returned (.bool true) ∧ Below w.heap.size w w' := by
  obtain ⟨G0, hG0⟩ := ex_eq w.heap.size
  obtain ⟨W1, hW1⟩ := ex_eq ((w.alloc (.cells #[.int .i64 0, .int .i64 1, .int .i64 0, .int .i64 2, .int .i64 0, .int .i64 3, .int .i64 1, .int .i64 2, .int .i64 1, .int .i64 4, .int .i64 2, .int .i64 3, .int .i64 3, .int .i64 4] 59)).alloc (.cells #[.int .i64 5, .slice (some ⟨G0, 0, none⟩) 7 7] 30))
  have hb1 : Below w.heap.size w W1 := by rw [hW1]; exact (below_one w _).alloc (by simp) _
  have hE1 : EAt W1 (some ⟨G0, 0, none⟩) esY := by rw [hW1, hG0]; exact (eat_new w esY _ rfl).below (below_one _ _)
  have o1 := heap_alloc_new (w.alloc (.cells #[.int .i64 0, .int .i64 1, .int .i64 0, .int .i64 2, .int .i64 0, .int .i64 3, .int .i64 1, .int .i64 2, .int .i64 1, .int .i64 4, .int .i64 2, .int .i64 3, .int .i64 3, .int .i64 4] 59)) (.cells #[.int .i64 5, .slice (some ⟨G0, 0, none⟩) 7 7] 30)
  rw [← hW1, World.size_alloc, ← hG0] at o1
  have hb5 : (true = true ↔ RightG ((5 : Nat) : Int) esY) := ⟨fun _ => esY_right, fun _ => rfl⟩
  have CR : Hid (Calls Try.prog 16 #[.agg #[.int .i64 5, .slice (some ⟨G0, 0, none⟩) 7 7]] W1 fun e w' => ∃ v, e = .returned v ∧ ReadTold ((5 : Nat) : Int) esY W1 w' v) := read_any ((5 : Nat) : Int) (some ⟨G0, 0, none⟩) 7 esY true W1 (by decide) hE1 hb5
  have x0 := cell_of_heap o1 0
  have x1 := cell_of_heap o1 1
  have HW1 := hid hW1
  have HG0 := hid hG0
  have HE1 := hid hE1
  have HO1 := hid o1
  have HB1 := hid hb1
  clear hW1 hb1 hE1 o1 hG0 hb5
  go_enter Try.func11, Try.ntmps11
  go_upto_region 2 with fail
  rw [← HG0.out]
  rw [← HW1.out]
  go_wp2_with fail
  refine CR.out.mono ?_
  rintro e w2 ⟨v, rfl, kd, ta, tc, T, pa, pc, LL, ok, rfl, hIT, hLS, hb2, hyes⟩
  obtain ⟨rfl, rfl, rfl, rfl⟩ := readY hyes
  have e4 : ([0, 1, 2, 3] : List Int).length = 4 := rfl
  have e6 : plY.length = 6 := rfl
  rw [e4, e6]
  obtain ⟨S0, hS0⟩ := ex_eq w2.heap.size
  obtain ⟨W3, hW3⟩ := ex_eq (w2.alloc (.cells #[.int .i64 1, .slice ta 4 tc, .slice pa 6 pc] 32))
  have o3 := heap_alloc_new w2 (.cells #[.int .i64 1, .slice ta 4 tc, .slice pa 6 pc] 32)
  rw [← hW3, ← hS0] at o3
  have hb23 : Below w2.heap.size w2 W3 := by rw [hW3]; exact below_one _ _
  have hb13 : Below W1.heap.size W1 W3 := hb2.trans (hb23.mono hb2.size)
  have hI3 := hIT.below hb23
  have hL3 := hLS.below hb23
  have CM := hid (tmodel_any 1 ta tc [0, 1, 2, 3] pa pc plY W3 hI3 (by decide) (by decide) hL3)
  rw [e4, e6] at CM
  have y0 := cell_of_heap o3 0
  have y1 := cell_of_heap o3 1
  have y2 := cell_of_heap o3 2
  have HW3 := hid hW3
  have HS0 := hid hS0
  have HO3 := hid o3
  have HB13 := hid hb13
  have HI3 := hid hI3
  have HL3 := hid hL3
  clear CR hW3 hS0 o3 hb13 hI3 hL3 hb23 hIT hLS hb2 hyes x0 x1 HW1
  go_upto_region 3 with fail
  rw [← HW3.out, ← HS0.out]
  go_wp2_with fail
  refine CM.out.mono ?_
  rintro e w4 ⟨v, rfl, k, S, am, cm, rfl, hS, hLM, hb4⟩
  obtain ⟨rfl, rfl⟩ : k = 1 ∧ S = [[0], [1, 4], [2], [3]] := by
    rcases hS with ⟨_, h1, h2⟩ | ⟨h1, _⟩
    · exact ⟨h1, h2.trans setsY⟩
    · exact absurd subY.formed h1
  have e44 : ([[0], [1, 4], [2], [3]] : List (List Int)).length = 4 := rfl
  rw [e44]
  obtain ⟨M0, hM0⟩ := ex_eq w4.heap.size
  obtain ⟨W5, hW5⟩ := ex_eq (w4.alloc (.cells #[.int .i64 1, .slice am 4 cm] 44))
  have o5 := heap_alloc_new w4 (.cells #[.int .i64 1, .slice am 4 cm] 44)
  rw [← hW5, ← hM0] at o5
  have hb45 : Below w4.heap.size w4 W5 := by rw [hW5]; exact below_one _ _
  have hb35 : Below W3.heap.size W3 W5 := hb4.trans (hb45.mono hb4.size)
  have hb15 : Below W1.heap.size W1 W5 := HB13.out.trans (hb35.mono HB13.out.size)
  have hLM5 := hLM.below hb45
  have HKP : Hid (∀ X, Below W5.heap.size W5 X → (X.cell? ⟨G0 + 1, 0, none⟩ = some (.int .i64 5) ∧ X.cell? ⟨G0 + 1, 1, none⟩ = some (.slice (some ⟨G0, 0, none⟩) 7 7)) ∧ (X.cell? ⟨S0, 0, none⟩ = some (.int .i64 1) ∧ X.cell? ⟨S0, 1, none⟩ = some (.slice ta 4 tc) ∧ X.cell? ⟨S0, 2, none⟩ = some (.slice pa 6 pc)) ∧ (X.cell? ⟨M0, 0, none⟩ = some (.int .i64 1) ∧ X.cell? ⟨M0, 1, none⟩ = some (.slice am 4 cm)) ∧ EAt X (some ⟨G0, 0, none⟩) esY ∧ IAt X ta [0, 1, 2, 3] ∧ LLS X pa plY ∧ LLAt X am [[0], [1, 4], [2], [3]] ∧ Below w.heap.size w X) := fun X hX => by
    have h15 : Below W1.heap.size W1 X := hb15.trans (hX.mono hb15.size)
    have h35 : Below W3.heap.size W3 X := hb35.trans (hX.mono hb35.size)
    have p1 := (h15.block _ (Array.getElem?_eq_some_iff.1 HO1.out).1).trans HO1.out
    have p3 := (h35.block _ (Array.getElem?_eq_some_iff.1 HO3.out).1).trans HO3.out
    have p5 := (hX.block _ (Array.getElem?_eq_some_iff.1 o5).1).trans o5
    exact ⟨⟨cell_of_heap p1 0, cell_of_heap p1 1⟩, ⟨cell_of_heap p3 0, cell_of_heap p3 1, cell_of_heap p3 2⟩, ⟨cell_of_heap p5 0, cell_of_heap p5 1⟩, HE1.out.below h15, HI3.out.below h35, HL3.out.below h35, hLM5.below hX, HB1.out.trans (h15.mono HB1.out.size)⟩
  have CE : Hid (∀ X, Below W5.heap.size W5 X → Calls Try.prog 22 #[.agg #[.int .i64 1, .slice ta 4 tc, .slice pa 6 pc]] X fun e w' => ∃ a' c', e = .returned (.slice a' 7 c') ∧ Below X.heap.size X w') := fun X hX => by
    refine (tedges_any 1 ta 4 tc pa pc plY X (by decide) (by decide) (lls_llat (HKP.out X hX).2.2.2.2.2.1)).mono ?_
    rintro e w' ⟨a', c', es', rfl, _, _, hR, hm, hb⟩
    have e7 : es' = esY := by
      obtain ⟨E, h1, h2, h3⟩ := coverY
      refine rises_one hR esY_right.2.2.2.2 (fun x => (hm x).trans ⟨fun h => ?_, fun h => ?_⟩)
      · have : ∀ x ∈ plY.flatMap peL, x ∈ esY := by decide
        exact this x h
      · have : ∀ x ∈ esY, x ∈ plY.flatMap peL := by decide
        exact this x h
    subst e7
    exact ⟨a', c', rfl, hb⟩
  have CN : Hid (∀ X, Calls Try.prog 16 #[.agg #[.int .i64 3, .slice none 0 0]] X fun e w' => ∃ t1 c1 t2 c2, e = .returned (.tuple #[.agg #[.int .i64 0, .slice t1 0 c1, .slice t2 0 c2], .bool false]) ∧ Below X.heap.size X w') := fun X => by
    have h3 : (true = true ↔ RightG ((3 : Nat) : Int) []) := ⟨fun _ => ⟨by decide, by decide, by decide, by simp, rises_nil⟩, fun _ => rfl⟩
    refine Calls.mono (read_any ((3 : Nat) : Int) none 0 [] true X (by decide) (eat_nil _ _) h3) ?_
    rintro e w' ⟨v, rfl, kd, t1, c1, T, t2, c2, LL, ok, rfl, _, _, hb, hy⟩
    obtain ⟨rfl, rfl, rfl, rfl⟩ := readN hy
    exact ⟨t1, c1, t2, c2, rfl, hb⟩
  have CK : Hid (∀ X, Below W5.heap.size W5 X → Calls Try.prog 14 #[.agg #[.int .i64 5, .slice (some ⟨G0, 0, none⟩) 7 7], .agg #[.int .i64 1, .slice ta 4 tc, .slice pa 6 pc]] X fun e w' => e = .returned (.bool true) ∧ Below X.heap.size X w') := fun X hX => by
    obtain ⟨_, _, _, g1, g2, g3, _, _⟩ := HKP.out X hX
    exact tcheck_any ((5 : Nat) : Int) (some ⟨G0, 0, none⟩) 7 esY true 1 ta tc [0, 1, 2, 3] pa pc plY true X (by decide) g1 ⟨fun _ => esY_right, fun _ => rfl⟩ g2 (by decide) (by decide) (lls_llat g3) (fun L hL x hx => by
      have h : ∀ L ∈ plY, ∀ x ∈ L, 0 ≤ x ∧ x < 5 := by decide
      have := h L hL x hx
      exact WalkArith.wf_i64 (by omega)) ⟨fun _ => subY, fun _ => rfl⟩
  have CZ : Hid (∀ X, Below W5.heap.size W5 X → Calls Try.prog 14 #[.agg #[.int .i64 5, .slice (some ⟨G0, 0, none⟩) 7 7], .agg #[.int .i64 0, .slice none 0 0, .slice none 0 0]] X fun e w' => e = .returned (.bool false) ∧ Below X.heap.size X w') := fun X hX => by
    obtain ⟨_, _, _, g1, _⟩ := HKP.out X hX
    exact tcheck_any ((5 : Nat) : Int) (some ⟨G0, 0, none⟩) 7 esY true 0 none 0 [] none 0 [] false X (by decide) g1 ⟨fun _ => esY_right, fun _ => rfl⟩ (iat_nil _ _) (by decide) (by simp) (llat_nil _ _) (fun L hL => by simp at hL) ⟨fun h => (by cases h), fun h => by rcases h.kind with h | h <;> cases h⟩
  have HW5 := hid hW5
  have HM0 := hid hM0
  obtain ⟨_, ⟨y0, y1, y2⟩, _⟩ := HKP.out W5 (Below.refl _ _)
  have CE5 := hid (CE.out W5 (Below.refl _ _))
  clear CM hW5 hM0 o5 hb45 hb35 hb15 hLM5 hLM hb4 hS CE HW3 HS0 e4 e6 e44
  go_upto_region 4 with fail
  rw [← HW5.out, ← HM0.out]
  go_wp2_with fail
  refine CE5.out.mono ?_
  rintro e w6 ⟨a6, c6, rfl, hb6⟩
  have HB6 := hid hb6
  clear CE5 y0 y1 y2 hb6 HW5 HM0
  go_wp2_with fail
  refine (CN.out w6).mono ?_
  rintro e w7 ⟨t1, c1, t2, c2, rfl, hb7⟩
  obtain ⟨W8, hW8⟩ := ex_eq (w7.alloc (.cells #[.int .i64 0, .slice t1 0 c1, .slice t2 0 c2] 32))
  have hb58 : Below W5.heap.size W5 W8 := by
    rw [hW8]
    exact (HB6.out.trans (hb7.mono HB6.out.size)).alloc (Nat.le_trans HB6.out.size hb7.size) _
  obtain ⟨⟨x0, x1⟩, ⟨y0, y1, y2⟩, ⟨z0, z1⟩, _, hI, hL, hM, _⟩ := HKP.out W8 hb58
  obtain ⟨gt, ot, rfl, _, hct⟩ := hI (by decide)
  have d3 : W8.cell? ⟨gt, ot + 3, none⟩ = some (.int .i64 3) := hct 3 (by decide)
  obtain ⟨gp, op, ak, ck, rfl, p4, _, _⟩ := hL.at (k := 4) (by decide)
  have p4' : W8.cell? ⟨gp, op + 4, none⟩ = some (.slice ak 3 ck) := p4
  have HW8 := hid hW8
  have HB8 := hid hb58
  have CK8 := hid (CK.out W8 hb58)
  clear CN hW8 hb58 hI hL hM hct p4 hb7 CK
  go_upto_region 6 with fail
  rw [← HW8.out]
  clear HW8
  go_wp2_with fail
  refine CK8.out.mono ?_
  rintro e w9 ⟨rfl, hb9⟩
  have hb59 := HB8.out.trans (hb9.mono HB8.out.size)
  have HB9 := hid hb59
  have CZ9 := hid (CZ.out w9 hb59)
  clear x0 x1 y0 y1 y2 z0 z1 d3 p4' CK8 CZ hb9
  obtain ⟨⟨x0, x1⟩, _, _, _, _, _, _, _⟩ := HKP.out w9 hb59
  clear hb59
  go_wp2_with fail
  refine CZ9.out.mono ?_
  rintro e w10 ⟨rfl, hb10⟩
  have hb510 := HB9.out.trans (hb10.mono HB9.out.size)
  clear x0 x1 CZ9 hb10
  obtain ⟨_, _, ⟨z0, z1⟩, _, _, _, hM, hF⟩ := HKP.out w10 hb510
  obtain ⟨gm, om, ak1, ck1, rfl, p1, _⟩ := hM.at (k := 1) (by decide)
  have p1' : w10.cell? ⟨gm, om + 1, none⟩ = some (.slice ak1 2 ck1) := p1
  have HF := hid hF
  clear hM p1 hF hb510 HKP
  go_wp2
  go_ret
  exact ⟨rfl, HF.out⟩
end Go.Proofs.Ytckcbaegehfkoaa
