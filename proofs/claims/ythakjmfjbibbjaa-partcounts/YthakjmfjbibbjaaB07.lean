/-
  Lists of rows in memory; the document's SameRows.
  The document's Classes of layer 4.
  What is reached from a vertex: pure facts for the document's components. No program is named here.
-/
import Derived.Test.YthakjmfjbibbjaaB05
import Derived.Test.YthakjmfjbibbjaaB04
import Derived.Test.YthakjmfjbibbjaaB06
import Derived.Test.YthakjmfjbibbjaaB03
import Derived.Test.YthakjmfjbibbjaaB02
namespace Go.Proofs.Ythakjmfjbibbjaa
open Go.RowKit Go.Lib

theorem KeptBut.of_grown {w w' : World} {row : Option Nat} (hg : w.grownBy w' row) : KeptBut (fun k => some k = row) w w' := ⟨hg.os, hg.tape, hg.output, hg.size, fun k hk hn => hg.block k hk hn⟩
theorem kept_alloc (w : World) (o : Obj) (S : Nat → Prop) : KeptBut S w (w.alloc o) := (KeptBut.of_below ((Below.refl w.heap.size w).alloc (Nat.le_refl _) o)).mono (fun k hk hs => absurd hs (by omega))
theorem KeptBut.of_whole {w w' : World} (S : Nat → Prop) (h : Below w.heap.size w w') : KeptBut S w w' := (KeptBut.of_below h).mono (fun k hk hs => absurd hs (by omega))
theorem IAt.kept {S : Nat → Prop} {w w' : World} {a : Option Addr} {xs : List Int} (h : IAt w a xs) (hk : KeptBut S w w') (hs : ∀ g off, a = some ⟨g, off, none⟩ → 0 < xs.length → ¬ S g) : IAt w' a xs := fun h0 => by
  obtain ⟨g, off, ha, hg, hc⟩ := h h0
  exact ⟨g, off, ha, Nat.lt_of_lt_of_le hg hk.size, fun k hk' => (hk.cell (p := ⟨g, off + k, none⟩) hg (hs g off ha h0)).trans (hc k hk')⟩
theorem own_kept {S : Nat → Prop} {w w' : World} {base : Nat} {e : TypeId} {size : Nat} {v : Value} {n : Nat} {xs : List Value} (h : w.ownsRow base e size v n xs) (hk : KeptBut S w w') (hs : ∀ g, v.ownBlock = some g → ¬ S g) : w'.ownsRow base e size v n xs := by
  refine ⟨h.1, ?_⟩
  rcases h.2 with h2 | ⟨g, cap, cur, hv, hg, hgc, r⟩
  · exact Or.inl h2
  · exact Or.inr ⟨g, cap, cur, hv, hg, (hk.block g (Array.getElem?_eq_some_iff.1 hgc).1 (hs g (by rw [hv]; rfl))).trans hgc, r⟩

/-- A list of rows in memory. -/
def LLAt (w : World) (a : Option Addr) (LL : List (List Int)) : Prop :=
  0 < LL.length → ∃ g off, a = some ⟨g, off, none⟩ ∧ g < w.heap.size ∧ ∀ k (hk : k < LL.length), ∃ ak ck, w.cell? ⟨g, off + k, none⟩ = some (.slice ak LL[k].length ck) ∧ IAt w ak LL[k]
theorem LLAt.below {w w' : World} {a : Option Addr} {LL : List (List Int)} (h : LLAt w a LL) (hb : Below w.heap.size w w') : LLAt w' a LL := fun h0 => by
  obtain ⟨g, off, ha, hg, hc⟩ := h h0
  refine ⟨g, off, ha, Nat.lt_of_lt_of_le hg hb.size, fun k hk => ?_⟩
  obtain ⟨ak, ck, h1, h2⟩ := hc k hk
  exact ⟨ak, ck, (hb.cell (p := ⟨g, off + k, none⟩) hg).trans h1, h2.below hb⟩
theorem LLAt.at {w : World} {a : Option Addr} {LL : List (List Int)} (h : LLAt w a LL) {k : Nat} (hk : k < LL.length) : ∃ g off ak ck, a = some ⟨g, off, none⟩ ∧ w.cell? ⟨g, off + k, none⟩ = some (.slice ak LL[k].length ck) ∧ IAt w ak LL[k] := by
  obtain ⟨g, off, ha, hg, hc⟩ := h (by omega)
  obtain ⟨ak, ck, h1, h2⟩ := hc k hk
  exact ⟨g, off, ak, ck, ha, h1, h2⟩

/-- A list of rows of the call's own: the headers in one block, the rows in others, all of them in blocks of A. -/
def LLOwn (w : World) (base : Nat) (A : Nat → Prop) (v : Value) (us : List Value) (LL : List (List Int)) : Prop :=
  w.ownsRow base 42 1 v LL.length us ∧ us.length = LL.length ∧ (∀ g, v.ownBlock = some g → A g) ∧
    ∀ k (hk : k < LL.length), ∃ ak ck, us[k]? = some (.slice ak LL[k].length ck) ∧ IAt w ak LL[k] ∧ ∀ g off, ak = some ⟨g, off, none⟩ → 0 < LL[k].length → A g ∧ v.ownBlock ≠ some g
theorem LLOwn.kept {S A : Nat → Prop} {w w' : World} {base : Nat} {v : Value} {us : List Value} {LL : List (List Int)} (h : LLOwn w base A v us LL) (hk : KeptBut S w w') (hs : ∀ k, A k → k < w.heap.size → ¬ S k) : LLOwn w' base A v us LL := by
  refine ⟨own_kept h.1 hk (fun g hg => hs g (h.2.2.1 g hg) (h.1.lt g hg).2), h.2.1, h.2.2.1, fun k hk' => ?_⟩
  obtain ⟨ak, ck, h1, h2, h3⟩ := h.2.2.2 k hk'
  exact ⟨ak, ck, h1, h2.kept hk (fun g off ha h0 => hs g (h3 g off ha h0).1 (by
    obtain ⟨g', off', ha', hg', _⟩ := h2 h0
    rw [ha] at ha'
    cases ha'
    exact hg')), h3⟩
theorem LLOwn.below {A : Nat → Prop} {w w' : World} {base : Nat} {v : Value} {us : List Value} {LL : List (List Int)} (h : LLOwn w base A v us LL) (hb : Below w.heap.size w w') : LLOwn w' base A v us LL :=
  h.kept (KeptBut.of_whole (fun _ => False) hb) (fun _ _ _ e => e)
theorem llown_nil (w : World) (A : Nat → Prop) (o : Obj) (ho : o = .cells #[] 42 (0, 0)) (hA : A w.heap.size) : LLOwn (w.alloc o) w.heap.size A (.slice (some ⟨w.heap.size, 0, none⟩) 0 0) [] [] := by
  subst ho
  refine ⟨⟨rfl, Or.inr ⟨w.heap.size, 0, #[], rfl, Nat.le_refl _, heap_alloc_new _ _, Nat.le_refl _, Nat.zero_le _, rfl, rfl⟩⟩, rfl, fun g hg => by cases hg; exact hA, fun k hk => absurd hk (by simp)⟩
theorem LLOwn.put {A : Nat → Prop} {w w4 : World} {base : Nat} {v v4 : Value} {us : List Value} {LL : List (List Int)} {L : List Int} {ar : Option Addr} {cr : Nat} {X : Obj} (h : LLOwn w base A v us LL) (hI : IAt w ar L)
    (hA : ∀ g off, ar = some ⟨g, off, none⟩ → 0 < L.length → A g ∧ v.ownBlock ≠ some g) (hnew : A (w.alloc X).heap.size)
    (ho : w4.ownsRow base 42 1 v4 (LL.length + 1) (us ++ [.slice ar L.length cr])) (hg : (w.alloc X).grownBy w4 v.ownBlock) (hat : v4.ownBlock = v.ownBlock ∨ v4.ownBlock = some (w.alloc X).heap.size) :
    LLOwn w4 base A v4 (us ++ [.slice ar L.length cr]) (LL ++ [L]) := by
  have hk : KeptBut (fun k => some k = v.ownBlock) w w4 := (kept_alloc w X _).trans (KeptBut.of_grown hg)
  have hs : (w.alloc X).heap.size = w.heap.size + 1 := by simp
  have hne : ∀ g, g < w.heap.size → v.ownBlock ≠ some g → v4.ownBlock ≠ some g := fun g h1 h2 e => by
    rcases hat with h3 | h3
    · exact h2 (h3.symm.trans e)
    · rw [h3, hs] at e; simp only [Option.some.injEq] at e; omega
  refine ⟨by rw [List.length_append]; exact ho, by simp [h.2.1], fun g e => ?_, fun k hk' => ?_⟩
  · rcases hat with h3 | h3
    · exact h.2.2.1 g (h3.symm.trans e)
    · rw [h3] at e; simp only [Option.some.injEq] at e; rw [← e]; exact hnew
  · by_cases hlt : k < LL.length
    · obtain ⟨ak, ck, h1, h2, h3⟩ := h.2.2.2 k hlt
      have e1 : (LL ++ [L])[k] = LL[k] := List.getElem_append_left hlt
      rw [e1]
      refine ⟨ak, ck, by rw [List.getElem?_append_left (by rw [h.2.1]; exact hlt)]; exact h1, h2.kept hk (fun g off ha h0 e => (h3 g off ha h0).2 e.symm), fun g off ha h0 => ⟨(h3 g off ha h0).1, hne g ?_ (h3 g off ha h0).2⟩⟩
      obtain ⟨g', off', ha', hg', _⟩ := h2 h0
      rw [ha] at ha'
      cases ha'
      exact hg'
    · obtain rfl : k = LL.length := by simp at hk'; omega
      have e1 : (LL ++ [L])[LL.length] = L := by simp
      rw [e1]
      refine ⟨ar, cr, by rw [← h.2.1]; simp, hI.kept hk (fun g off ha h0 e => (hA g off ha h0).2 e.symm), fun g off ha h0 => ⟨(hA g off ha h0).1, hne g ?_ (hA g off ha h0).2⟩⟩
      obtain ⟨g', off', ha', hg', _⟩ := hI h0
      rw [ha] at ha'
      cases ha'
      exact hg'
theorem LLOwn.at {A : Nat → Prop} {w : World} {base : Nat} {v : Value} {us : List Value} {LL : List (List Int)} (h : LLOwn w base A v us LL) : ∃ a cap, v = .slice a LL.length cap ∧ Sl a cap LL.length ∧ LLAt w a LL := by
  obtain ⟨a, cap, hv, hsl⟩ := sl_own h.1
  refine ⟨a, cap, hv, hsl, fun h0 => ?_⟩
  obtain ⟨g, cap', hv', hb, hg, hc, hcs⟩ := own_row h.1 h0
  rw [hv] at hv'
  simp only [Value.slice.injEq, true_and] at hv'
  refine ⟨g, 0, hv'.1, hg, fun k hk => ?_⟩
  obtain ⟨ak, ck, h1, h2, _⟩ := h.2.2.2 k hk
  exact ⟨ak, ck, by rw [Nat.zero_add]; exact hcs k _ h1, h2⟩

theorem boolR_of (p : Prop) : ∃ r : Bool, r = true ↔ p := by
  by_cases h : p
  · exact ⟨true, ⟨fun _ => h, fun _ => rfl⟩⟩
  · exact ⟨false, ⟨fun h' => (by cases h'), fun h' => absurd h' h⟩⟩
theorem llsame_upto {LL MM : List (List Int)} (hl : LL.length = MM.length) (h : ∀ j (h1 : j < LL.length) (h2 : j < MM.length), LL[j] = MM[j]) : LL = MM := List.ext_getElem hl h

set_option maxHeartbeats 2000000 in
set_option maxRecDepth 100000 in
theorem sameRows_any (a1 a2 : Option Addr) (c1 c2 : Nat) (LL MM : List (List Int)) (r : Bool) (w : World) (hN : LL.length ≤ 1000000) (hR : ∀ L ∈ LL, L.length ≤ 1000000) (h1 : LLAt w a1 LL) (h2 : LLAt w a2 MM) (hr : r = true ↔ LL = MM) :
    Calls Try.prog 19 #[.slice a1 LL.length c1, .slice a2 MM.length c2] w fun e w' => e = .returned (.bool r) ∧ Below w.heap.size w w' := by
  have H1 := hid h1
  have H2 := hid h2
  have HR := hid hr
  have HRR := hid hR
  obtain ⟨N, hNe⟩ := ex_eq LL.length
  obtain ⟨M, hMe⟩ := ex_eq MM.length
  have HN := hid hNe
  have HM := hid hMe
  rw [← hNe] at hN ⊢
  rw [← hMe]
  clear h1 h2 hr hNe hMe hR
  by_cases hl : N = M
  · subst hl
    go_enter Try.func19, Try.ntmps19
    go_wp2
    go_loopg [5] N (fun G i wz => ∃ k : Nat, k ≤ N ∧ N - k ≤ G ∧ i = .int .i64 k ∧ Hid (∀ j (h1 : j < LL.length) (h2 : j < MM.length), j < k → LL[j] = MM[j]) ∧ Below w.heap.size w wz)
    case atStart => exact ⟨0, Nat.zero_le _, by omega, rfl, fun j _ _ h => absurd h (by omega), Below.refl _ _⟩
    case round =>
      obtain ⟨k, hk, hG, rfl, heq, hbr⟩ := hrel
      by_cases hlt : k < N
      · have k1 : k < LL.length := by rw [← HN.out]; exact hlt
        have k2 : k < MM.length := by rw [← HM.out]; exact hlt
        obtain ⟨g1, o1, x1, y1, rfl, d1, i1⟩ := (H1.out.below hbr).at k1
        obtain ⟨g2, o2, x2, y2, rfl, d2, i2⟩ := (H2.out.below hbr).at k2
        obtain ⟨s, hs⟩ := boolR_of (LL[k] = MM[k])
        have CS : Hid (∀ W, Below w.heap.size w W → IAt W x1 LL[k] → IAt W x2 MM[k] → Calls Try.prog 31 #[.slice x1 LL[k].length y1, .slice x2 MM[k].length y2] W fun e w' => e = .returned (.bool s) ∧ Below W.heap.size W w') := fun W _ e1 e2 => same_any x1 x2 y1 y2 _ _ s W (HRR.out _ (List.getElem_mem _)) e1 e2 hs
        obtain ⟨n1, hn1⟩ := ex_eq LL[k].length
        obtain ⟨n2, hn2⟩ := ex_eq MM[k].length
        rw [← hn1] at d1
        rw [← hn2] at d2
        have CQ : Hid (Calls Try.prog 31 #[.slice x1 n1 y1, .slice x2 n2 y2] wr.drew fun e w' => e = .returned (.bool s) ∧ Below wr.heap.size wr.drew w') := by
          show Calls _ _ _ _ _
          rw [hn1, hn2]
          exact CS.out wr.drew hbr.drew i1 i2
        have q1 : (k : Int) < (N : Int) := by omega
        have HS := hid hs
        have hS := hid2 (show wr.drew.cell? ⟨g1, o1 + k, none⟩ = some (.slice x1 n1 y1) from d1) (show wr.drew.cell? ⟨g2, o2 + k, none⟩ = some (.slice x2 n2 y2) from d2)
        have HKP : Hid (∀ W, Below wr.heap.size wr.drew W → (W.cell? ⟨g1, o1 + k, none⟩ = some (.slice x1 n1 y1) ∧ W.cell? ⟨g2, o2 + k, none⟩ = some (.slice x2 n2 y2)) ∧ Below w.heap.size w W) := fun W h =>
          ⟨⟨(h.cell (p := ⟨g1, o1 + k, none⟩) (block_lt_of_cell d1)).trans d1, (h.cell (p := ⟨g2, o2 + k, none⟩) (block_lt_of_cell d2)).trans d2⟩, hbr.drew.trans (h.mono hbr.size)⟩
        clear hs hn1 hn2 i1 i2 CS
        cases s with
        | true =>
          have HEQ : Hid (∀ j (h1 : j < LL.length) (h2 : j < MM.length), j < k + 1 → LL[j] = MM[j]) := fun j h1 h2 hj => by
            by_cases e : j < k
            · exact heq.out j h1 h2 e
            · obtain rfl : j = k := by omega
              exact HS.out.1 rfl
          go_wp2_with fail
          go_region_held3 (fun X => X.cell? ⟨g1, o1 + k, none⟩ = some (.slice x1 n1 y1) ∧ X.cell? ⟨g2, o2 + k, none⟩ = some (.slice x2 n2 y2)) (first | exact hS | exact hS7)
            (first | (go_at_call 31; refine CQ.out.mono ?_; rintro e w7 ⟨rfl, hb7⟩; obtain ⟨hS7, hb8⟩ := HKP.out w7 hb7))
          all_goals
            clear hS hS7 hb7 HKP CQ d1 d2
            go_wp2
            go_roundg (N - (k + 1))
            case measure => omega
            case rel => exact ⟨k + 1, by omega, Nat.le_refl _, by go_num, HEQ, hb8⟩
        | false =>
          obtain rfl : r = false := b_false HR.out (fun e => by subst e; have := HS.out.2 rfl; cases this)
          clear HR
          go_wp2_with fail
          go_region_held3 (fun X => X.cell? ⟨g1, o1 + k, none⟩ = some (.slice x1 n1 y1) ∧ X.cell? ⟨g2, o2 + k, none⟩ = some (.slice x2 n2 y2)) (first | exact hS | exact hS7)
            (first | (go_at_call 31; refine CQ.out.mono ?_; rintro e w7 ⟨rfl, hb7⟩; obtain ⟨hS7, hb8⟩ := HKP.out w7 hb7))
          all_goals
            clear hS hS7 hb7 HKP CQ d1 d2
            go_wp2
            go_ret
            exact ⟨rfl, hb8⟩
      · obtain rfl : k = N := by omega
        obtain rfl : r = true := HR.out.2 (llsame_upto (by rw [← HN.out, ← HM.out]) (fun j h1 h2 => heq.out j h1 h2 (by rw [HN.out]; exact h1)))
        clear HR
        go_wp2
        go_ret
        exact ⟨rfl, hbr⟩
  · obtain rfl : r = false := b_false HR.out (fun e => hl (by rw [HN.out, HM.out, e]))
    have hq : ((N : Int) == (M : Int)) = false := beq_eq_false_iff_ne.2 (by omega)
    clear HR hl
    go_enter Try.func19, Try.ntmps19
    go_wp2
    go_ret
    exact ⟨rfl, Below.refl _ _⟩
end Go.Proofs.Ythakjmfjbibbjaa
namespace Go.Proofs.Ythakjmfjbibbjaa
open Go.RowKit Go.Lib

/-- The classes of the least numbers below m; the numbers below k of one class. -/
def clsTo (n : Nat) (f : Nat → Nat) (m : Nat) : List (List Int) := ((List.range m).filter (fun i => f i == i)).map (classF n f)
def partTo (f : Nat → Nat) (i k : Nat) : List Int := ((List.range k).filter (fun j => f j == i)).map (fun j : Nat => (j : Int))
theorem clsTo_yes {n : Nat} {f : Nat → Nat} {m : Nat} (h : f m = m) : clsTo n f (m + 1) = clsTo n f m ++ [classF n f m] := by unfold clsTo; rw [reps_succ, if_pos h]
theorem clsTo_no {n : Nat} {f : Nat → Nat} {m : Nat} (h : ¬ f m = m) : clsTo n f (m + 1) = clsTo n f m := by unfold clsTo; rw [reps_succ, if_neg h, List.append_nil]
theorem clsTo_len (n : Nat) (f : Nat → Nat) (m : Nat) : (clsTo n f m).length ≤ m := by unfold clsTo; rw [List.length_map]; exact Nat.le_trans (List.length_filter_le _ _) (by simp)
theorem partTo_all (n : Nat) (f : Nat → Nat) (i : Nat) : partTo f i n = classF n f i := rfl
theorem partTo_yes {f : Nat → Nat} {i k : Nat} (h : f k = i) : partTo f i (k + 1) = partTo f i k ++ [(k : Int)] := by unfold partTo; rw [List.range_succ, List.filter_append, List.map_append]; simp [h]
theorem partTo_no {f : Nat → Nat} {i k : Nat} (h : ¬ f k = i) : partTo f i (k + 1) = partTo f i k := by unfold partTo; rw [List.range_succ, List.filter_append, List.map_append]; simp [h]
theorem partTo_len (f : Nat → Nat) (i k : Nat) : (partTo f i k).length ≤ k := by unfold partTo; rw [List.length_map]; exact Nat.le_trans (List.length_filter_le _ _) (by simp)
theorem partTo_nil {n : Nat} {f : Nat → Nat} (h : Pt n f) {i : Nat} (hi : i ≤ n) : partTo f i i = [] := by
  unfold partTo
  rw [List.map_eq_nil_iff, List.filter_eq_nil_iff]
  intro k hk e
  have hk' : k < i := by simpa using hk
  have := h.le k (by omega)
  have e' : f k = i := by simpa using e
  omega
theorem news_one {w : World} {x : Value} {T : TypeId} (n : Nat × Nat) : ∀ p, some (⟨w.heap.size, 0, none⟩ : Addr) = some p → ∀ j u, [x][j]? = some u → (w.alloc (.cells #[x] T n)).cell? (p.add j) = some u := fun p hp => by
  cases hp
  intro j u hu
  match j, hu with
  | 0, hu => cases hu; rw [add_at]; exact cell_of_heap (heap_alloc_new w _) 0
  | j + 1, hu => simp at hu
/-- A list of rows of the call's own is told. -/
def LLIs (w w' : World) (v : Value) (LL : List (List Int)) : Prop := (∃ us, LLOwn w' w.heap.size (fun k => w.heap.size ≤ k) v us LL) ∧ Below w.heap.size w w'

set_option maxHeartbeats 4000000 in
set_option maxRecDepth 100000 in
theorem rclasses_any (b g : Nat) (a : Option Addr) (n cap : Nat) (f : Nat → Nat) (w : World) (hn : n ≤ 1000) (hP : Pt n f) (h : QAt w b g a n cap f) :
    Calls Try.prog 21 #[.pointer (some ⟨b, 0, none⟩)] w fun e w' => ∃ v, e = .returned v ∧ LLIs w w' v (classesF n f) := by
  obtain ⟨i0, hi, hz0, hz1, hz2⟩ := info_parts Try.info3
  obtain ⟨i1, hj, hy0, hy1, hy2⟩ := info_parts Try.info42
  obtain ⟨b0, hb0⟩ := ex_eq w.heap.size
  have HB0 := hid hb0
  have HQ := hid h
  have HP := hid hP
  have HQB : Hid (∀ X, Below b0 w X → QAt X b g a n cap f) := fun X hX => HQ.out.below (by rw [← hb0]; exact hX)
  obtain ⟨W0, hW0⟩ := ex_eq (w.alloc (.cells #[] 42))
  have HL0 : Hid (∃ us, LLOwn W0 b0 (fun k => b0 ≤ k) (.slice (some ⟨b0, 0, none⟩) 0 0) us (clsTo n f 0)) := by
    rw [hW0, hb0]; exact ⟨[], llown_nil w _ _ rfl (Nat.le_refl _)⟩
  have hB0 : Below b0 w W0 := by rw [hW0, hb0]; exact (Below.refl _ _).alloc (Nat.le_refl _) _
  have HW0 := hid hW0
  clear h hP hb0 hW0
  go_enter Try.func21, Try.ntmps21
  go_wp2
  rw [← HW0.out, ← HB0.out]
  clear HW0
  go_loopg [3, 4] n (fun G v i wz => ∃ m : Nat, m ≤ n ∧ n - m ≤ G ∧ i = .int .i64 m ∧ Hid (∃ us, LLOwn wz b0 (fun k => b0 ≤ k) v us (clsTo n f m)) ∧ Below b0 w wz)
  case atStart => exact ⟨0, Nat.zero_le _, by omega, rfl, HL0, hB0⟩
  case round =>
    obtain ⟨m, hm, hG, rfl, hll, hbr⟩ := hrel
    obtain ⟨wo, hwo⟩ := ex_eq wr
    subst hwo
    have d0 := (HQB.out wo hbr).box
    have hszr : b0 ≤ wo.heap.size := by rw [HB0.out]; exact hbr.size
    by_cases hlt : m < n
    · obtain ⟨ha, cm, _⟩ := (HQB.out wo hbr).iat hlt
      subst ha
      obtain ⟨fm, hfm⟩ := ex_eq (f m)
      rw [← hfm] at cm
      have q1 : (m : Int) < (n : Int) := by omega
      by_cases he : fm = m
      · have HFM : Hid (f m = m) := by show f m = m; omega
        subst he
        obtain ⟨W1, hW1⟩ := ex_eq (wo.alloc (.cells #[] 3))
        obtain ⟨B1, hB1⟩ := ex_eq wo.heap.size
        have HBB := hid hB1
        have hbW1 : Below B1 wo W1 := by rw [hW1, hB1]; exact (Below.refl _ _).alloc (Nat.le_refl _) _
        have HR0 : Hid (W1.ownsRow B1 3 1 (.slice (some ⟨B1, 0, none⟩) 0 0) (partTo f fm fm).length ((partTo f fm fm).map (Value.int .i64))) := by
          show World.ownsRow _ _ _ _ _ _ _
          rw [partTo_nil HP.out (Nat.le_of_lt hlt), hW1, hB1]; exact own_emptyI _ rfl
        have HW1 := hid hW1
        clear hfm hW1 hB1
        go_wp2
        rw [← HW1.out, ← HBB.out]
        clear HW1
        have HQ2 : Hid (∀ X, Below B1 wo X → QAt X b g (some ⟨g, 0, none⟩) n cap f) := fun X hX => (HQB.out wo hbr).below (by rw [← HBB.out]; exact hX)
        clear d0 cm
        go_loopg [5, 6] n (fun G v i wz => ∃ k : Nat, k ≤ n ∧ n - k ≤ G ∧ i = .int .i64 k ∧ Hid (wz.ownsRow B1 3 1 v (partTo f fm k).length ((partTo f fm k).map (Value.int .i64))) ∧ Below B1 wo wz)
        case atStart => exact ⟨fm, by omega, by omega, rfl, HR0, hbW1⟩
        case round =>
          obtain ⟨k, hk, hGk, rfl, hown, hb2⟩ := hrel
          have d0 := (HQ2.out wr hb2).box
          have hsz2 : B1 ≤ wr.heap.size := by rw [HBB.out]; exact hb2.size
          have hpl := partTo_len f fm k
          by_cases hkl : k < n
          · obtain ⟨_, ck, _⟩ := (HQ2.out wr hb2).iat hkl
            obtain ⟨fk, hfk⟩ := ex_eq (f k)
            rw [← hfk] at ck
            have q2 : (k : Int) < (n : Int) := by omega
            by_cases hek : fk = fm
            · have he3 : ((fk : Int) == (fm : Int)) = true := by rw [hek]; simp
              have HFK : Hid (f k = fm) := by show f k = fm; omega
              obtain ⟨K, hK⟩ := ex_eq (partTo f fm k).length
              have HK := hid hK
              rw [← hK] at hpl
              have HOW : Hid ((wr.alloc (.cells #[.int .i64 k] 3)).ownsRow B1 3 1 u5 K ((partTo f fm k).map (Value.int .i64))) := by
                show World.ownsRow _ _ _ _ _ _ _
                rw [hK]; exact hown.out.alloc _
              have HNW : Hid (∀ p, some (⟨wr.heap.size, 0, none⟩ : Addr) = some p → ∀ j u, [Value.int .i64 (k : Int)][j]? = some u → (wr.alloc (.cells #[.int .i64 k] 3)).cell? (p.add j) = some u) := news_one _
              have HON : Hid (∀ v ∈ [Value.int .i64 (k : Int)], v.oneCell' = true) := fun v hv => by simp at hv; rw [hv]; rfl
              have H63 : Hid (K + 1 ≤ maxLen) := by show K + 1 ≤ maxLen; unfold maxLen; omega
              have HBS : Hid (B1 ≤ (wr.alloc (.cells #[.int .i64 k] 3)).heap.size) := by show B1 ≤ _; simp; omega
              have HKP : Hid (∀ w4, (wr.alloc (.cells #[.int .i64 k] 3)).grownBy w4 u5.ownBlock → Below B1 wo w4) := fun w4 hg => Below.grown (hb2.alloc hsz2 _) hg HBS.out (fun j hj => (hown.out.lt j hj).1)
              clear hK hfk he3 hown
              subst hek
              go_wp2_with (at_builtin; refine wpList_append_any _ rfl _ _ 42 rfl B1 3 i0 _ 1 8 Try.underlying42 hi hz0 hz1 hz2 rfl (by decide) _ _ _ rfl HOW.out (some ⟨wr.heap.size, 0, none⟩) 1 1 [.int .i64 k] rfl (fun h => by cases h) rfl HNW.out HON.out H63.out ?c4 HBS.out ?_)
              case c4 => omega
              intro v4 w4 hown4 hgrow _
              have hb4 := HKP.out w4 hgrow
              have HNX : Hid (w4.ownsRow B1 3 1 v4 (partTo f fk (k + 1)).length ((partTo f fk (k + 1)).map (Value.int .i64))) := by
                show World.ownsRow _ _ _ _ _ _ _
                rw [partTo_yes HFK.out, List.length_append, List.map_append, ← HK.out]; exact hown4
              clear hown4 hgrow HKP HBS H63 HON HNW HOW d0 ck
              go_wp2
              go_roundg (n - (k + 1))
              case measure => omega
              case rel => exact ⟨k + 1, by omega, Nat.le_refl _, by go_num, HNX, hb4⟩
            · have he3 : ((fk : Int) == (fm : Int)) = false := beq_eq_false_iff_ne.2 (by omega)
              have HNX : Hid (wr.ownsRow B1 3 1 u5 (partTo f fm (k + 1)).length ((partTo f fm (k + 1)).map (Value.int .i64))) := by
                show World.ownsRow _ _ _ _ _ _ _
                rw [partTo_no (by omega)]; exact hown.out
              clear hfk hown
              go_wp2
              go_roundg (n - (k + 1))
              case measure => omega
              case rel => exact ⟨k + 1, by omega, Nat.le_refl _, by go_num, HNX, hb2⟩
          · obtain rfl : k = n := by omega
            obtain ⟨us, hL⟩ := hll.out
            have hlen := clsTo_len k f fm
            rw [partTo_all] at hown
            obtain ⟨ar, cr, hv5, hI⟩ := iat_own hown.out
            have hge : ∀ g off, ar = some ⟨g, off, none⟩ → B1 ≤ g := fun g off e => by
              have h5 := hown.out
              rw [hv5] at h5
              exact own_ge h5 g off e
            subst hv5
            have hL2 := hL.below (w' := wr) (by rw [← HBB.out]; exact hb2)
            obtain ⟨R, hR⟩ := ex_eq (classF k f fm).length
            obtain ⟨C, hC⟩ := ex_eq (clsTo k f fm).length
            have HR := hid hR
            have HCC := hid hC
            rw [← hC] at hlen
            rw [← hR]
            have HOW : Hid ((wr.alloc (.cells #[.slice ar R cr] 42)).ownsRow b0 42 1 u3 C us) := by
              show World.ownsRow _ _ _ _ _ _ _
              rw [hC]; exact hL2.1.alloc _
            have HNW : Hid (∀ p, some (⟨wr.heap.size, 0, none⟩ : Addr) = some p → ∀ j u, [Value.slice ar R cr][j]? = some u → (wr.alloc (.cells #[.slice ar R cr] 42)).cell? (p.add j) = some u) := news_one _
            have HON : Hid (∀ v ∈ [Value.slice ar R cr], v.oneCell' = true) := fun v hv => by simp at hv; rw [hv]; rfl
            have H63 : Hid (C + 1 ≤ maxLen) := by show C + 1 ≤ maxLen; unfold maxLen; omega
            have HBS : Hid (b0 ≤ (wr.alloc (.cells #[.slice ar R cr] 42)).heap.size) := by
              have h8 := HBB.out
              show b0 ≤ _; simp; omega
            have HST : Hid (∀ v4 w4, w4.ownsRow b0 42 1 v4 (C + 1) (us ++ [.slice ar R cr]) → (wr.alloc (.cells #[.slice ar R cr] 42)).grownBy w4 u3.ownBlock → (v4.ownBlock = u3.ownBlock ∨ v4.ownBlock = some (wr.alloc (.cells #[.slice ar R cr] 42)).heap.size) → (∃ us, LLOwn w4 b0 (fun k => b0 ≤ k) v4 us (clsTo k f (fm + 1))) ∧ Below b0 w w4) := fun v4 w4 h1 h2 h3 => by
              have h8 := HBB.out
              refine ⟨⟨us ++ [.slice ar R cr], ?_⟩, ?_⟩
              · rw [clsTo_yes HFM.out, hR]
                rw [hC, hR] at h1
                rw [hR] at h2 h3
                refine hL2.put hI (fun g off e h0 => ⟨by have := hge g off e; omega, fun e2 => ?_⟩) (by simp; omega) h1 h2 h3
                have h9 := (hL.1.lt g e2).2
                have := hge g off e
                omega
              · have hbw2 : Below b0 w wr := hbr.trans (hb2.mono (by omega))
                exact Below.grown (hbw2.alloc (by omega) _) h2 HBS.out (fun j hj => (hL2.1.lt j hj).1)
            clear hL hL2 hI hge hown hll hR hC
            go_wp2_with (at_builtin; refine wpList_append_any _ rfl _ _ 33 rfl b0 42 i1 _ 1 24 Try.underlying33 hj hy0 hy1 hy2 rfl (by decide) _ _ _ rfl HOW.out (some ⟨wr.heap.size, 0, none⟩) 1 1 [.slice ar R cr] rfl (fun h => by cases h) rfl HNW.out HON.out H63.out ?c5 HBS.out ?_)
            case c5 => omega
            intro v4 w4 hown4 hgrow hat4
            obtain ⟨hl4, hb4⟩ := HST.out v4 w4 hown4 hgrow (hat4.imp id (fun h => by rw [h]; simp))
            have HL4 := hid hl4
            clear hl4 hown4 hgrow hat4 HST HBS H63 HON HNW HOW
            go_wp2
            go_roundg (k - (fm + 1))
            case measure => omega
            case rel => exact ⟨fm + 1, by omega, Nat.le_refl _, by go_num, HL4, hb4⟩
      · have he2 : ((fm : Int) == (m : Int)) = false := beq_eq_false_iff_ne.2 (by omega)
        have HNX : Hid (∃ us, LLOwn wo b0 (fun k => b0 ≤ k) u3 us (clsTo n f (m + 1))) := by
          rw [clsTo_no (by omega)]; exact hll.out
        clear hfm hll
        go_wp2
        go_roundg (n - (m + 1))
        case measure => omega
        case rel => exact ⟨m + 1, by omega, Nat.le_refl _, by go_num, HNX, hbr⟩
    · obtain rfl : m = n := by omega
      go_wp2
      go_ret
      refine ⟨_, rfl, ?_, ?_⟩
      · rw [← HB0.out]; exact hll.out
      · rw [← HB0.out]; exact hbr
end Go.Proofs.Ythakjmfjbibbjaa
namespace Go.Proofs.Ythakjmfjbibbjaa

/-- The edges of a graph as pairs of numbers. -/
def prsN (es : List (Int × Int)) : List (Nat × Nat) := es.map (fun e => (e.1.toNat, e.2.toNat))
theorem prsN_in {n : Nat} {es : List (Int × Int)} (h : RightG n es) : PairsIn n (prsN es) := fun e he => by
  obtain ⟨x, hx, rfl⟩ := List.mem_map.1 he
  have := h.2.2.2.1 x hx
  simp only
  omega
theorem mem_prsN {n : Nat} {es : List (Int × Int)} (h : RightG n es) {a b : Nat} : (a, b) ∈ prsN es ↔ ((a : Int), (b : Int)) ∈ es := by
  unfold prsN
  rw [List.mem_map]
  constructor
  · rintro ⟨x, hx, e⟩
    have := h.2.2.2.1 x hx
    simp only [Prod.mk.injEq] at e
    have e2 : x = ((a : Int), (b : Int)) := Prod.ext (by simp; omega) (by simp; omega)
    rw [← e2]; exact hx
  · intro hx; exact ⟨_, hx, by simp⟩
/-- There are classes to each row of pairs. -/
theorem tells_rev {n : Nat} : ∀ (Q : List (Nat × Nat)), PairsIn n Q.reverse → ∃ f, Pt n f ∧ Tells n f Q.reverse
  | [], _ => ⟨_, pt_new n, tells_new n⟩
  | e :: Q, h => by
    rw [List.reverse_cons] at h ⊢
    obtain ⟨f, hf, ht⟩ := tells_rev Q (fun x hx => h x (List.mem_append_left _ hx))
    have he := h e (by simp)
    exact ⟨_, hf.join he.1 he.2, tells_join ht (fun x hx => h x (List.mem_append_left _ hx)) he.1 he.2⟩
theorem tells_ex {n : Nat} (P : List (Nat × Nat)) (h : PairsIn n P) : ∃ f, Pt n f ∧ Tells n f P := by
  have := tells_rev P.reverse (by rw [List.reverse_reverse]; exact h)
  rwa [List.reverse_reverse] at this
/-- A neighbour is of the same class. -/
theorem nb_same {n : Nat} {es : List (Int × Int)} {f : Nat → Nat} (hR : RightG n es) (hT : Tells n f (prsN es)) {u : Nat} {y : Int} (hu : u < n) (hy : y ∈ nbL (u : Int) es) : ∃ v : Nat, y = v ∧ v < n ∧ f v = f u := by
  rw [nbL_right hR] at hy
  rcases hy with h | h
  · have h1 := hR.2.2.2.1 _ h
    simp only at h1
    obtain ⟨v, rfl⟩ : ∃ v : Nat, y = v := ⟨y.toNat, by omega⟩
    exact ⟨v, rfl, by omega, ((hT u v hu (by omega)).2 (Cl.of (e := (u, v)) ((mem_prsN hR).2 h))).symm⟩
  · have h1 := hR.2.2.2.1 _ h
    simp only at h1
    obtain ⟨v, rfl⟩ : ∃ v : Nat, y = v := ⟨y.toNat, by omega⟩
    exact ⟨v, rfl, by omega, (hT v u (by omega) hu).2 (Cl.of (e := (v, u)) ((mem_prsN hR).2 h))⟩
/-- What has been reached from m. -/
structure Bfs (n : Nat) (f : Nat → Nat) (m : Nat) (ls : List Int) : Prop where
  nd : ls.Nodup
  all : ∀ x ∈ ls, ∃ u : Nat, x = u ∧ u < n ∧ f u = m
  has : (m : Int) ∈ ls
theorem bfs_one {n : Nat} {f : Nat → Nat} {m : Nat} (hm : m < n) (hf : f m = m) : Bfs n f m [(m : Int)] := ⟨by simp, fun x hx => by simp at hx; exact ⟨m, hx, hm, hf⟩, by simp⟩
theorem Bfs.put {n : Nat} {f : Nat → Nat} {m : Nat} {ls : List Int} (h : Bfs n f m ls) {u : Nat} (hu : u < n) (hf : f u = m) (hn : (u : Int) ∉ ls) : Bfs n f m (ls ++ [(u : Int)]) := by
  refine ⟨?_, fun x hx => ?_, by simp [h.has]⟩
  · rw [List.nodup_append]
    refine ⟨h.nd, by simp, fun a ha b hb => ?_⟩
    simp at hb
    subst hb
    intro e
    subst e
    exact hn ha
  · rcases List.mem_append.1 hx with hx | hx
    · exact h.all x hx
    · simp at hx; exact ⟨u, hx, hu, hf⟩
theorem len_le_of_subI {a b : List Int} (h : a.Nodup) (hs : ∀ e ∈ a, e ∈ b) : a.length ≤ b.length := by
  induction a generalizing b with
  | nil => simp
  | cons x a ih =>
    have hx := hs x (by simp)
    have hnd := List.nodup_cons.1 h
    have := ih (b := b.erase x) hnd.2 (fun e he => by
      refine (List.mem_erase_of_ne ?_).2 (hs e (by simp [he]))
      rintro rfl
      exact hnd.1 he)
    rw [List.length_erase_of_mem hx] at this
    have : 0 < b.length := List.length_pos_of_mem hx
    simp; omega
theorem Bfs.len {n : Nat} {f : Nat → Nat} {m : Nat} {ls : List Int} (h : Bfs n f m ls) : ls.length ≤ n := by
  have := len_le_of_subI (b := upto n) h.nd (fun x hx => by
    obtain ⟨u, rfl, hu, _⟩ := h.all x hx
    unfold upto
    exact List.mem_map.2 ⟨u, by simpa using hu, rfl⟩)
  rwa [upto_len] at this
/-- The neighbours of the first i are reached. -/
def ClosedTo (es : List (Int × Int)) (ls : List Int) (i : Nat) : Prop := ∀ j (h : j < ls.length), j < i → ∀ y ∈ nbL ls[j] es, y ∈ ls
theorem closed_zero (es : List (Int × Int)) (ls : List Int) : ClosedTo es ls 0 := fun j _ h => absurd h (by omega)
theorem ClosedTo.put {es : List (Int × Int)} {ls : List Int} {i : Nat} (h : ClosedTo es ls i) (hi : i ≤ ls.length) (x : Int) : ClosedTo es (ls ++ [x]) i := fun j hj hji y hy => by
  have hj' : j < ls.length := by omega
  have e : (ls ++ [x])[j] = ls[j] := List.getElem_append_left hj'
  rw [e] at hy
  exact List.mem_append_left _ (h j hj' hji y hy)
theorem ClosedTo.next {es : List (Int × Int)} {ls : List Int} {i : Nat} (h : ClosedTo es ls i) {x : Int} (hx : ls[i]? = some x) (hn : ∀ y ∈ nbL x es, y ∈ ls) : ClosedTo es ls (i + 1) := fun j hj hji y hy => by
  by_cases e : j < i
  · exact h j hj e y hy
  · obtain rfl : j = i := by omega
    rw [List.getElem?_eq_getElem hj] at hx
    cases hx
    exact hn y hy
/-- All of a class is reached, and nothing else. -/
theorem bfs_done {n : Nat} {f : Nat → Nat} {m : Nat} {es : List (Int × Int)} {ls : List Int} (hR : RightG n es) (hT : Tells n f (prsN es)) (hm : m < n) (hf : f m = m) (h : Bfs n f m ls) (hc : ClosedTo es ls ls.length) : srt [] ls = classF n f m := by
  have hcl : ∀ u : Nat, (u : Int) ∈ ls → ∀ y ∈ nbL (u : Int) es, y ∈ ls := fun u hu y hy => by
    obtain ⟨j, hj, e⟩ := List.getElem_of_mem hu
    exact hc j hj hj y (by rw [e]; exact hy)
  have key : ∀ u, u < n → f u = m → (u : Int) ∈ ls := fun u hu hfu => by
    have hcc : Cl (prsN es) m u := (hT m u hm hu).1 (by rw [hf, hfu])
    have := hcc (fun x y => (x : Int) ∈ ls ↔ (y : Int) ∈ ls) (fun _ => Iff.rfl) (fun _ _ h => h.symm) (fun _ _ _ h k => h.trans k) (fun e he => ?_)
    · exact this.1 h.has
    · have he' : ((e.1 : Int), (e.2 : Int)) ∈ es := (mem_prsN hR).1 he
      constructor
      · intro h1; exact hcl _ h1 _ ((nbL_right hR).2 (Or.inl he'))
      · intro h1; exact hcl _ h1 _ ((nbL_right hR).2 (Or.inr he'))
  refine rise_one (up_strict (srt_up (by unfold Up; simp)) (srt_nodup (by simpa using h.nd))) (class_rises n f m) (fun e => ?_)
  rw [srt_mem, mem_class]
  constructor
  · rintro (h1 | h1)
    · simp at h1
    · obtain ⟨u, rfl, hu, hfu⟩ := h.all e h1
      exact ⟨u, rfl, hu, hfu⟩
  · rintro ⟨u, rfl, hu, hfu⟩; exact Or.inr (key u hu hfu)
end Go.Proofs.Ythakjmfjbibbjaa
