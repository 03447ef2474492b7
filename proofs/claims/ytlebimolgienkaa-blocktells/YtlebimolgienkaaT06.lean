/-
  Lists of rows in memory; the document's SameRows.
  The document's Classes of layer 4.
  What is reached from a vertex: pure facts for the document's components. No program is named here.
  Paths: put together, cut off, turned round; components; what follows of routes. No program is named here.
  Where a graph falls apart (layer 7): edges that no vertex parts. No program is named here.
  Blocks (layer 7): they are whole, also without one of their vertices; a ring lies in one; one edge more. No program is named here.
-/
import Derived.Test.YtlebimolgienkaaT05
import Derived.Test.YtlebimolgienkaaT04
import Derived.Test.YtlebimolgienkaaT03
import Derived.Test.YtlebimolgienkaaT02
namespace Go.Proofs.Ytlebimolgienkaa
open Go.RowKit Go.Lib

theorem KeptBut.of_grown {w w' : World} {row : Option Nat} (hg : w.grownBy w' row) : KeptBut (fun k => some k = row) w w' := ⟨hg.os, hg.tape, hg.output, hg.size, fun k hk hn => hg.block k hk hn⟩
theorem kept_alloc (w : World) (o : Obj) (S : Nat → Prop) : KeptBut S w (w.alloc o) := (KeptBut.of_below ((Below.refl w.heap.size w).alloc (Nat.le_refl _) o)).mono (fun k hk hs => absurd hs (by omega))
theorem KeptBut.of_whole {w w' : World} (S : Nat → Prop) (h : Below w.heap.size w w') : KeptBut S w w' := (KeptBut.of_below h).mono (fun k hk hs => absurd hs (by omega))
theorem IAt.kept {S : Nat → Prop} {w w' : World} {a : Option Addr} {xs : List Int} (h : IAt w a xs) (hk : KeptBut S w w') (hs : ∀ g off, a = some ⟨g, off, none⟩ → 0 < xs.length → ¬ S g) : IAt w' a xs := fun h0 => by
  obtain ⟨g, off, ha, hg, hc⟩ := h h0
  exact ⟨g, off, ha, Nat.lt_of_lt_of_le hg hk.size, fun k hk' => (hk.cell (p := ⟨g, off + k, none⟩) hg (hs g off ha h0)).trans (hc k hk')⟩
theorem own_kept {S : Nat → Prop} {w w' : World} {base : Nat} {e : TypeId} {size : Nat} {v : Value} {n : Nat} {xs : List Value} (h : w.ownsRow base e size v n xs) (hk : KeptBut S w w') (hs : ∀ g, v.ownBlock = some g → ¬ S g) : w'.ownsRow base e size v n xs := by
  refine ⟨h.1, ?_⟩
  rcases h.2 with h2 | ⟨g, cap, cur, hv, hg, hgc, r⟩
  · exact Or.inl h2
  · exact Or.inr ⟨g, cap, cur, hv, hg, (hk.block g (Array.getElem?_eq_some_iff.1 hgc).1 (hs g (by rw [hv]; rfl))).trans hgc, r⟩

/-- A list of rows in memory. -/
def LLAt (w : World) (a : Option Addr) (LL : List (List Int)) : Prop :=
  0 < LL.length → ∃ g off, a = some ⟨g, off, none⟩ ∧ g < w.heap.size ∧ ∀ k (hk : k < LL.length), ∃ ak ck, w.cell? ⟨g, off + k, none⟩ = some (.slice ak LL[k].length ck) ∧ IAt w ak LL[k]
theorem llat_nil (w : World) (a : Option Addr) : LLAt w a [] := fun h => absurd h (by simp)
theorem LLAt.below {w w' : World} {a : Option Addr} {LL : List (List Int)} (h : LLAt w a LL) (hb : Below w.heap.size w w') : LLAt w' a LL := fun h0 => by
  obtain ⟨g, off, ha, hg, hc⟩ := h h0
  refine ⟨g, off, ha, Nat.lt_of_lt_of_le hg hb.size, fun k hk => ?_⟩
  obtain ⟨ak, ck, h1, h2⟩ := hc k hk
  exact ⟨ak, ck, (hb.cell (p := ⟨g, off + k, none⟩) hg).trans h1, h2.below hb⟩
theorem LLAt.at {w : World} {a : Option Addr} {LL : List (List Int)} (h : LLAt w a LL) {k : Nat} (hk : k < LL.length) : ∃ g off ak ck, a = some ⟨g, off, none⟩ ∧ w.cell? ⟨g, off + k, none⟩ = some (.slice ak LL[k].length ck) ∧ IAt w ak LL[k] := by
  obtain ⟨g, off, ha, hg, hc⟩ := h (by omega)
  obtain ⟨ak, ck, h1, h2⟩ := hc k hk
  exact ⟨g, off, ak, ck, ha, h1, h2⟩

/-- A list of rows of the call's own: the headers in one block, the rows in others, all of them in blocks of A. -/
def LLOwn (w : World) (base : Nat) (A : Nat → Prop) (v : Value) (us : List Value) (LL : List (List Int)) : Prop :=
  w.ownsRow base 28 1 v LL.length us ∧ us.length = LL.length ∧ (∀ g, v.ownBlock = some g → A g) ∧
    ∀ k (hk : k < LL.length), ∃ ak ck, us[k]? = some (.slice ak LL[k].length ck) ∧ IAt w ak LL[k] ∧ ∀ g off, ak = some ⟨g, off, none⟩ → 0 < LL[k].length → A g ∧ v.ownBlock ≠ some g
theorem LLOwn.kept {S A : Nat → Prop} {w w' : World} {base : Nat} {v : Value} {us : List Value} {LL : List (List Int)} (h : LLOwn w base A v us LL) (hk : KeptBut S w w') (hs : ∀ k, A k → k < w.heap.size → ¬ S k) : LLOwn w' base A v us LL := by
  refine ⟨own_kept h.1 hk (fun g hg => hs g (h.2.2.1 g hg) (h.1.lt g hg).2), h.2.1, h.2.2.1, fun k hk' => ?_⟩
  obtain ⟨ak, ck, h1, h2, h3⟩ := h.2.2.2 k hk'
  exact ⟨ak, ck, h1, h2.kept hk (fun g off ha h0 => hs g (h3 g off ha h0).1 (by
    obtain ⟨g', off', ha', hg', _⟩ := h2 h0
    rw [ha] at ha'
    cases ha'
    exact hg')), h3⟩
theorem LLOwn.below {A : Nat → Prop} {w w' : World} {base : Nat} {v : Value} {us : List Value} {LL : List (List Int)} (h : LLOwn w base A v us LL) (hb : Below w.heap.size w w') : LLOwn w' base A v us LL :=
  h.kept (KeptBut.of_whole (fun _ => False) hb) (fun _ _ _ e => e)
theorem LLOwn.put {A : Nat → Prop} {w w4 : World} {base : Nat} {v v4 : Value} {us : List Value} {LL : List (List Int)} {L : List Int} {ar : Option Addr} {cr : Nat} {X : Obj} (h : LLOwn w base A v us LL) (hI : IAt w ar L)
    (hA : ∀ g off, ar = some ⟨g, off, none⟩ → 0 < L.length → A g ∧ v.ownBlock ≠ some g) (hnew : A (w.alloc X).heap.size)
    (ho : w4.ownsRow base 28 1 v4 (LL.length + 1) (us ++ [.slice ar L.length cr])) (hg : (w.alloc X).grownBy w4 v.ownBlock) (hat : v4.ownBlock = v.ownBlock ∨ v4.ownBlock = some (w.alloc X).heap.size) :
    LLOwn w4 base A v4 (us ++ [.slice ar L.length cr]) (LL ++ [L]) := by
  have hk : KeptBut (fun k => some k = v.ownBlock) w w4 := (kept_alloc w X _).trans (KeptBut.of_grown hg)
  have hs : (w.alloc X).heap.size = w.heap.size + 1 := by simp
  have hne : ∀ g, g < w.heap.size → v.ownBlock ≠ some g → v4.ownBlock ≠ some g := fun g h1 h2 e => by
    rcases hat with h3 | h3
    · exact h2 (h3.symm.trans e)
    · rw [h3, hs] at e; simp only [Option.some.injEq] at e; omega
  refine ⟨by rw [List.length_append]; exact ho, by simp [h.2.1], fun g e => ?_, fun k hk' => ?_⟩
  · rcases hat with h3 | h3
    · exact h.2.2.1 g (h3.symm.trans e)
    · rw [h3] at e; simp only [Option.some.injEq] at e; rw [← e]; exact hnew
  · by_cases hlt : k < LL.length
    · obtain ⟨ak, ck, h1, h2, h3⟩ := h.2.2.2 k hlt
      have e1 : (LL ++ [L])[k] = LL[k] := List.getElem_append_left hlt
      rw [e1]
      refine ⟨ak, ck, by rw [List.getElem?_append_left (by rw [h.2.1]; exact hlt)]; exact h1, h2.kept hk (fun g off ha h0 e => (h3 g off ha h0).2 e.symm), fun g off ha h0 => ⟨(h3 g off ha h0).1, hne g ?_ (h3 g off ha h0).2⟩⟩
      obtain ⟨g', off', ha', hg', _⟩ := h2 h0
      rw [ha] at ha'
      cases ha'
      exact hg'
    · obtain rfl : k = LL.length := by simp at hk'; omega
      have e1 : (LL ++ [L])[LL.length] = L := by simp
      rw [e1]
      refine ⟨ar, cr, by rw [← h.2.1]; simp, hI.kept hk (fun g off ha h0 e => (hA g off ha h0).2 e.symm), fun g off ha h0 => ⟨(hA g off ha h0).1, hne g ?_ (hA g off ha h0).2⟩⟩
      obtain ⟨g', off', ha', hg', _⟩ := hI h0
      rw [ha] at ha'
      cases ha'
      exact hg'
theorem LLOwn.at {A : Nat → Prop} {w : World} {base : Nat} {v : Value} {us : List Value} {LL : List (List Int)} (h : LLOwn w base A v us LL) : ∃ a cap, v = .slice a LL.length cap ∧ Sl a cap LL.length ∧ LLAt w a LL := by
  obtain ⟨a, cap, hv, hsl⟩ := sl_own h.1
  refine ⟨a, cap, hv, hsl, fun h0 => ?_⟩
  obtain ⟨g, cap', hv', hb, hg, hc, hcs⟩ := own_row h.1 h0
  rw [hv] at hv'
  simp only [Value.slice.injEq, true_and] at hv'
  refine ⟨g, 0, hv'.1, hg, fun k hk => ?_⟩
  obtain ⟨ak, ck, h1, h2, _⟩ := h.2.2.2 k hk
  exact ⟨ak, ck, by rw [Nat.zero_add]; exact hcs k _ h1, h2⟩

theorem boolR_of (p : Prop) : ∃ r : Bool, r = true ↔ p := by
  by_cases h : p
  · exact ⟨true, ⟨fun _ => h, fun _ => rfl⟩⟩
  · exact ⟨false, ⟨fun h' => (by cases h'), fun h' => absurd h' h⟩⟩
theorem llsame_upto {LL MM : List (List Int)} (hl : LL.length = MM.length) (h : ∀ j (h1 : j < LL.length) (h2 : j < MM.length), LL[j] = MM[j]) : LL = MM := List.ext_getElem hl h

set_option maxHeartbeats 2000000 in
set_option maxRecDepth 100000 in
theorem sameRows_any (a1 a2 : Option Addr) (c1 c2 : Nat) (LL MM : List (List Int)) (r : Bool) (w : World) (hN : LL.length ≤ 1000000) (hR : ∀ L ∈ LL, L.length ≤ 1000000) (h1 : LLAt w a1 LL) (h2 : LLAt w a2 MM) (hr : r = true ↔ LL = MM) :
    Calls Try.prog 17 #[.slice a1 LL.length c1, .slice a2 MM.length c2] w fun e w' => e = .returned (.bool r) ∧ Below w.heap.size w w' := by
  have H1 := hid h1
  have H2 := hid h2
  have HR := hid hr
  have HRR := hid hR
  obtain ⟨N, hNe⟩ := ex_eq LL.length
  obtain ⟨M, hMe⟩ := ex_eq MM.length
  have HN := hid hNe
  have HM := hid hMe
  rw [← hNe] at hN ⊢
  rw [← hMe]
  clear h1 h2 hr hNe hMe hR
  by_cases hl : N = M
  · subst hl
    go_enter Try.func17, Try.ntmps17
    go_wp2
    go_loopg [5] N (fun G i wz => ∃ k : Nat, k ≤ N ∧ N - k ≤ G ∧ i = .int .i64 k ∧ Hid (∀ j (h1 : j < LL.length) (h2 : j < MM.length), j < k → LL[j] = MM[j]) ∧ Below w.heap.size w wz)
    case atStart => exact ⟨0, Nat.zero_le _, by omega, rfl, fun j _ _ h => absurd h (by omega), Below.refl _ _⟩
    case round =>
      obtain ⟨k, hk, hG, rfl, heq, hbr⟩ := hrel
      by_cases hlt : k < N
      · have k1 : k < LL.length := by rw [← HN.out]; exact hlt
        have k2 : k < MM.length := by rw [← HM.out]; exact hlt
        obtain ⟨g1, o1, x1, y1, rfl, d1, i1⟩ := (H1.out.below hbr).at k1
        obtain ⟨g2, o2, x2, y2, rfl, d2, i2⟩ := (H2.out.below hbr).at k2
        obtain ⟨s, hs⟩ := boolR_of (LL[k] = MM[k])
        have CS : Hid (∀ W, Below w.heap.size w W → IAt W x1 LL[k] → IAt W x2 MM[k] → Calls Try.prog 16 #[.slice x1 LL[k].length y1, .slice x2 MM[k].length y2] W fun e w' => e = .returned (.bool s) ∧ Below W.heap.size W w') := fun W _ e1 e2 => same_any x1 x2 y1 y2 _ _ s W (HRR.out _ (List.getElem_mem _)) e1 e2 hs
        obtain ⟨n1, hn1⟩ := ex_eq LL[k].length
        obtain ⟨n2, hn2⟩ := ex_eq MM[k].length
        rw [← hn1] at d1
        rw [← hn2] at d2
        have CQ : Hid (Calls Try.prog 16 #[.slice x1 n1 y1, .slice x2 n2 y2] wr.drew fun e w' => e = .returned (.bool s) ∧ Below wr.heap.size wr.drew w') := by
          show Calls _ _ _ _ _
          rw [hn1, hn2]
          exact CS.out wr.drew hbr.drew i1 i2
        have q1 : (k : Int) < (N : Int) := by omega
        have HS := hid hs
        have hS := hid2 (show wr.drew.cell? ⟨g1, o1 + k, none⟩ = some (.slice x1 n1 y1) from d1) (show wr.drew.cell? ⟨g2, o2 + k, none⟩ = some (.slice x2 n2 y2) from d2)
        have HKP : Hid (∀ W, Below wr.heap.size wr.drew W → (W.cell? ⟨g1, o1 + k, none⟩ = some (.slice x1 n1 y1) ∧ W.cell? ⟨g2, o2 + k, none⟩ = some (.slice x2 n2 y2)) ∧ Below w.heap.size w W) := fun W h =>
          ⟨⟨(h.cell (p := ⟨g1, o1 + k, none⟩) (block_lt_of_cell d1)).trans d1, (h.cell (p := ⟨g2, o2 + k, none⟩) (block_lt_of_cell d2)).trans d2⟩, hbr.drew.trans (h.mono hbr.size)⟩
        clear hs hn1 hn2 i1 i2 CS
        cases s with
        | true =>
          have HEQ : Hid (∀ j (h1 : j < LL.length) (h2 : j < MM.length), j < k + 1 → LL[j] = MM[j]) := fun j h1 h2 hj => by
            by_cases e : j < k
            · exact heq.out j h1 h2 e
            · obtain rfl : j = k := by omega
              exact HS.out.1 rfl
          go_wp2_with fail
          go_region_held3 (fun X => X.cell? ⟨g1, o1 + k, none⟩ = some (.slice x1 n1 y1) ∧ X.cell? ⟨g2, o2 + k, none⟩ = some (.slice x2 n2 y2)) (first | exact hS | exact hS7)
            (first | (go_at_call 16; refine CQ.out.mono ?_; rintro e w7 ⟨rfl, hb7⟩; obtain ⟨hS7, hb8⟩ := HKP.out w7 hb7))
          all_goals
            clear hS hS7 hb7 HKP CQ d1 d2
            go_wp2
            go_roundg (N - (k + 1))
            case measure => omega
            case rel => exact ⟨k + 1, by omega, Nat.le_refl _, by go_num, HEQ, hb8⟩
        | false =>
          obtain rfl : r = false := b_false HR.out (fun e => by subst e; have := HS.out.2 rfl; cases this)
          clear HR
          go_wp2_with fail
          go_region_held3 (fun X => X.cell? ⟨g1, o1 + k, none⟩ = some (.slice x1 n1 y1) ∧ X.cell? ⟨g2, o2 + k, none⟩ = some (.slice x2 n2 y2)) (first | exact hS | exact hS7)
            (first | (go_at_call 16; refine CQ.out.mono ?_; rintro e w7 ⟨rfl, hb7⟩; obtain ⟨hS7, hb8⟩ := HKP.out w7 hb7))
          all_goals
            clear hS hS7 hb7 HKP CQ d1 d2
            go_wp2
            go_ret
            exact ⟨rfl, hb8⟩
      · obtain rfl : k = N := by omega
        obtain rfl : r = true := HR.out.2 (llsame_upto (by rw [← HN.out, ← HM.out]) (fun j h1 h2 => heq.out j h1 h2 (by rw [HN.out]; exact h1)))
        clear HR
        go_wp2
        go_ret
        exact ⟨rfl, hbr⟩
  · obtain rfl : r = false := b_false HR.out (fun e => hl (by rw [HN.out, HM.out, e]))
    have hq : ((N : Int) == (M : Int)) = false := beq_eq_false_iff_ne.2 (by omega)
    clear HR hl
    go_enter Try.func17, Try.ntmps17
    go_wp2
    go_ret
    exact ⟨rfl, Below.refl _ _⟩
end Go.Proofs.Ytlebimolgienkaa
namespace Go.Proofs.Ytlebimolgienkaa
open Go.RowKit Go.Lib

theorem news_one {w : World} {x : Value} {T : TypeId} (n : Nat × Nat) : ∀ p, some (⟨w.heap.size, 0, none⟩ : Addr) = some p → ∀ j u, [x][j]? = some u → (w.alloc (.cells #[x] T n)).cell? (p.add j) = some u := fun p hp => by
  cases hp
  intro j u hu
  match j, hu with
  | 0, hu => cases hu; rw [add_at]; exact cell_of_heap (heap_alloc_new w _) 0
  | j + 1, hu => simp at hu
end Go.Proofs.Ytlebimolgienkaa
namespace Go.Proofs.Ytlebimolgienkaa

/-- The edges of a graph as pairs of numbers. -/
def prsN (es : List (Int × Int)) : List (Nat × Nat) := es.map (fun e => (e.1.toNat, e.2.toNat))
theorem prsN_in {n : Nat} {es : List (Int × Int)} (h : RightG n es) : PairsIn n (prsN es) := fun e he => by
  obtain ⟨x, hx, rfl⟩ := List.mem_map.1 he
  have := h.2.2.2.1 x hx
  simp only
  omega
theorem mem_prsN {n : Nat} {es : List (Int × Int)} (h : RightG n es) {a b : Nat} : (a, b) ∈ prsN es ↔ ((a : Int), (b : Int)) ∈ es := by
  unfold prsN
  rw [List.mem_map]
  constructor
  · rintro ⟨x, hx, e⟩
    have := h.2.2.2.1 x hx
    simp only [Prod.mk.injEq] at e
    have e2 : x = ((a : Int), (b : Int)) := Prod.ext (by simp; omega) (by simp; omega)
    rw [← e2]; exact hx
  · intro hx; exact ⟨_, hx, by simp⟩
/-- There are classes to each row of pairs. -/
theorem tells_rev {n : Nat} : ∀ (Q : List (Nat × Nat)), PairsIn n Q.reverse → ∃ f, Pt n f ∧ Tells n f Q.reverse
  | [], _ => ⟨_, pt_new n, tells_new n⟩
  | e :: Q, h => by
    rw [List.reverse_cons] at h ⊢
    obtain ⟨f, hf, ht⟩ := tells_rev Q (fun x hx => h x (List.mem_append_left _ hx))
    have he := h e (by simp)
    exact ⟨_, hf.join he.1 he.2, tells_join ht (fun x hx => h x (List.mem_append_left _ hx)) he.1 he.2⟩
theorem tells_ex {n : Nat} (P : List (Nat × Nat)) (h : PairsIn n P) : ∃ f, Pt n f ∧ Tells n f P := by
  have := tells_rev P.reverse (by rw [List.reverse_reverse]; exact h)
  rwa [List.reverse_reverse] at this
/-- What has been reached from m. -/
structure Bfs (n : Nat) (f : Nat → Nat) (m : Nat) (ls : List Int) : Prop where
  nd : ls.Nodup
  all : ∀ x ∈ ls, ∃ u : Nat, x = u ∧ u < n ∧ f u = m
  has : (m : Int) ∈ ls
theorem Bfs.put {n : Nat} {f : Nat → Nat} {m : Nat} {ls : List Int} (h : Bfs n f m ls) {u : Nat} (hu : u < n) (hf : f u = m) (hn : (u : Int) ∉ ls) : Bfs n f m (ls ++ [(u : Int)]) := by
  refine ⟨?_, fun x hx => ?_, by simp [h.has]⟩
  · rw [List.nodup_append]
    refine ⟨h.nd, by simp, fun a ha b hb => ?_⟩
    simp at hb
    subst hb
    intro e
    subst e
    exact hn ha
  · rcases List.mem_append.1 hx with hx | hx
    · exact h.all x hx
    · simp at hx; exact ⟨u, hx, hu, hf⟩
theorem len_le_of_subI {a b : List Int} (h : a.Nodup) (hs : ∀ e ∈ a, e ∈ b) : a.length ≤ b.length := by
  induction a generalizing b with
  | nil => simp
  | cons x a ih =>
    have hx := hs x (by simp)
    have hnd := List.nodup_cons.1 h
    have := ih (b := b.erase x) hnd.2 (fun e he => by
      refine (List.mem_erase_of_ne ?_).2 (hs e (by simp [he]))
      rintro rfl
      exact hnd.1 he)
    rw [List.length_erase_of_mem hx] at this
    have : 0 < b.length := List.length_pos_of_mem hx
    simp; omega
theorem Bfs.len {n : Nat} {f : Nat → Nat} {m : Nat} {ls : List Int} (h : Bfs n f m ls) : ls.length ≤ n := by
  have := len_le_of_subI (b := upto n) h.nd (fun x hx => by
    obtain ⟨u, rfl, hu, _⟩ := h.all x hx
    unfold upto
    exact List.mem_map.2 ⟨u, by simpa using hu, rfl⟩)
  rwa [upto_len] at this
/-- The neighbours of the first i are reached. -/
def ClosedTo (es : List (Int × Int)) (ls : List Int) (i : Nat) : Prop := ∀ j (h : j < ls.length), j < i → ∀ y ∈ nbL ls[j] es, y ∈ ls
theorem ClosedTo.put {es : List (Int × Int)} {ls : List Int} {i : Nat} (h : ClosedTo es ls i) (hi : i ≤ ls.length) (x : Int) : ClosedTo es (ls ++ [x]) i := fun j hj hji y hy => by
  have hj' : j < ls.length := by omega
  have e : (ls ++ [x])[j] = ls[j] := List.getElem_append_left hj'
  rw [e] at hy
  exact List.mem_append_left _ (h j hj' hji y hy)
theorem ClosedTo.next {es : List (Int × Int)} {ls : List Int} {i : Nat} (h : ClosedTo es ls i) {x : Int} (hx : ls[i]? = some x) (hn : ∀ y ∈ nbL x es, y ∈ ls) : ClosedTo es ls (i + 1) := fun j hj hji y hy => by
  by_cases e : j < i
  · exact h j hj e y hy
  · obtain rfl : j = i := by omega
    rw [List.getElem?_eq_getElem hj] at hx
    cases hx
    exact hn y hy
end Go.Proofs.Ytlebimolgienkaa
namespace Go.Proofs.Ytlebimolgienkaa

theorem Links.take {es : List (Int × Int)} {p : List Int} (h : Links es p) (k : Nat) : Links es (p.take k) := fun i hi => by
  rw [List.length_take] at hi
  rw [List.getElem_take, List.getElem_take]
  exact h i (by omega)
theorem Links.drop {es : List (Int × Int)} {p : List Int} (h : Links es p) (k : Nat) : Links es (p.drop k) := fun i hi => by
  rw [List.length_drop] at hi
  rw [List.getElem_drop, List.getElem_drop]
  exact h (k + i) (by omega)
theorem Links.append {es : List (Int × Int)} {p q : List Int} (h : Links es p) (k : Links es q) (hj : ∀ (h1 : 0 < p.length) (h2 : 0 < q.length), Adj es (p[p.length - 1]'(by omega)) q[0]) : Links es (p ++ q) := fun i hi => by
  rw [List.length_append] at hi
  by_cases h1 : i + 1 < p.length
  · rw [List.getElem_append_left (by omega), List.getElem_append_left h1]
    exact h i h1
  · by_cases h2 : i < p.length
    · rw [List.getElem_append_left h2, List.getElem_append_right (by omega)]
      have := hj (by omega) (by omega)
      obtain rfl : i = p.length - 1 := by omega
      simp only [show p.length - 1 + 1 - p.length = 0 by omega]
      exact this
    · rw [List.getElem_append_right (by omega), List.getElem_append_right (by omega)]
      have := k (i - p.length) (by omega)
      simp only [show i + 1 - p.length = i - p.length + 1 by omega]
      exact this
theorem Links.reverse {es : List (Int × Int)} {p : List Int} (h : Links es p) : Links es p.reverse := fun i hi => by
  rw [List.length_reverse] at hi
  rw [List.getElem_reverse, List.getElem_reverse]
  have := h (p.length - 1 - (i + 1)) (by omega)
  simp only [show p.length - 1 - (i + 1) + 1 = p.length - 1 - i by omega] at this
  exact this.symm
theorem PathL.take {n : Int} {es : List (Int × Int)} {p : List Int} (h : PathL n es p) {k : Nat} (hk : 0 < k) : PathL n es (p.take k) :=
  ⟨fun e => by have h1 : (p.take k).length = 0 := by { rw [e]; rfl }; rw [List.length_take] at h1; have := h.pos; omega, List.Sublist.nodup (List.take_sublist _ _) h.nd, fun x hx => h.inn x (List.mem_of_mem_take hx), h.lk.take k⟩
theorem PathL.drop {n : Int} {es : List (Int × Int)} {p : List Int} (h : PathL n es p) {k : Nat} (hk : k < p.length) : PathL n es (p.drop k) :=
  ⟨fun e => by have := congrArg List.length e; rw [List.length_drop] at this; simp at this; omega, List.Sublist.nodup (List.drop_sublist _ _) h.nd, fun x hx => h.inn x (List.mem_of_mem_drop hx), h.lk.drop k⟩
theorem PathL.reverse {n : Int} {es : List (Int × Int)} {p : List Int} (h : PathL n es p) : PathL n es p.reverse :=
  ⟨fun e => h.ne (List.reverse_eq_nil_iff.1 e), List.pairwise_reverse.2 (List.Pairwise.imp (fun h => Ne.symm h) h.nd), fun x hx => h.inn x (List.mem_reverse.1 hx), h.lk.reverse⟩
theorem head_at {p : List Int} {x : Int} (h : p.head? = some x) : ∃ h0 : 0 < p.length, p[0] = x := by
  cases p with
  | nil => simp at h
  | cons y l => simp at h; exact ⟨by simp, h⟩
theorem last_at {p : List Int} {x : Int} (h : p.getLast? = some x) : ∃ h0 : 0 < p.length, p[p.length - 1] = x := by
  cases hp : p with
  | nil => rw [hp] at h; simp at h
  | cons y l =>
    rw [List.getLast?_eq_getElem?] at h
    have h0 : 0 < p.length := by rw [hp]; simp
    rw [List.getElem?_eq_getElem (by omega)] at h
    cases h
    subst hp
    exact ⟨h0, rfl⟩
theorem at_last {p : List Int} (h0 : 0 < p.length) : p.getLast? = some (p[p.length - 1]'(by omega)) := by
  rw [List.getLast?_eq_getElem?, List.getElem?_eq_getElem (by omega)]
/-- A path from x to y, by vertices with Q alone. -/
def Pth (n : Int) (es : List (Int × Int)) (Q : Int → Prop) (x y : Int) : Prop := ∃ p, PathL n es p ∧ p.head? = some x ∧ p.getLast? = some y ∧ ∀ z ∈ p, Q z
theorem pth_self {n : Int} {es : List (Int × Int)} {Q : Int → Prop} {x : Int} (h : 0 ≤ x ∧ x < n) (hQ : Q x) : Pth n es Q x x :=
  ⟨[x], ⟨by simp, by simp, fun z hz => by simp at hz; subst hz; exact h, fun i hi => absurd hi (by simp)⟩, rfl, rfl, fun z hz => by simp at hz; subst hz; exact hQ⟩
theorem Pth.step {n : Int} {es : List (Int × Int)} {Q : Int → Prop} {x u v : Int} (hR : RightG n es) (h : Pth n es Q x u) (ha : Adj es u v) (hQ : Q v) : Pth n es Q x v := by
  obtain ⟨p, hp, h1, h2, h3⟩ := h
  obtain ⟨_, hv, _⟩ := ha.in hR
  by_cases hm : v ∈ p
  · obtain ⟨i, hi, rfl⟩ := List.getElem_of_mem hm
    refine ⟨p.take (i + 1), hp.take (by omega), ?_, ?_, fun z hz => h3 z (List.mem_of_mem_take hz)⟩
    · rw [List.head?_take, if_neg (by omega)]; exact h1
    · have hl : (p.take (i + 1)).length = i + 1 := by rw [List.length_take]; omega
      rw [at_last (by omega)]
      simp [hl]
  · obtain ⟨h0, hl⟩ := last_at h2
    refine ⟨p ++ [v], ⟨by simp, List.nodup_append.2 ⟨hp.nd, by simp, fun a ha' b hb => by simp at hb; subst hb; exact fun e => hm (e ▸ ha')⟩, fun z hz => ?_, hp.lk.append (fun i hi => absurd hi (by simp)) (fun _ _ => ?_)⟩, ?_, by simp, fun z hz => ?_⟩
    · rcases List.mem_append.1 hz with hz | hz
      · exact hp.inn z hz
      · simp at hz; subst hz; exact hv
    · rw [hl]; exact ha
    · rw [List.head?_append, h1]; rfl
    · rcases List.mem_append.1 hz with hz | hz
      · exact h3 z hz
      · simp at hz; subst hz; exact hQ
theorem adj_same {n : Nat} {es : List (Int × Int)} {f : Nat → Nat} (hR : RightG n es) (hT : Tells n f (prsN es)) {x y : Int} (h : Adj es x y) : f x.toNat = f y.toNat := by
  have hin := h.in hR
  obtain ⟨a, rfl⟩ : ∃ a : Nat, x = a := ⟨x.toNat, by omega⟩
  obtain ⟨b, rfl⟩ : ∃ b : Nat, y = b := ⟨y.toNat, by omega⟩
  rw [Int.toNat_natCast, Int.toNat_natCast]
  refine (hT a b (by omega) (by omega)).2 ?_
  rcases h with h | h
  · exact Cl.of (e := (a, b)) ((mem_prsN hR).2 h)
  · exact (Cl.of (e := (b, a)) ((mem_prsN hR).2 h)).symm
theorem path_same {n : Nat} {es : List (Int × Int)} {f : Nat → Nat} (hR : RightG n es) (hT : Tells n f (prsN es)) {p : List Int} (hp : Links es p) : ∀ i (h : i < p.length), f (p[i]).toNat = f (p[0]'(by omega)).toNat
  | 0, _ => rfl
  | i + 1, h => (adj_same hR hT (hp i h)).symm.trans (path_same hR hT hp i (by omega))
/-- Of one class just if there is a path. -/
theorem pth_cl {n : Nat} {es : List (Int × Int)} {f : Nat → Nat} (hR : RightG n es) (hT : Tells n f (prsN es)) {a b : Nat} (ha : a < n) (hb : b < n) : f a = f b ↔ Pth n es (fun _ => True) a b := by
  constructor
  · intro e
    have hc := (hT a b ha hb).1 e
    have := hc (fun x y => ∀ s, Pth n es (fun _ => True) s (x : Int) ↔ Pth n es (fun _ => True) s (y : Int)) (fun _ _ => Iff.rfl) (fun _ _ h s => (h s).symm) (fun _ _ _ h k s => (h s).trans (k s)) (fun e he s => by
      have he' := (mem_prsN (a := e.1) (b := e.2) hR).1 he
      exact ⟨fun h => h.step hR (Or.inl he') trivial, fun h => h.step hR (Or.inr he') trivial⟩)
    exact (this a).1 (pth_self (by omega) trivial)
  · rintro ⟨p, hp, h1, h2, _⟩
    obtain ⟨h0, e1⟩ := head_at h1
    obtain ⟨_, e2⟩ := last_at h2
    have := path_same hR hT hp.lk (p.length - 1) (by omega)
    rw [e1, e2] at this
    simpa using this.symm
theorem rch_path {es : List (Int × Int)} {l p : List Int} (hp : Links es p) (hl : ∀ z ∈ p, z ∈ l) : ∀ i (h : i < p.length), Rch es l (p[0]'(by omega)) p[i]
  | 0, _ => Rch.refl _ _ _
  | i + 1, h => (rch_path hp hl i (by omega)).step (hp i h) (hl _ (List.getElem_mem h))
end Go.Proofs.Ytlebimolgienkaa
namespace Go.Proofs.Ytlebimolgienkaa

/-- One comes from x to y by edges that do not meet v. -/
def Av (es : List (Int × Int)) (v x y : Int) : Prop := ∀ S : Int → Prop, S x → (∀ u w, S u → Adj es u w → u ≠ v → w ≠ v → S w) → S y
theorem Av.refl (es : List (Int × Int)) (v x : Int) : Av es v x x := fun _ h _ => h
theorem Av.trans {es : List (Int × Int)} {v x y z : Int} (h : Av es v x y) (k : Av es v y z) : Av es v x z := fun S h0 hs => k S (h S h0 hs) hs
theorem Av.step {es : List (Int × Int)} {v x u w : Int} (h : Av es v x u) (ha : Adj es u w) (hu : u ≠ v) (hw : w ≠ v) : Av es v x w := fun S h0 hs => hs u w (h S h0 hs) ha hu hw
theorem Av.one {es : List (Int × Int)} {v u w : Int} (ha : Adj es u w) (hu : u ≠ v) (hw : w ≠ v) : Av es v u w := (Av.refl es v u).step ha hu hw
theorem Av.symm {es : List (Int × Int)} {v x y : Int} (h : Av es v x y) : Av es v y x :=
  h (fun z => Av es v z x) (Av.refl _ _ _) (fun _ _ hu ha h1 h2 => (Av.one ha.symm h2 h1).trans hu)
/-- x is an end of e. -/
def End (e : Int × Int) (x : Int) : Prop := x = e.1 ∨ x = e.2
/-- Two edges belong together: no vertex parts them. -/
def Tog (es : List (Int × Int)) (e f : Int × Int) : Prop := ∀ v x y, End e x → End f y → x ≠ v → y ≠ v → Av es v x y
theorem Tog.symm {es : List (Int × Int)} {e f : Int × Int} (h : Tog es e f) : Tog es f e := fun v x y hx hy h1 h2 => (h v y x hy hx h2 h1).symm
theorem Tog.refl {es : List (Int × Int)} {e : Int × Int} (ha : Adj es e.1 e.2) : Tog es e e := fun v x y hx hy h1 h2 => by
  rcases hx with rfl | rfl <;> rcases hy with rfl | rfl
  · exact Av.refl _ _ _
  · exact Av.one ha h1 h2
  · exact Av.one ha.symm h1 h2
  · exact Av.refl _ _ _
theorem Tog.trans {es : List (Int × Int)} {e f g : Int × Int} (hne : f.1 ≠ f.2) (h : Tog es e f) (k : Tog es f g) : Tog es e g := fun v x y hx hy h1 h2 => by
  by_cases e1 : f.1 = v
  · have e2 : f.2 ≠ v := fun e => hne (e1.trans e.symm)
    exact (h v x f.2 hx (Or.inr rfl) h1 e2).trans (k v f.2 y (Or.inr rfl) hy e2 h2)
  · exact (h v x f.1 hx (Or.inl rfl) h1 e1).trans (k v f.1 y (Or.inl rfl) hy e1 h2)
theorem Tog.turn {es : List (Int × Int)} {a b : Int} {f : Int × Int} (h : Tog es (a, b) f) : Tog es (b, a) f := fun v x y hx hy h1 h2 => h v x y hx.symm hy h1 h2
/-- The vertices of the block of e. -/
def Bl (es : List (Int × Int)) (e : Int × Int) (x : Int) : Prop := ∃ f : Int × Int, Adj es f.1 f.2 ∧ Tog es e f ∧ End f x
theorem Bl.own {es : List (Int × Int)} {e : Int × Int} (ha : Adj es e.1 e.2) {x : Int} (hx : End e x) : Bl es e x := ⟨e, ha, Tog.refl ha, hx⟩
theorem Bl.av {es : List (Int × Int)} {e : Int × Int} {v p z : Int} (hz : Bl es e z) (hp : End e p) (h1 : p ≠ v) (h2 : z ≠ v) : Av es v p z := by
  obtain ⟨f, _, ht, hf⟩ := hz
  exact ht v p z hp hf h1 h2
theorem Bl.av2 {es : List (Int × Int)} {e : Int × Int} (hne : e.1 ≠ e.2) {v y z : Int} (hy : Bl es e y) (hz : Bl es e z) (h1 : y ≠ v) (h2 : z ≠ v) : Av es v y z := by
  by_cases e1 : e.1 = v
  · have e2 : e.2 ≠ v := fun k => hne (e1.trans k.symm)
    exact (hy.av (Or.inr rfl) e2 h1).symm.trans (hz.av (Or.inr rfl) e2 h2)
  · exact (hy.av (Or.inl rfl) e1 h1).symm.trans (hz.av (Or.inl rfl) e1 h2)
/-- Two blocks with two vertices in common are one. -/
theorem two_share {es : List (Int × Int)} {e f : Int × Int} {x y : Int} (hxy : x ≠ y) (h1 : Bl es e x) (h2 : Bl es e y) (h3 : Bl es f x) (h4 : Bl es f y) : Tog es e f := fun v p q hp hq k1 k2 => by
  by_cases e1 : x = v
  · have e2 : y ≠ v := fun k => hxy (e1.trans k.symm)
    exact (h2.av hp k1 e2).trans (h4.av hq k2 e2).symm
  · exact (h1.av hp k1 e1).trans (h3.av hq k2 e1).symm
theorem Bl.tog {es : List (Int × Int)} {e f : Int × Int} (he : e.1 ≠ e.2) (h : Tog es e f) {x : Int} (hx : Bl es e x) : Bl es f x := by
  obtain ⟨g, hg, ht, hend⟩ := hx
  exact ⟨g, hg, Tog.trans he h.symm ht, hend⟩
/-- An edge with both ends in a block is one of it. -/
theorem edge_in {es : List (Int × Int)} {e : Int × Int} {x y : Int} (ha : Adj es x y) (hxy : x ≠ y) (h1 : Bl es e x) (h2 : Bl es e y) : Tog es e (x, y) :=
  two_share hxy h1 h2 (Bl.own (e := (x, y)) ha (Or.inl rfl)) (Bl.own (e := (x, y)) ha (Or.inr rfl))
/-- A way that leaves a block's vertex, and comes to another one without going back, leaves by an edge of the block. -/
theorem leave_in {es : List (Int × Int)} {e : Int × Int} {x y z : Int} (hx : Bl es e x) (hy : Bl es e y) (hxy : y ≠ x) (ha : Adj es x z) (h : Av es x z y) : Tog es e (x, z) := fun v p q hp hq h1 h2 => by
  by_cases e1 : v = x
  · subst e1
    rcases hq with hq | hq
    · exact absurd hq h2
    · have hq' : q = z := hq
      subst hq'
      exact (hy.av hp h1 hxy).trans h.symm
  · have hx1 : x ≠ v := fun k => e1 k.symm
    have h3 := hx.av hp h1 hx1
    rcases hq with hq | hq
    · have hq' : q = x := hq
      subst hq'; exact h3
    · have hq' : q = z := hq
      subst hq'
      exact h3.step ha hx1 h2
/-- Edges at one vertex belong together just if their other ends do without it. -/
theorem tog_at {es : List (Int × Int)} {v x y : Int} (ha : Adj es v x) (hb : Adj es v y) (hx : x ≠ v) (hy : y ≠ v) : Tog es (v, x) (v, y) ↔ Av es v x y := by
  constructor
  · intro h
    exact h v x y (Or.inr rfl) (Or.inr rfl) hx hy
  · intro h u p q hp hq h1 h2
    by_cases e : v = u
    · subst e
      rcases hp with hp | hp
      · exact absurd hp h1
      · rcases hq with hq | hq
        · exact absurd hq h2
        · have e1 : p = x := hp
          have e2 : q = y := hq
          rw [e1, e2]; exact h
    · have h3 : Av es u p v := by
        rcases hp with hp | hp
        · have e1 : p = v := hp
          rw [e1]; exact Av.refl _ _ _
        · have e1 : p = x := hp
          subst e1
          exact Av.one ha.symm h1 e
      have h4 : Av es u q v := by
        rcases hq with hq | hq
        · have e1 : q = v := hq
          rw [e1]; exact Av.refl _ _ _
        · have e1 : q = y := hq
          subst e1
          exact Av.one hb.symm h2 e
      exact h3.trans h4.symm
/-- A path's later vertices are come to without its first one. -/
theorem path_av {es : List (Int × Int)} {x : Int} : ∀ {p : List Int}, Links es p → (∀ z ∈ p, z ≠ x) → ∀ i j (hi : i < p.length) (hj : j < p.length), Av es x p[i] p[j] := fun {p} hl hx => by
  have h0 : ∀ j (hj : j < p.length), Av es x (p[0]'(by omega)) p[j] := fun j => by
    induction j with
    | zero => intro hj; exact Av.refl _ _ _
    | succ j ih => intro hj; exact (ih (by omega)).step (hl j hj) (hx _ (List.getElem_mem _)) (hx _ (List.getElem_mem _))
  intro i j hi hj
  exact (h0 i hi).symm.trans (h0 j hj)
/-- A path between two vertices of a block stays in it. -/
theorem path_in {n : Int} {es : List (Int × Int)} {e : Int × Int} : ∀ {p : List Int}, PathL n es p → (∀ h : 0 < p.length, Bl es e p[0] ∧ Bl es e (p[p.length - 1]'(by omega))) → (∀ z ∈ p, Bl es e z) ∧ ∀ i (h : i + 1 < p.length), Tog es e (p[i]'(by omega), p[i + 1])
  | [], h, _ => absurd rfl h.ne
  | [x], _, hb => ⟨fun z hz => by simp at hz; subst hz; exact (hb (by simp)).1, fun i h => by simp at h⟩
  | x :: z :: p, h, hb => by
    have hlen : (x :: z :: p).length = p.length + 2 := rfl
    obtain ⟨b0, b1⟩ := hb (by simp)
    have hnd := h.nd
    rw [List.nodup_cons] at hnd
    have hx : ∀ u ∈ z :: p, u ≠ x := fun u hu k => hnd.1 (k ▸ hu)
    have hl2 : Links es (z :: p) := fun i hi => h.lk (i + 1) (by simp at hi ⊢; omega)
    have ha : Adj es x z := h.lk 0 (by simp)
    have hp2 : PathL n es (z :: p) := ⟨by simp, hnd.2, fun u hu => h.inn u (List.mem_cons_of_mem _ hu), hl2⟩
    have hlast : (x :: z :: p)[(x :: z :: p).length - 1]'(by simp) = (z :: p)[(z :: p).length - 1]'(by simp) := by
      simp only [List.length_cons, Nat.add_sub_cancel]
      rw [List.getElem_cons_succ]
    rw [hlast] at b1
    have hy : (z :: p)[(z :: p).length - 1]'(by simp) ≠ x := hx _ (List.getElem_mem _)
    have htog := leave_in (z := z) b0 b1 hy ha (path_av hl2 hx 0 _ (by simp) (by simp))
    have hz : Bl es e z := ⟨(x, z), ha, htog, Or.inr rfl⟩
    obtain ⟨r1, r2⟩ := path_in hp2 (fun _ => ⟨hz, b1⟩)
    refine ⟨fun u hu => ?_, fun i hi => ?_⟩
    · rcases List.mem_cons.1 hu with rfl | hu
      · exact b0
      · exact r1 u hu
    · cases i with
      | zero => exact htog
      | succ i => exact r2 i (by simp at hi ⊢; omega)
end Go.Proofs.Ytlebimolgienkaa
namespace Go.Proofs.Ytlebimolgienkaa

theorem av_pth {n : Int} {es : List (Int × Int)} {v x y : Int} (hR : RightG n es) (hx : 0 ≤ x ∧ x < n) (hxv : x ≠ v) (h : Av es v x y) : Pth n es (fun z => z ≠ v) x y :=
  h (fun z => Pth n es (fun z => z ≠ v) x z) (pth_self hx hxv) (fun _ _ hu ha _ hw => hu.step hR ha hw)
theorem Bl.in {n : Int} {es : List (Int × Int)} {e : Int × Int} {x : Int} (hR : RightG n es) (h : Bl es e x) : 0 ≤ x ∧ x < n := by
  obtain ⟨f, ha, _, hx⟩ := h
  have := ha.in hR
  rcases hx with rfl | rfl
  · exact this.1
  · exact this.2.1
/-- Two vertices of a block: a path between them lies in it. -/
theorem block_path {n : Int} {es : List (Int × Int)} {e : Int × Int} {v x y : Int} (hR : RightG n es) (hne : e.1 ≠ e.2) (hx : Bl es e x) (hy : Bl es e y) (h1 : x ≠ v) (h2 : y ≠ v) :
    ∃ p, PathL n es p ∧ p.head? = some x ∧ p.getLast? = some y ∧ (∀ z ∈ p, z ≠ v) ∧ (∀ z ∈ p, Bl es e z) ∧ ∀ i (h : i + 1 < p.length), Tog es e (p[i]'(by omega), p[i + 1]) := by
  obtain ⟨p, hp, e1, e2, e3⟩ := av_pth hR (hx.in hR) h1 (Bl.av2 hne hx hy h1 h2)
  obtain ⟨h0, f1⟩ := head_at e1
  obtain ⟨_, f2⟩ := last_at e2
  obtain ⟨r1, r2⟩ := path_in hp (fun _ => by rw [f1, f2]; exact ⟨hx, hy⟩)
  exact ⟨p, hp, e1, e2, e3, r1, r2⟩
/-- A block is whole, also without any one vertex. -/
theorem block_whole {n : Int} {es : List (Int × Int)} {e : Int × Int} {l : List Int} {v : Int} (hR : RightG n es) (hne : e.1 ≠ e.2) (hnd : l.Nodup) (h0 : 0 < l.length) (hl : ∀ x, x ∈ l ↔ Bl es e x ∧ x ≠ v) : WholeL n es l :=
  WholeL.of_head hnd (fun x hx => ((hl x).1 hx).1.in hR) h0 (fun y hy => by
    obtain ⟨a1, a2⟩ := (hl _).1 (List.getElem_mem h0)
    obtain ⟨b1, b2⟩ := (hl y).1 hy
    obtain ⟨p, hp, e1, e2, e3, e4, _⟩ := block_path hR hne a1 b1 a2 b2
    obtain ⟨k0, f1⟩ := head_at e1
    obtain ⟨_, f2⟩ := last_at e2
    have := rch_path hp.lk (l := l) (fun z hz => (hl z).2 ⟨e4 z hz, e3 z hz⟩) (p.length - 1) (by omega)
    rw [f1, f2] at this
    exact this)
/-- Edges of a greater graph that belong together in the lesser one do so in it. -/
theorem Tog.more {es fs : List (Int × Int)} (hs : ∀ x y, Adj es x y → Adj fs x y) {e f : Int × Int} (h : Tog es e f) : Tog fs e f := fun v x y hx hy h1 h2 S h0 hst => h v x y hx hy h1 h2 S h0 (fun u w hu ha k1 k2 => hst u w hu (hs u w ha) k1 k2)
end Go.Proofs.Ytlebimolgienkaa
