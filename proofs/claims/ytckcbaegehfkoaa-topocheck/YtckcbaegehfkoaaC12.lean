/-
  The program's IsPath and IsCycle keep their contracts.
  The document's Is, Same, Count and Join of layer 4.
  The document's Classes of layer 4.
  What is reached from a vertex: pure facts for the document's components. No program is named here.
  Paths: put together, cut off, turned round; components; what follows of routes. No program is named here.
  What follows of a route: its vertices' ways on are routes, it has no short cuts, turned round it is as long. No program is named here.
  How far off each vertex lies: what a search tells, and the least of the shortest ways by it. No program is named here.
-/
import Derived.Test.YtckcbaegehfkoaaC10
import Derived.Test.YtckcbaegehfkoaaC11
import Derived.Test.YtckcbaegehfkoaaC01
import Derived.BigQuiet
import Derived.Test.YtckcbaegehfkoaaC07
import Derived.Test.YtckcbaegehfkoaaC02
import Derived.Test.YtckcbaegehfkoaaC06
import Derived.Test.YtckcbaegehfkoaaC03
namespace Go.Proofs.Ytckcbaegehfkoaa
open Go.RowKit Go.Lib Go.Shelf

theorem contains_any (a : Option Addr) (cap : Nat) (L : List Int) (x : Int) (w : World) (hL : L.length ≤ 1000000) (hI : IAt w a L) :
    Calls Try.prog 72 #[.slice a L.length cap, .int .i64 x] w fun e w' => e = .returned (.bool (decide (x ∈ L))) ∧ w' = w := by
  by_cases h0 : 0 < L.length
  · obtain ⟨g, off, rfl, hg, hc⟩ := hI h0
    have h := Any.slices_Contains_int Try.contains g off L.length cap L x w (Nat.le_refl _) (by omega) (fun j hj => by
      rw [hc j hj]
      simp [List.getD, hj])
    change Calls Try.prog 72 _ _ _ at h
    rw [List.take_length] at h
    have e : L.contains x = decide (x ∈ L) := by
      rw [Bool.eq_iff_iff]; simp
    rw [e] at h
    exact h
  · have hn : L = [] := List.length_eq_zero_iff.1 (by omega)
    subst hn
    have h := Any.slices_Contains_int_empty Try.contains a cap x w
    change Calls Try.prog 72 _ _ _ at h
    simpa using h
theorem good_none {l : List Int} : ¬ GoodL ((0 : Nat) : Int) l := fun h => by
  cases l with
  | nil => exact h.1 rfl
  | cons x l => have := h.2.2 x (by simp); omega
/-- The first k steps are steps of a path. -/
def LinksTo (es : List (Int × Int)) (p : List Int) (k : Nat) : Prop := ∀ i (h : i + 1 < p.length), i < k → Adj es (p[i]'(by omega)) p[i + 1]

set_option maxHeartbeats 2000000 in
set_option maxRecDepth 100000 in
theorem path_any (n : Int) (a : Option Addr) (cap : Nat) (es : List (Int × Int)) (pa : Option Addr) (pc : Nat) (p : List Int) (b r : Bool) (w : World) (hN : es.length ≤ 1000000) (hP : p.length ≤ 1000000) (hE : EAt w a es) (hI : IAt w pa p) (hb : b = true ↔ RightG n es) (hr : r = true ↔ (RightG n es ∧ PathL n es p)) :
    Calls Try.prog 36 #[.agg #[.int .i64 n, .slice a es.length cap], .slice pa p.length pc] w fun e w' => e = .returned (.bool r) ∧ Below w.heap.size w w' := by
  obtain ⟨N, hNe⟩ := ex_eq es.length
  obtain ⟨M, hMe⟩ := ex_eq p.length
  obtain ⟨W, hW⟩ := ex_eq (w.alloc (.cells #[.int .i64 n, .slice a N cap] 30))
  have hbW : Below w.heap.size w W := by rw [hW]; exact (Below.refl _ _).alloc (Nat.le_refl _) _
  have hO : W.heap[w.heap.size]? = some (.cells #[.int .i64 n, .slice a N cap] 30 (0, 0)) := by rw [hW]; exact heap_alloc_new _ _
  have hsW : w.heap.size < W.heap.size := (Array.getElem?_eq_some_iff.1 hO).1
  have CN : Hid (Calls Try.prog 70 #[.agg #[.int .i64 n, .slice a N cap]] W fun e w' => ∃ v, e = .returned v ∧ NbIs n es b W w' v) := by
    rw [hNe]; exact neighb_any n a cap es b W hN (hE.below hbW) hb
  have CM : Hid (∀ (m : Nat) X, m ≤ 1000 → Below w.heap.size w X → Calls Try.prog 71 #[.int .i64 m, .slice pa M pc] X fun e w' => ∃ v, e = .returned v ∧ MarkIs m p X w' v) := fun m X hm hX => by
    rw [hMe]; exact marked_any m pa pc p X hm hP (hI.below hX)
  have HR := hid hr
  have HBB := hid hb
  have HM := hid hMe
  have HW := hid hW
  have HBW := hid hbW
  have HI := hid hI
  rw [← hMe] at hP ⊢
  rw [← hNe]
  clear hNe hMe hW hbW hO hE hI hb hr hN
  go_enter Try.func36, Try.ntmps36
  go_wp2_with fail
  rw [← HW.out]
  refine CN.out.mono ?_
  rintro e w1 ⟨v, rfl, hv⟩
  rcases hv with ⟨hb0, rfl, hb1⟩ | ⟨hb0, m, g, rfl, rfl, hgW, hnear, hb1⟩
  · have hbw1 : Below w.heap.size w w1 := HBW.out.trans (hb1.mono (by omega))
    obtain rfl : r = false := b_false HR.out (fun h => by have := HBB.out.2 h.1; rw [hb0] at this; cases this)
    have C0 := hid (CM.out 0 w1 (by omega) hbw1)
    have HB1 := hid hbw1
    clear CM CN hb1 hbw1 HR HBB
    go_wp2_with (go_at_call 71; refine C0.out.mono ?_; rintro e w2 ⟨v, rfl, hm⟩; rcases hm with ⟨hg, _⟩ | ⟨_, u, rfl, hb2⟩; exact absurd hg good_none)
    have HB2 := hid (HB1.out.trans (hb2.mono HB1.out.size))
    clear hb2
    go_wp2
    go_ret
    exact ⟨rfl, HB2.out⟩
  · have hRG := HBB.out.1 hb0
    have hm : m ≤ 1000 := by have := hRG.2.1; omega
    have hbw1 : Below w.heap.size w w1 := HBW.out.trans (hb1.mono (by omega))
    have HRG := hid hRG
    have HNA := hid hnear
    have C0 := hid (CM.out m w1 hm hbw1)
    have HB1 := hid hbw1
    clear CM CN hb1 hbw1 hnear hRG
    go_wp2_with fail
    refine C0.out.mono ?_
    rintro e w2 ⟨v, rfl, hmk⟩
    rcases hmk with ⟨hgood, g2, rfl, hg2, _, hb2⟩ | ⟨hbad, u, rfl, hb2⟩
    · have HB2 := hid (HB1.out.trans (hb2.mono HB1.out.size))
      have HN2 := hid (HNA.out.below hb2)
      have HGD := hid hgood
      have hM0 : 0 < M := by rw [HM.out]; exact List.length_pos_iff.2 hgood.1
      have HR2 : Hid (r = true ↔ LinksTo es p (M - 1)) := by
        show r = true ↔ _
        rw [HR.out]
        constructor
        · intro h i hi _
          exact h.2.lk i hi
        · intro h
          exact ⟨HRG.out, HGD.out.1, HGD.out.2.1, HGD.out.2.2, fun i hi => h i hi (by rw [HM.out]; omega)⟩
      have qs : IntKind.i64.wrap ((M : Int) - 1) = ((M - 1 : Nat) : Int) := by simp [IntKind.wrap, IntKind.bits, IntKind.signed]; omega
      clear hb2 HR hgood C0 HBB HNA HB1
      go_wp2
      go_loopg [23] M (fun G i wz => ∃ k : Nat, k ≤ M - 1 ∧ M - k ≤ G ∧ i = .int .i64 k ∧ Hid (LinksTo es p k) ∧ Hid (Below w2.heap.size w2 wz))
      case atStart => exact ⟨0, Nat.zero_le _, by omega, (by first | rfl | go_num), (fun i _ h => absurd h (by omega)), Below.refl _ _⟩
      case round =>
        obtain ⟨k, hk, hG, rfl, hlk, hbz⟩ := hrel
        by_cases hlt : k < M - 1
        · have hkr : k + 1 < p.length := by rw [← HM.out]; omega
          obtain ⟨gp, op, rfl, hgl, hcs⟩ := HI.out (by omega)
          have hbx : Below w.heap.size w wr := HB2.out.trans (hbz.out.mono HB2.out.size)
          have d0 := (hbx.cell (p := ⟨gp, op + k, none⟩) hgl).trans (hcs k (by omega))
          have d1 := (hbx.cell (p := ⟨gp, op + (k + 1), none⟩) hgl).trans (hcs (k + 1) hkr)
          have hin := HGD.out.2.2 _ (List.getElem_mem (show k < p.length by omega))
          obtain ⟨P, hPe⟩ : ∃ P : Nat, (P : Int) = p[k] := ⟨p[k].toNat, by omega⟩
          rw [← hPe] at d0 hin
          obtain ⟨y, hy⟩ := ex_eq p[k + 1]
          rw [← hy] at d1
          have hPm : P < m := by omega
          obtain ⟨aj, cj, a1, a2, a3⟩ := (HN2.out.below hbz.out).2 P hPm
          have hl : (nbL (P : Int) es).length ≤ 1000000 := Nat.le_trans (nbL_len _ _) (by have := HRG.out.2.2.1; omega)
          obtain ⟨c, hc⟩ := ex_eq (decide (y ∈ nbL (P : Int) es))
          have HC : Hid (∀ X, IAt X aj (nbL (P : Int) es) → Calls Try.prog 72 #[.slice aj (nbL (P : Int) es).length cj, .int .i64 y] X fun e w' => e = .returned (.bool c) ∧ w' = X) := fun X hX => by rw [hc]; exact contains_any aj cj _ y X hl hX
          obtain ⟨K, hK⟩ := ex_eq (nbL (P : Int) es).length
          rw [← hK] at a1 HC
          have HIA := hid a2
          have q1 : (k : Int) < ((M - 1 : Nat) : Int) := by omega
          have q2 : (k : Int) < (M : Int) := by omega
          have q3 : (P : Int) < (m : Int) := by omega
          have q4 : (k : Int) + 1 < (M : Int) := by omega
          have q5 : IntKind.i64.wrap ((k : Int) + 1) = ((k + 1 : Nat) : Int) := by simp [IntKind.wrap, IntKind.bits, IntKind.signed]; omega
          have q6 : ((k + 1 : Nat) : Int) < (M : Int) := by omega
          have HAD : Hid (c = true ↔ Adj es p[k] p[k + 1]) := by
            show _ ↔ _
            rw [hc, decide_eq_true_eq, hPe, hy]
            exact nbL_right HRG.out
          have HX : Hid (∀ q, Below w.heap.size w (wr.drewN q)) := fun q => below_drewN hbx q
          have HX2 : Hid (∀ q, Below w2.heap.size w2 (wr.drewN q)) := fun q => below_drewN hbz.out q
          have HKR : Hid (k + 1 < p.length) := hkr
          clear hc hK hPe hy hin hcs a2 a3 hl hbx
          cases c with
          | true =>
            have HLN : Hid (LinksTo es p (k + 1)) := fun i hi hik => by
              by_cases e : i < k
              · exact hlk.out i hi e
              · obtain rfl : i = k := by omega
                exact HAD.out.1 rfl
            clear HAD hlk
            go_wp2_with fail
            go_quiet (first | (go_at_call 72; refine Calls.quiet_of_same (HC.out _ HIA.out)))
            go_wp2
            go_roundg (M - (k + 1))
            case measure => omega
            case rel => exact ⟨k + 1, by omega, Nat.le_refl _, by go_num, HLN, HX2.out _⟩
          | false =>
            obtain rfl : r = false := b_false HR2.out (fun h => by
              have := HAD.out.2 (h k HKR.out (by omega))
              cases this)
            clear HAD hlk HR2
            go_wp2_with fail
            go_quiet (first | (go_at_call 72; refine Calls.quiet_of_same (HC.out _ HIA.out)))
            go_wp2
            go_ret
            exact ⟨rfl, HX.out _⟩
        · obtain rfl : k = M - 1 := by omega
          obtain rfl : r = true := HR2.out.2 hlk.out
          have HBX : Hid (Below w.heap.size w wr) := HB2.out.trans (hbz.out.mono HB2.out.size)
          clear HR2 hlk hbz
          go_wp2
          go_ret
          exact ⟨rfl, HBX.out⟩
    · have HB2 := hid (HB1.out.trans (hb2.mono HB1.out.size))
      obtain rfl : r = false := b_false HR.out (fun h => hbad ⟨h.2.ne, h.2.nd, h.2.inn⟩)
      clear hb2 HR hbad C0 HBB HNA HB1
      go_wp2
      go_ret
      exact ⟨rfl, HB2.out⟩
end Go.Proofs.Ytckcbaegehfkoaa
namespace Go.Proofs.Ytckcbaegehfkoaa
open Go.RowKit Go.Lib

theorem QAt.congr {w : World} {b g : Nat} {a : Option Addr} {n cap : Nat} {f f' : Nat → Nat} (h : QAt w b g a n cap f) (e : ∀ i, i < n → f i = f' i) : QAt w b g a n cap f' :=
  ⟨h.box, fun h0 => ⟨(h.row h0).1, (h.row h0).2.congr (fun j hj => by rw [e j hj])⟩, h.ne⟩
theorem QAt.put {w : World} {b g : Nat} {a : Option Addr} {n cap : Nat} {f : Nat → Nat} (h : QAt w b g a n cap f) {i : Nat} (hi : i < n) (x : Nat) : QAt (w.setCell ⟨g, i, none⟩ (.int .i64 x)) b g a n cap (fun j => if j = i then x else f j) := by
  refine ⟨?_, fun h0 => ⟨(h.row h0).1, ((h.row h0).2.put hi (x : Int)).congr (fun j _ => by by_cases e : j = i <;> simp [e])⟩, h.ne⟩
  rw [World.cell?_setCell_other _ _ _ _ (fun e => h.ne (congrArg Addr.block e))]
  exact h.box
end Go.Proofs.Ytckcbaegehfkoaa
namespace Go.Proofs.Ytckcbaegehfkoaa
open Go.RowKit Go.Lib

theorem news_one {w : World} {x : Value} {T : TypeId} (n : Nat × Nat) : ∀ p, some (⟨w.heap.size, 0, none⟩ : Addr) = some p → ∀ j u, [x][j]? = some u → (w.alloc (.cells #[x] T n)).cell? (p.add j) = some u := fun p hp => by
  cases hp
  intro j u hu
  match j, hu with
  | 0, hu => cases hu; rw [add_at]; exact cell_of_heap (heap_alloc_new w _) 0
  | j + 1, hu => simp at hu
end Go.Proofs.Ytckcbaegehfkoaa
namespace Go.Proofs.Ytckcbaegehfkoaa

/-- The edges of a graph as pairs of numbers. -/
def prsN (es : List (Int × Int)) : List (Nat × Nat) := es.map (fun e => (e.1.toNat, e.2.toNat))
theorem prsN_in {n : Nat} {es : List (Int × Int)} (h : RightG n es) : PairsIn n (prsN es) := fun e he => by
  obtain ⟨x, hx, rfl⟩ := List.mem_map.1 he
  have := h.2.2.2.1 x hx
  simp only
  omega
theorem mem_prsN {n : Nat} {es : List (Int × Int)} (h : RightG n es) {a b : Nat} : (a, b) ∈ prsN es ↔ ((a : Int), (b : Int)) ∈ es := by
  unfold prsN
  rw [List.mem_map]
  constructor
  · rintro ⟨x, hx, e⟩
    have := h.2.2.2.1 x hx
    simp only [Prod.mk.injEq] at e
    have e2 : x = ((a : Int), (b : Int)) := Prod.ext (by simp; omega) (by simp; omega)
    rw [← e2]; exact hx
  · intro hx; exact ⟨_, hx, by simp⟩
/-- There are classes to each row of pairs. -/
theorem tells_rev {n : Nat} : ∀ (Q : List (Nat × Nat)), PairsIn n Q.reverse → ∃ f, Pt n f ∧ Tells n f Q.reverse
  | [], _ => ⟨_, pt_new n, tells_new n⟩
  | e :: Q, h => by
    rw [List.reverse_cons] at h ⊢
    obtain ⟨f, hf, ht⟩ := tells_rev Q (fun x hx => h x (List.mem_append_left _ hx))
    have he := h e (by simp)
    exact ⟨_, hf.join he.1 he.2, tells_join ht (fun x hx => h x (List.mem_append_left _ hx)) he.1 he.2⟩
theorem tells_ex {n : Nat} (P : List (Nat × Nat)) (h : PairsIn n P) : ∃ f, Pt n f ∧ Tells n f P := by
  have := tells_rev P.reverse (by rw [List.reverse_reverse]; exact h)
  rwa [List.reverse_reverse] at this
/-- What has been reached from m. -/
structure Bfs (n : Nat) (f : Nat → Nat) (m : Nat) (ls : List Int) : Prop where
  nd : ls.Nodup
  all : ∀ x ∈ ls, ∃ u : Nat, x = u ∧ u < n ∧ f u = m
  has : (m : Int) ∈ ls
theorem Bfs.put {n : Nat} {f : Nat → Nat} {m : Nat} {ls : List Int} (h : Bfs n f m ls) {u : Nat} (hu : u < n) (hf : f u = m) (hn : (u : Int) ∉ ls) : Bfs n f m (ls ++ [(u : Int)]) := by
  refine ⟨?_, fun x hx => ?_, by simp [h.has]⟩
  · rw [List.nodup_append]
    refine ⟨h.nd, by simp, fun a ha b hb => ?_⟩
    simp at hb
    subst hb
    intro e
    subst e
    exact hn ha
  · rcases List.mem_append.1 hx with hx | hx
    · exact h.all x hx
    · simp at hx; exact ⟨u, hx, hu, hf⟩
theorem len_le_of_subI {a b : List Int} (h : a.Nodup) (hs : ∀ e ∈ a, e ∈ b) : a.length ≤ b.length := by
  induction a generalizing b with
  | nil => simp
  | cons x a ih =>
    have hx := hs x (by simp)
    have hnd := List.nodup_cons.1 h
    have := ih (b := b.erase x) hnd.2 (fun e he => by
      refine (List.mem_erase_of_ne ?_).2 (hs e (by simp [he]))
      rintro rfl
      exact hnd.1 he)
    rw [List.length_erase_of_mem hx] at this
    have : 0 < b.length := List.length_pos_of_mem hx
    simp; omega
theorem Bfs.len {n : Nat} {f : Nat → Nat} {m : Nat} {ls : List Int} (h : Bfs n f m ls) : ls.length ≤ n := by
  have := len_le_of_subI (b := upto n) h.nd (fun x hx => by
    obtain ⟨u, rfl, hu, _⟩ := h.all x hx
    unfold upto
    exact List.mem_map.2 ⟨u, by simpa using hu, rfl⟩)
  rwa [upto_len] at this
/-- The neighbours of the first i are reached. -/
def ClosedTo (es : List (Int × Int)) (ls : List Int) (i : Nat) : Prop := ∀ j (h : j < ls.length), j < i → ∀ y ∈ nbL ls[j] es, y ∈ ls
theorem ClosedTo.put {es : List (Int × Int)} {ls : List Int} {i : Nat} (h : ClosedTo es ls i) (hi : i ≤ ls.length) (x : Int) : ClosedTo es (ls ++ [x]) i := fun j hj hji y hy => by
  have hj' : j < ls.length := by omega
  have e : (ls ++ [x])[j] = ls[j] := List.getElem_append_left hj'
  rw [e] at hy
  exact List.mem_append_left _ (h j hj' hji y hy)
theorem ClosedTo.next {es : List (Int × Int)} {ls : List Int} {i : Nat} (h : ClosedTo es ls i) {x : Int} (hx : ls[i]? = some x) (hn : ∀ y ∈ nbL x es, y ∈ ls) : ClosedTo es ls (i + 1) := fun j hj hji y hy => by
  by_cases e : j < i
  · exact h j hj e y hy
  · obtain rfl : j = i := by omega
    rw [List.getElem?_eq_getElem hj] at hx
    cases hx
    exact hn y hy
end Go.Proofs.Ytckcbaegehfkoaa
namespace Go.Proofs.Ytckcbaegehfkoaa

theorem Links.take {es : List (Int × Int)} {p : List Int} (h : Links es p) (k : Nat) : Links es (p.take k) := fun i hi => by
  rw [List.length_take] at hi
  rw [List.getElem_take, List.getElem_take]
  exact h i (by omega)
theorem Links.drop {es : List (Int × Int)} {p : List Int} (h : Links es p) (k : Nat) : Links es (p.drop k) := fun i hi => by
  rw [List.length_drop] at hi
  rw [List.getElem_drop, List.getElem_drop]
  exact h (k + i) (by omega)
theorem Links.append {es : List (Int × Int)} {p q : List Int} (h : Links es p) (k : Links es q) (hj : ∀ (h1 : 0 < p.length) (h2 : 0 < q.length), Adj es (p[p.length - 1]'(by omega)) q[0]) : Links es (p ++ q) := fun i hi => by
  rw [List.length_append] at hi
  by_cases h1 : i + 1 < p.length
  · rw [List.getElem_append_left (by omega), List.getElem_append_left h1]
    exact h i h1
  · by_cases h2 : i < p.length
    · rw [List.getElem_append_left h2, List.getElem_append_right (by omega)]
      have := hj (by omega) (by omega)
      obtain rfl : i = p.length - 1 := by omega
      simp only [show p.length - 1 + 1 - p.length = 0 by omega]
      exact this
    · rw [List.getElem_append_right (by omega), List.getElem_append_right (by omega)]
      have := k (i - p.length) (by omega)
      simp only [show i + 1 - p.length = i - p.length + 1 by omega]
      exact this
theorem Links.reverse {es : List (Int × Int)} {p : List Int} (h : Links es p) : Links es p.reverse := fun i hi => by
  rw [List.length_reverse] at hi
  rw [List.getElem_reverse, List.getElem_reverse]
  have := h (p.length - 1 - (i + 1)) (by omega)
  simp only [show p.length - 1 - (i + 1) + 1 = p.length - 1 - i by omega] at this
  exact this.symm
theorem PathL.take {n : Int} {es : List (Int × Int)} {p : List Int} (h : PathL n es p) {k : Nat} (hk : 0 < k) : PathL n es (p.take k) :=
  ⟨fun e => by have h1 : (p.take k).length = 0 := by { rw [e]; rfl }; rw [List.length_take] at h1; have := h.pos; omega, List.Sublist.nodup (List.take_sublist _ _) h.nd, fun x hx => h.inn x (List.mem_of_mem_take hx), h.lk.take k⟩
theorem PathL.drop {n : Int} {es : List (Int × Int)} {p : List Int} (h : PathL n es p) {k : Nat} (hk : k < p.length) : PathL n es (p.drop k) :=
  ⟨fun e => by have := congrArg List.length e; rw [List.length_drop] at this; simp at this; omega, List.Sublist.nodup (List.drop_sublist _ _) h.nd, fun x hx => h.inn x (List.mem_of_mem_drop hx), h.lk.drop k⟩
theorem PathL.reverse {n : Int} {es : List (Int × Int)} {p : List Int} (h : PathL n es p) : PathL n es p.reverse :=
  ⟨fun e => h.ne (List.reverse_eq_nil_iff.1 e), List.pairwise_reverse.2 (List.Pairwise.imp (fun h => Ne.symm h) h.nd), fun x hx => h.inn x (List.mem_reverse.1 hx), h.lk.reverse⟩
theorem head_at {p : List Int} {x : Int} (h : p.head? = some x) : ∃ h0 : 0 < p.length, p[0] = x := by
  cases p with
  | nil => simp at h
  | cons y l => simp at h; exact ⟨by simp, h⟩
theorem last_at {p : List Int} {x : Int} (h : p.getLast? = some x) : ∃ h0 : 0 < p.length, p[p.length - 1] = x := by
  cases hp : p with
  | nil => rw [hp] at h; simp at h
  | cons y l =>
    rw [List.getLast?_eq_getElem?] at h
    have h0 : 0 < p.length := by rw [hp]; simp
    rw [List.getElem?_eq_getElem (by omega)] at h
    cases h
    subst hp
    exact ⟨h0, rfl⟩
theorem at_last {p : List Int} (h0 : 0 < p.length) : p.getLast? = some (p[p.length - 1]'(by omega)) := by
  rw [List.getLast?_eq_getElem?, List.getElem?_eq_getElem (by omega)]
/-- A path from x to y, by vertices with Q alone. -/
def Pth (n : Int) (es : List (Int × Int)) (Q : Int → Prop) (x y : Int) : Prop := ∃ p, PathL n es p ∧ p.head? = some x ∧ p.getLast? = some y ∧ ∀ z ∈ p, Q z
theorem pth_self {n : Int} {es : List (Int × Int)} {Q : Int → Prop} {x : Int} (h : 0 ≤ x ∧ x < n) (hQ : Q x) : Pth n es Q x x :=
  ⟨[x], ⟨by simp, by simp, fun z hz => by simp at hz; subst hz; exact h, fun i hi => absurd hi (by simp)⟩, rfl, rfl, fun z hz => by simp at hz; subst hz; exact hQ⟩
theorem Pth.step {n : Int} {es : List (Int × Int)} {Q : Int → Prop} {x u v : Int} (hR : RightG n es) (h : Pth n es Q x u) (ha : Adj es u v) (hQ : Q v) : Pth n es Q x v := by
  obtain ⟨p, hp, h1, h2, h3⟩ := h
  obtain ⟨_, hv, _⟩ := ha.in hR
  by_cases hm : v ∈ p
  · obtain ⟨i, hi, rfl⟩ := List.getElem_of_mem hm
    refine ⟨p.take (i + 1), hp.take (by omega), ?_, ?_, fun z hz => h3 z (List.mem_of_mem_take hz)⟩
    · rw [List.head?_take, if_neg (by omega)]; exact h1
    · have hl : (p.take (i + 1)).length = i + 1 := by rw [List.length_take]; omega
      rw [at_last (by omega)]
      simp [hl]
  · obtain ⟨h0, hl⟩ := last_at h2
    refine ⟨p ++ [v], ⟨by simp, List.nodup_append.2 ⟨hp.nd, by simp, fun a ha' b hb => by simp at hb; subst hb; exact fun e => hm (e ▸ ha')⟩, fun z hz => ?_, hp.lk.append (fun i hi => absurd hi (by simp)) (fun _ _ => ?_)⟩, ?_, by simp, fun z hz => ?_⟩
    · rcases List.mem_append.1 hz with hz | hz
      · exact hp.inn z hz
      · simp at hz; subst hz; exact hv
    · rw [hl]; exact ha
    · rw [List.head?_append, h1]; rfl
    · rcases List.mem_append.1 hz with hz | hz
      · exact h3 z hz
      · simp at hz; subst hz; exact hQ
theorem adj_same {n : Nat} {es : List (Int × Int)} {f : Nat → Nat} (hR : RightG n es) (hT : Tells n f (prsN es)) {x y : Int} (h : Adj es x y) : f x.toNat = f y.toNat := by
  have hin := h.in hR
  obtain ⟨a, rfl⟩ : ∃ a : Nat, x = a := ⟨x.toNat, by omega⟩
  obtain ⟨b, rfl⟩ : ∃ b : Nat, y = b := ⟨y.toNat, by omega⟩
  rw [Int.toNat_natCast, Int.toNat_natCast]
  refine (hT a b (by omega) (by omega)).2 ?_
  rcases h with h | h
  · exact Cl.of (e := (a, b)) ((mem_prsN hR).2 h)
  · exact (Cl.of (e := (b, a)) ((mem_prsN hR).2 h)).symm
theorem path_same {n : Nat} {es : List (Int × Int)} {f : Nat → Nat} (hR : RightG n es) (hT : Tells n f (prsN es)) {p : List Int} (hp : Links es p) : ∀ i (h : i < p.length), f (p[i]).toNat = f (p[0]'(by omega)).toNat
  | 0, _ => rfl
  | i + 1, h => (adj_same hR hT (hp i h)).symm.trans (path_same hR hT hp i (by omega))
/-- Of one class just if there is a path. -/
theorem pth_cl {n : Nat} {es : List (Int × Int)} {f : Nat → Nat} (hR : RightG n es) (hT : Tells n f (prsN es)) {a b : Nat} (ha : a < n) (hb : b < n) : f a = f b ↔ Pth n es (fun _ => True) a b := by
  constructor
  · intro e
    have hc := (hT a b ha hb).1 e
    have := hc (fun x y => ∀ s, Pth n es (fun _ => True) s (x : Int) ↔ Pth n es (fun _ => True) s (y : Int)) (fun _ _ => Iff.rfl) (fun _ _ h s => (h s).symm) (fun _ _ _ h k s => (h s).trans (k s)) (fun e he s => by
      have he' := (mem_prsN (a := e.1) (b := e.2) hR).1 he
      exact ⟨fun h => h.step hR (Or.inl he') trivial, fun h => h.step hR (Or.inr he') trivial⟩)
    exact (this a).1 (pth_self (by omega) trivial)
  · rintro ⟨p, hp, h1, h2, _⟩
    obtain ⟨h0, e1⟩ := head_at h1
    obtain ⟨_, e2⟩ := last_at h2
    have := path_same hR hT hp.lk (p.length - 1) (by omega)
    rw [e1, e2] at this
    simpa using this.symm
end Go.Proofs.Ytckcbaegehfkoaa
namespace Go.Proofs.Ytckcbaegehfkoaa

theorem Way.in {n : Int} {es : List (Int × Int)} {a b : Int} {away p : List Int} (h : Way n es a b away p) : ∀ z ∈ p, (0 ≤ z ∧ z < n) ∧ z ∉ away := fun z hz => ⟨h.path.inn z hz, h.off z hz⟩
theorem Way.reverse {n : Int} {es : List (Int × Int)} {a b : Int} {away p : List Int} (h : Way n es a b away p) : Way n es b a away p.reverse :=
  ⟨h.path.reverse, by rw [List.head?_reverse]; exact h.last, by rw [List.getLast?_reverse]; exact h.first, fun z hz => h.off z (List.mem_reverse.1 hz)⟩
theorem RouteIs.way {n : Int} {es : List (Int × Int)} {a b : Int} {away L : List Int} (h : RouteIs n es a b away L) (h0 : 0 < L.length) : Way n es a b away L := by
  rcases h with ⟨rfl, _⟩ | ⟨h, _⟩
  · simp at h0
  · exact h
end Go.Proofs.Ytckcbaegehfkoaa
namespace Go.Proofs.Ytckcbaegehfkoaa

/-- D tells how many edges lie between each vertex and b, by open vertices; -1: there is no way. -/
structure Lev (n : Int) (es : List (Int × Int)) (O : Int → Prop) (b : Int) (D : Int → Int) : Prop where
  root : D b = 0
  opn : ∀ x, 0 ≤ x → x < n → 0 ≤ D x → O x
  zero : ∀ x, 0 ≤ x → x < n → D x = 0 → x = b
  down : ∀ x, 0 ≤ x → x < n → 0 < D x → ∃ u, Adj es u x ∧ D u = D x - 1
  near : ∀ u v, Adj es u v → 0 ≤ D u → O v → 0 ≤ D v ∧ D v ≤ D u + 1
/-- A search under way: F is found, the first i of it are looked at. -/
structure Bf (n : Int) (es : List (Int × Int)) (O : Int → Prop) (b : Int) (F : List Int) (D : Int → Int) (i : Nat) : Prop where
  nd : F.Nodup
  mem : ∀ x, 0 ≤ x → x < n → (x ∈ F ∧ 0 ≤ D x) ∨ (x ∉ F ∧ D x = -1)
  inr : ∀ x ∈ F, (0 ≤ x ∧ x < n) ∧ O x
  root : b ∈ F ∧ D b = 0
  mono : ∀ j k (hjk : j ≤ k) (hk : k < F.length), D (F[j]'(by omega)) ≤ D F[k]
  top : ∀ j (hj : j < F.length) (hi : i < F.length), D F[j] ≤ D F[i] + 1
  zero : ∀ x ∈ F, D x = 0 → x = b
  down : ∀ x ∈ F, 0 < D x → ∃ u ∈ F, Adj es u x ∧ D u = D x - 1
  done : ∀ j (hj : j < F.length), j < i → ∀ v, Adj es F[j] v → O v → v ∈ F ∧ D v ≤ D F[j] + 1
  le : ∀ j (hj : j < F.length), D F[j] ≤ j
theorem getElem_snoc_lt {F : List Int} {w : Int} {j : Nat} (h : j < F.length) : (F ++ [w])[j]'(by simp; omega) = F[j] := List.getElem_append_left h
theorem getElem_snoc_last {F : List Int} {w : Int} (h : F.length < (F ++ [w]).length) : (F ++ [w])[F.length] = w := by simp
/-- One more is found. -/
theorem Bf.put {n : Int} {es : List (Int × Int)} {O : Int → Prop} {b : Int} {F : List Int} {D : Int → Int} {i : Nat} (h : Bf n es O b F D i) (hi : i < F.length) {v : Int} (ha : Adj es F[i] v) (hv : 0 ≤ v ∧ v < n) (hO : O v) (hn : v ∉ F) : Bf n es O b (F ++ [v]) (fun x => if x = v then D F[i] + 1 else D x) i := by
  have hne : ∀ x ∈ F, x ≠ v := fun x hx e => hn (e ▸ hx)
  have hD : ∀ j (hj : j < F.length), (if F[j] = v then D F[i] + 1 else D F[j]) = D F[j] := fun j hj => if_neg (hne _ (List.getElem_mem hj))
  have hpos : ∀ j (hj : j < F.length), 0 ≤ D F[j] := fun j hj => by
    have := (h.inr _ (List.getElem_mem hj)).1
    rcases h.mem F[j] this.1 this.2 with e | e
    · exact e.2
    · exact absurd (List.getElem_mem hj) e.1
  refine ⟨List.nodup_append.2 ⟨h.nd, by simp, fun y hy z hz => by simp at hz; subst hz; exact hne y hy⟩, fun x h0 h1 => ?_, fun x hx => ?_, ⟨List.mem_append_left _ h.root.1, ?_⟩, fun j k hjk hk => ?_, fun j hj hi' => ?_, fun x hx h0 => ?_, fun x hx h0 => ?_, fun j hj hji u hu hOu => ?_, fun j hj => ?_⟩
  · by_cases e : x = v
    · subst e
      refine Or.inl ⟨by simp, ?_⟩
      show 0 ≤ (if x = x then D F[i] + 1 else D x)
      rw [if_pos rfl]
      have := hpos i hi
      omega
    · show (x ∈ F ++ [v] ∧ 0 ≤ (if x = v then D F[i] + 1 else D x)) ∨ (x ∉ F ++ [v] ∧ (if x = v then D F[i] + 1 else D x) = -1)
      rw [if_neg e]
      rcases h.mem x h0 h1 with h2 | h2
      · exact Or.inl ⟨List.mem_append_left _ h2.1, h2.2⟩
      · exact Or.inr ⟨fun hm => by rcases List.mem_append.1 hm with hm | hm; exact h2.1 hm; simp at hm; exact e hm, h2.2⟩
  · rcases List.mem_append.1 hx with hx | hx
    · exact h.inr x hx
    · simp at hx; subst hx; exact ⟨hv, hO⟩
  · show (if b = v then D F[i] + 1 else D b) = 0
    rw [if_neg (hne b h.root.1)]; exact h.root.2
  · show (if (F ++ [v])[j]'(by omega) = v then D F[i] + 1 else D ((F ++ [v])[j]'(by omega))) ≤ (if (F ++ [v])[k] = v then D F[i] + 1 else D (F ++ [v])[k])
    by_cases e : k < F.length
    · rw [getElem_snoc_lt e, getElem_snoc_lt (show j < F.length by omega), hD k e, hD j (by omega)]
      exact h.mono j k hjk e
    · obtain rfl : k = F.length := by simp at hk; omega
      rw [getElem_snoc_last hk, if_pos rfl]
      by_cases e2 : j < F.length
      · rw [getElem_snoc_lt e2, hD j e2]; exact h.top j e2 hi
      · obtain rfl : j = F.length := by omega
        rw [getElem_snoc_last hk, if_pos rfl]; exact Int.le_refl _
  · show (if (F ++ [v])[j] = v then D F[i] + 1 else D (F ++ [v])[j]) ≤ (if (F ++ [v])[i] = v then D F[i] + 1 else D (F ++ [v])[i]) + 1
    rw [getElem_snoc_lt hi, hD i hi]
    by_cases e : j < F.length
    · rw [getElem_snoc_lt e, hD j e]; exact h.top j e hi
    · obtain rfl : j = F.length := by simp at hj; omega
      rw [getElem_snoc_last hj, if_pos rfl]; exact Int.le_refl _
  · rcases List.mem_append.1 hx with hx | hx
    · have h0' : (if x = v then D F[i] + 1 else D x) = 0 := h0
      rw [if_neg (hne x hx)] at h0'
      exact h.zero x hx h0'
    · simp at hx; subst hx
      have h0' : (if x = x then D F[i] + 1 else D x) = 0 := h0
      rw [if_pos rfl] at h0'
      have := hpos i hi
      omega
  · rcases List.mem_append.1 hx with hx | hx
    · have h0' : 0 < (if x = v then D F[i] + 1 else D x) := h0
      rw [if_neg (hne x hx)] at h0'
      obtain ⟨u, hu, h1, h2⟩ := h.down x hx h0'
      refine ⟨u, List.mem_append_left _ hu, h1, ?_⟩
      show (if u = v then D F[i] + 1 else D u) = (if x = v then D F[i] + 1 else D x) - 1
      rw [if_neg (hne u hu), if_neg (hne x hx)]; exact h2
    · simp at hx; subst hx
      refine ⟨F[i], List.mem_append_left _ (List.getElem_mem hi), ha, ?_⟩
      show (if F[i] = x then D F[i] + 1 else D F[i]) = (if x = x then D F[i] + 1 else D x) - 1
      rw [hD i hi, if_pos rfl]
      omega
  · have hjF : j < F.length := by omega
    rw [getElem_snoc_lt hjF] at hu
    obtain ⟨h1, h2⟩ := h.done j hjF hji u hu hOu
    refine ⟨List.mem_append_left _ h1, ?_⟩
    show (if u = v then D F[i] + 1 else D u) ≤ (if (F ++ [v])[j] = v then D F[i] + 1 else D (F ++ [v])[j]) + 1
    rw [getElem_snoc_lt hjF, hD j hjF, if_neg (hne u h1)]
    exact h2
  · show (if (F ++ [v])[j] = v then D F[i] + 1 else D (F ++ [v])[j]) ≤ j
    by_cases e : j < F.length
    · rw [getElem_snoc_lt e, hD j e]; exact h.le j e
    · obtain rfl : j = F.length := by simp at hj; omega
      rw [getElem_snoc_last hj, if_pos rfl]
      have := h.le i hi
      omega
theorem Bf.congr {n : Int} {es : List (Int × Int)} {O : Int → Prop} {b : Int} {F : List Int} {D D' : Int → Int} {i : Nat} (h : Bf n es O b F D i) (e : ∀ x, 0 ≤ x → x < n → D x = D' x) : Bf n es O b F D' i := by
  have hF : ∀ x ∈ F, D' x = D x := fun x hx => (e x (h.inr x hx).1.1 (h.inr x hx).1.2).symm
  have hA : ∀ j (hj : j < F.length), D' F[j] = D F[j] := fun j hj => hF _ (List.getElem_mem hj)
  refine ⟨h.nd, fun x h0 h1 => by rw [← e x h0 h1]; exact h.mem x h0 h1, h.inr, ⟨h.root.1, by rw [hF _ h.root.1]; exact h.root.2⟩, fun j k hjk hk => by rw [hA k hk, hA j (by omega)]; exact h.mono j k hjk hk, fun j hj hi => by rw [hA j hj, hA i hi]; exact h.top j hj hi, fun x hx h0 => h.zero x hx (by rw [← hF x hx]; exact h0), fun x hx h0 => ?_, fun j hj hji v ha hO => ?_, fun j hj => by rw [hA j hj]; exact h.le j hj⟩
  · rw [hF x hx] at h0
    obtain ⟨u, hu, h1, h2⟩ := h.down x hx h0
    exact ⟨u, hu, h1, by rw [hF u hu, hF x hx]; exact h2⟩
  · obtain ⟨h1, h2⟩ := h.done j hj hji v ha hO
    exact ⟨h1, by rw [hF v h1, hA j hj]; exact h2⟩
/-- One more is looked at. -/
theorem Bf.next {n : Int} {es : List (Int × Int)} {O : Int → Prop} {b : Int} {F : List Int} {D : Int → Int} {i : Nat} (h : Bf n es O b F D i) (hi : i < F.length) (hd : ∀ v, Adj es F[i] v → O v → v ∈ F) : Bf n es O b F D (i + 1) :=
  { h with
    top := fun j hj hi' => by
      have h1 := h.top j hj hi
      have h2 := h.mono i (i + 1) (by omega) hi'
      omega
    done := fun j hj hji v hv hO => by
      by_cases e : j < i
      · exact h.done j hj e v hv hO
      · obtain rfl : j = i := by omega
        have hm := hd v hv hO
        refine ⟨hm, ?_⟩
        obtain ⟨k, hk, rfl⟩ := List.getElem_of_mem hm
        exact h.top k hk hi }
/-- Of a search among the members of l: found is what one comes to. -/
theorem Lev.rch {n : Int} {es : List (Int × Int)} {l : List Int} {b : Int} {D : Int → Int} (hR : RightG n es) (inn : ∀ x ∈ l, 0 ≤ x ∧ x < n) (h : Lev n es (fun x => x ∈ l) b D) {x : Int} (hx : x ∈ l) : 0 ≤ D x ↔ Rch es l b x := by
  constructor
  · intro h0
    obtain ⟨k, hk⟩ : ∃ k : Nat, D x = k := ⟨(D x).toNat, by omega⟩
    clear h0
    induction k generalizing x with
    | zero =>
      have := h.zero x (inn x hx).1 (inn x hx).2 (by omega)
      subst this
      exact Rch.refl _ _ _
    | succ k ih =>
      obtain ⟨u, hu, hd⟩ := h.down x (inn x hx).1 (inn x hx).2 (by omega)
      have hur := (hu.in hR).1
      have hul := h.opn u hur.1 hur.2 (by omega)
      exact (ih hul (by omega)).step hu hx
  · intro hr
    exact hr (fun z => 0 ≤ D z) (by rw [h.root]; exact Int.le_refl _) (fun u v hu ha hv => (h.near u v ha hu hv).1)
theorem Lev.whole {n : Int} {es : List (Int × Int)} {l : List Int} {D : Int → Int} (hR : RightG n es) (nd : l.Nodup) (inn : ∀ x ∈ l, 0 ≤ x ∧ x < n) (h0 : 0 < l.length) (h : Lev n es (fun x => x ∈ l) l[0] D) : (∀ x ∈ l, 0 ≤ D x) ↔ WholeL n es l :=
  ⟨fun ha => WholeL.of_head nd inn h0 (fun y hy => (h.rch hR inn hy).1 (ha y hy)), fun hw x hx => (h.rch hR inn hx).2 (hw.one l[0] (List.getElem_mem h0) x hx)⟩

theorem Lev.congr {n : Int} {es : List (Int × Int)} {O O' : Int → Prop} {b : Int} {D : Int → Int} (hR : RightG n es) (h : Lev n es O b D) (e : ∀ x, 0 ≤ x → x < n → (O x ↔ O' x)) : Lev n es O' b D :=
  ⟨h.root, fun x h0 h1 h2 => (e x h0 h1).1 (h.opn x h0 h1 h2), h.zero, h.down, fun u v ha h0 hO => by
    obtain ⟨_, hv, _⟩ := ha.in hR
    exact h.near u v ha h0 ((e v hv.1 hv.2).2 hO)⟩
/-- Each step goes to the least neighbour that is nearer by one. -/
structure Greedy (es : List (Int × Int)) (D : Int → Int) (a : Int) (L : List Int) : Prop where
  pos : 0 < L.length
  first : L[0] = a
  step : ∀ i (h : i + 1 < L.length), Adj es (L[i]'(by omega)) L[i + 1] ∧ D L[i + 1] = D a - i - 1 ∧ ∀ w, Adj es (L[i]'(by omega)) w → D w = D a - i - 1 → L[i + 1] ≤ w
theorem Greedy.put {es : List (Int × Int)} {D : Int → Int} {a : Int} {L : List Int} (h : Greedy es D a L) {i : Nat} (hl : L.length = i + 1) {u v : Int} (hu : L[i]? = some u) (ha : Adj es u v) (hD : D v = D a - i - 1) (hmin : ∀ w, Adj es u w → D w = D a - i - 1 → v ≤ w) : Greedy es D a (L ++ [v]) := by
  have hu' : L[i]'(by omega) = u := by rw [List.getElem?_eq_getElem (by omega)] at hu; exact Option.some.inj hu
  refine ⟨by simp, by rw [List.getElem_append_left h.pos]; exact h.first, fun j hj => ?_⟩
  simp at hj
  by_cases e : j + 1 < L.length
  · rw [List.getElem_append_left (by omega), List.getElem_append_left e]; exact h.step j e
  · obtain rfl : j = i := by omega
    rw [List.getElem_append_left (by omega), hu']
    have : (L ++ [v])[j + 1]'(by simp; omega) = v := by rw [List.getElem_append_right (by omega)]; simp [hl]
    rw [this]
    exact ⟨ha, hD, hmin⟩
/-- None is found. -/
theorem Lev.none {n : Int} {es : List (Int × Int)} {D : Int → Int} {a b : Int} {away : List Int} (hl : Lev n es (fun x => x ∉ away) b D) (h : D a < 0) : RouteIs n es a b away [] := by
  refine Or.inl ⟨rfl, fun p hp => ?_⟩
  obtain ⟨hp0, e1⟩ := head_at hp.first
  obtain ⟨_, e2⟩ := last_at hp.last
  have hback : ∀ j (hj : j < p.length), 0 ≤ D (p[p.length - 1 - j]'(by omega)) := fun j => by
    induction j with
    | zero => intro hj; simp only [Nat.sub_zero, e2, hl.root]; omega
    | succ j ih =>
      intro hj
      have h1 := ih (by omega)
      have hadj := hp.path.lk (p.length - 1 - (j + 1)) (by omega)
      simp only [show p.length - 1 - (j + 1) + 1 = p.length - 1 - j by omega] at hadj
      exact (hl.near _ _ hadj.symm h1 (hp.off _ (List.getElem_mem _))).1
  have := hback (p.length - 1) (by omega)
  simp only [show p.length - 1 - (p.length - 1) = 0 by omega, e1] at this
  omega
end Go.Proofs.Ytckcbaegehfkoaa
