/-
  The document's Is, Same, Count and Join of layer 4.
  The document's Classes of layer 4.
  What is reached from a vertex: pure facts for the document's components. No program is named here.
  Paths: put together, cut off, turned round; components; what follows of routes. No program is named here.
  Where a graph falls apart (layer 7): edges that no vertex parts. No program is named here.
  Blocks (layer 7): they are whole, also without one of their vertices; a ring lies in one; one edge more. No program is named here.
  The blocks and cuts of a graph as they are told (layer 7). No program is named here.
-/
import Derived.Test.YtlebimolgienkaaP04
import Derived.Test.YtlebimolgienkaaP03
import Derived.Test.YtlebimolgienkaaP01
import Derived.Test.YtlebimolgienkaaP02
namespace Go.Proofs.Ytlebimolgienkaa
open Go.RowKit Go.Lib

set_option maxHeartbeats 400000 in
theorem ris_any (b : Nat) (a : Option Addr) (n cap : Nat) (x : Int) (r : Bool) (w : World) (c0 : w.cell? ⟨b, 0, none⟩ = some (.slice a n cap)) (hr : r = decide (0 ≤ x ∧ x < n)) :
    Calls Try.prog 82 #[.pointer (some ⟨b, 0, none⟩), .int .i64 x] w fun e w' => e = .returned (.bool r) ∧ w' = w := by
  by_cases h : 0 ≤ x
  · by_cases h2 : x < n
    · rw [decide_eq_true (by omega)] at hr
      subst hr
      go_enter Try.func82, Try.ntmps82
      go_wp2
      go_ret
      exact ⟨rfl, rfl⟩
    · rw [decide_eq_false (by omega)] at hr
      subst hr
      go_enter Try.func82, Try.ntmps82
      go_wp2
      go_ret
      exact ⟨rfl, rfl⟩
  · rw [decide_eq_false (by omega)] at hr
    subst hr
    go_enter Try.func82, Try.ntmps82
    go_wp2
    go_ret
    exact ⟨rfl, rfl⟩

/-- What Join makes of the classes, whatever it is handed. -/
def joinR (n : Nat) (f : Nat → Nat) (x y : Int) : Nat → Nat := if (0 ≤ x ∧ x < n) ∧ (0 ≤ y ∧ y < n) then joinF f x.toNat y.toNat else f
theorem QAt.congr {w : World} {b g : Nat} {a : Option Addr} {n cap : Nat} {f f' : Nat → Nat} (h : QAt w b g a n cap f) (e : ∀ i, i < n → f i = f' i) : QAt w b g a n cap f' :=
  ⟨h.box, fun h0 => ⟨(h.row h0).1, (h.row h0).2.congr (fun j hj => by rw [e j hj])⟩, h.ne⟩
theorem QAt.put {w : World} {b g : Nat} {a : Option Addr} {n cap : Nat} {f : Nat → Nat} (h : QAt w b g a n cap f) {i : Nat} (hi : i < n) (x : Nat) : QAt (w.setCell ⟨g, i, none⟩ (.int .i64 x)) b g a n cap (fun j => if j = i then x else f j) := by
  refine ⟨?_, fun h0 => ⟨(h.row h0).1, ((h.row h0).2.put hi (x : Int)).congr (fun j _ => by by_cases e : j = i <;> simp [e])⟩, h.ne⟩
  rw [World.cell?_setCell_other _ _ _ _ (fun e => h.ne (congrArg Addr.block e))]
  exact h.box
/-- What Join leaves. -/
def JoinIs (b g : Nat) (a : Option Addr) (n cap : Nat) (f : Nat → Nat) (x y : Int) (w w' : World) : Prop := QAt w' b g a n cap (joinR n f x y) ∧ KeptBut (fun k => 0 < n ∧ k = g) w w' ∧ w'.heap.size = w.heap.size
theorem joinIs_same {b g : Nat} {a : Option Addr} {n cap : Nat} {f : Nat → Nat} {x y : Int} {w : World} (h : QAt w b g a n cap f) (hr : ¬ ((0 ≤ x ∧ x < n) ∧ (0 ≤ y ∧ y < n) ∧ f x.toNat ≠ f y.toNat)) (k : Nat) : JoinIs b g a n cap f x y w (w.drewN k) := by
  have hB := below_drewN (Below.refl w.heap.size w) k
  refine ⟨(h.below hB).congr (fun i _ => ?_), ⟨hB.os, hB.tape, hB.output, hB.size, fun j hj _ => hB.block j hj⟩, rfl⟩
  unfold joinR
  split
  · next hin =>
    have : f x.toNat = f y.toNat := by
      by_cases e : f x.toNat = f y.toNat
      · exact e
      · exact absurd ⟨hin.1, hin.2, e⟩ hr
    rw [joinF_one this]
  · rfl

set_option maxHeartbeats 2000000 in
set_option maxRecDepth 100000 in
theorem rjoin_any (b g : Nat) (a : Option Addr) (n cap : Nat) (f : Nat → Nat) (x y : Int) (r : Bool) (w : World) (hn : n ≤ 1000) (h : QAt w b g a n cap f) (hr : r = true ↔ (0 ≤ x ∧ x < n) ∧ (0 ≤ y ∧ y < n) ∧ f x.toNat ≠ f y.toNat) :
    Calls Try.prog 43 #[.pointer (some ⟨b, 0, none⟩), .int .i64 x, .int .i64 y] w fun e w' => e = .returned (.bool r) ∧ JoinIs b g a n cap f x y w w' := by
  have c0 := h.box
  obtain ⟨r1, hr1⟩ := ex_eq (decide (0 ≤ x ∧ x < n))
  obtain ⟨r2, hr2⟩ := ex_eq (decide (0 ≤ y ∧ y < n))
  have HX : Hid (∀ W, W.cell? ⟨b, 0, none⟩ = some (.slice a n cap) → Calls Try.prog 82 #[.pointer (some ⟨b, 0, none⟩), .int .i64 x] W fun e w' => e = .returned (.bool r1) ∧ w' = W) := fun W hc => ris_any b a n cap x r1 W hc hr1
  have HY : Hid (∀ W, W.cell? ⟨b, 0, none⟩ = some (.slice a n cap) → Calls Try.prog 82 #[.pointer (some ⟨b, 0, none⟩), .int .i64 y] W fun e w' => e = .returned (.bool r2) ∧ w' = W) := fun W hc => ris_any b a n cap y r2 W hc hr2
  have HJ : Hid (r = false → ∀ k, JoinIs b g a n cap f x y w (w.drewN k)) := fun h0 k => joinIs_same h (fun e => by have := hr.2 e; rw [h0] at this; cases this) k
  have HQ := hid h
  cases r1 with
  | false =>
    have h1 := of_decide_eq_false hr1.symm
    obtain rfl : r = false := by cases r with | false => rfl | true => exact absurd (hr.1 rfl).1 h1
    clear h hr hr1 hr2 h1
    go_enter Try.func43, Try.ntmps43
    go_wp2_with fail
    go_quiet (first | (go_at_call_of 82 x; refine Calls.quiet_of_same (HX.out _ c0)) | (go_at_call_of 82 y; refine Calls.quiet_of_same (HY.out _ c0)))
    go_wp2
    go_ret
    exact ⟨rfl, HJ.out trivial _⟩
  | true =>
    cases r2 with
    | false =>
      have h1 := of_decide_eq_false hr2.symm
      obtain rfl : r = false := by cases r with | false => rfl | true => exact absurd (hr.1 rfl).2.1 h1
      clear h hr hr1 hr2 h1
      go_enter Try.func43, Try.ntmps43
      go_wp2_with fail
      go_quiet (first | (go_at_call_of 82 x; refine Calls.quiet_of_same (HX.out _ c0)) | (go_at_call_of 82 y; refine Calls.quiet_of_same (HY.out _ c0)))
      go_wp2
      go_ret
      exact ⟨rfl, HJ.out trivial _⟩
    | true =>
      have h1 := of_decide_eq_true hr1.symm
      have h2 := of_decide_eq_true hr2.symm
      obtain ⟨i, rfl⟩ : ∃ i : Nat, x = i := ⟨x.toNat, by omega⟩
      obtain ⟨k, rfl⟩ : ∃ k : Nat, y = k := ⟨y.toNat, by omega⟩
      have hin : i < n := by omega
      have hkn : k < n := by omega
      obtain ⟨ha, ci, _⟩ := h.iat hin
      obtain ⟨_, ck, _⟩ := h.iat hkn
      subst ha
      obtain ⟨fi, hfi⟩ := ex_eq (f i)
      obtain ⟨fk, hfk⟩ := ex_eq (f k)
      rw [← hfi] at ci
      rw [← hfk] at ck
      have q1 : (i : Int) < (n : Int) := by omega
      have q2 : (k : Int) < (n : Int) := by omega
      have q3 : (0 : Int) ≤ (i : Int) := by omega
      have q4 : (0 : Int) ≤ (k : Int) := by omega
      have hr3 : r = true ↔ fi ≠ fk := by
        rw [hr, hfi, hfk]
        exact ⟨fun h => h.2.2, fun h => ⟨⟨q3, q1⟩, ⟨q4, q2⟩, h⟩⟩
      have HJF : Hid (∀ j, joinR n f i k j = if f j = max fi fk then min fi fk else f j) := fun j => by
        unfold joinR
        rw [if_pos ⟨⟨q3, q1⟩, ⟨q4, q2⟩⟩, hfi, hfk]
        rfl
      clear h hr hr1 hr2 h1 h2 hfi hfk
      by_cases he : fi = fk
      · obtain rfl : r = false := by cases r with | false => rfl | true => exact absurd he (hr3.1 rfl)
        subst he
        clear hr3
        go_enter Try.func43, Try.ntmps43
        go_wp2_with fail
        go_quiet (first | (go_at_call_of 82 (i : Int); refine Calls.quiet_of_same (HX.out _ c0)) | (go_at_call_of 82 (k : Int); refine Calls.quiet_of_same (HY.out _ c0)))
        go_wp2
        go_ret
        exact ⟨rfl, HJ.out trivial _⟩
      · obtain rfl : r = true := hr3.2 he
        have he2 : ((fi : Int) == (fk : Int)) = false := beq_eq_false_iff_ne.2 (by omega)
        obtain ⟨lo, hlo⟩ : ∃ lo : Nat, min (fi : Int) (fk : Int) = (lo : Int) := ⟨min fi fk, by omega⟩
        obtain ⟨hi', hhi⟩ : ∃ hi' : Nat, max (fi : Int) (fk : Int) = (hi' : Int) := ⟨max fi fk, by omega⟩
        have HLO : Hid (lo = min fi fk ∧ hi' = max fi fk) := ⟨by omega, by omega⟩
        clear hr3 HJ
        go_enter Try.func43, Try.ntmps43
        go_wp2_with fail
        go_quiet (first | (go_at_call_of 82 (i : Int); refine Calls.quiet_of_same (HX.out _ c0)) | (go_at_call_of 82 (k : Int); refine Calls.quiet_of_same (HY.out _ c0)))
        go_wp2_with fail
        obtain ⟨W, hW⟩ := ex_eq (w.drewN nq)
        rw [← hW]
        have hbW : Below w.heap.size w W := by rw [hW]; exact below_drewN (Below.refl _ _) _
        have hsW : W.heap.size = w.heap.size := by rw [hW]; rfl
        have HQW := hid (HQ.out.below hbW)
        have d0 := HQW.out.box
        have di : W.cell? ⟨g, i, none⟩ = some (.int .i64 fi) := by rw [hW]; exact ci
        have dk : W.cell? ⟨g, k, none⟩ = some (.int .i64 fk) := by rw [hW]; exact ck
        clear c0 ci ck hW HX HY he2 HQ
        go_quiet (fail)
        go_wp2_with fail
        go_quiet (fail)
        go_wp2
        have HJF2 : Hid (∀ j, joinR n f i k j = if f j = hi' then lo else f j) := fun j => by rw [HJF.out j, HLO.out.1, HLO.out.2]
        clear HJF HLO hlo hhi di dk d0 he q1 q2 q3 q4
        go_loopg [9] n (fun G j wz => ∃ t : Nat, t ≤ n ∧ n - t ≤ G ∧ j = .int .i64 t ∧ Hid (QAt wz b g (some ⟨g, 0, none⟩) n cap (fun j => if j < t then joinR n f i k j else f j)) ∧ Hid (KeptBut (fun k => k = g) w wz ∧ wz.heap.size = w.heap.size))
        case atStart => exact ⟨0, Nat.zero_le _, by omega, rfl, (HQW.out.below (below_drewN (below_drewN (Below.refl _ _) _) _)).congr (fun j _ => by simp), (KeptBut.of_below (below_drewN (below_drewN hbW _) _)).mono (fun k hk hs => absurd hs (by omega)), hsW⟩
        case round =>
          obtain ⟨t, ht, hG, rfl, hq, hk2⟩ := hrel
          have d0 := hq.out.box
          by_cases hlt : t < n
          · obtain ⟨_, ct, ft⟩ := hq.out.iat hlt
            obtain ⟨z, hz⟩ := ex_eq (f t)
            have ct' : wr.cell? ⟨g, t, none⟩ = some (.int .i64 (z : Nat)) := by
              rw [ct]
              simp [hz]
            have q1 : (t : Int) < (n : Int) := by omega
            clear ct
            by_cases he : z = hi'
            · have he2 : ((z : Int) == (hi' : Int)) = true := by rw [he]; simp
              have HNX : Hid (QAt (wr.setCell ⟨g, t, none⟩ (.int .i64 lo)) b g (some ⟨g, 0, none⟩) n cap (fun j => if j < t + 1 then joinR n f i k j else f j)) := (hq.out.put hlt lo).congr (fun j _ => by
                by_cases e1 : j = t
                · subst e1
                  rw [if_pos rfl, if_pos (by omega), HJF2.out, if_pos (by omega)]
                · rw [if_neg e1]
                  by_cases e2 : j < t
                  · rw [if_pos e2, if_pos (by omega)]
                  · rw [if_neg e2, if_neg (by omega)])
              have HKX : Hid (KeptBut (fun k => k = g) w (wr.setCell ⟨g, t, none⟩ (.int .i64 lo)) ∧ (wr.setCell ⟨g, t, none⟩ (.int .i64 lo)).heap.size = w.heap.size) := ⟨hk2.out.1.trans (kept_set wr ⟨g, t, none⟩ _), by simp; exact hk2.out.2⟩
              subst he
              clear hq hk2 hz he2
              go_wp2
              go_roundg (n - (t + 1))
              case measure => omega
              case rel => exact ⟨t + 1, by omega, Nat.le_refl _, by go_num, HNX, HKX⟩
            · have he2 : ((z : Int) == (hi' : Int)) = false := beq_eq_false_iff_ne.2 (by omega)
              have HNX : Hid (QAt wr b g (some ⟨g, 0, none⟩) n cap (fun j => if j < t + 1 then joinR n f i k j else f j)) := hq.out.congr (fun j _ => by
                by_cases e1 : j = t
                · subst e1
                  rw [if_neg (by omega), if_pos (by omega), HJF2.out, if_neg (by omega)]
                · by_cases e2 : j < t
                  · rw [if_pos e2, if_pos (by omega)]
                  · rw [if_neg e2, if_neg (by omega)])
              clear hq hz
              go_wp2
              go_roundg (n - (t + 1))
              case measure => omega
              case rel => exact ⟨t + 1, by omega, Nat.le_refl _, by go_num, HNX, hk2⟩
          · obtain rfl : t = n := by omega
            go_wp2
            go_ret
            exact ⟨rfl, hq.out.congr (fun j hj => by rw [if_pos hj]), hk2.out.1.mono (fun k _ e => ⟨by omega, e⟩), hk2.out.2⟩
end Go.Proofs.Ytlebimolgienkaa
namespace Go.Proofs.Ytlebimolgienkaa
open Go.RowKit Go.Lib

theorem news_one {w : World} {x : Value} {T : TypeId} (n : Nat × Nat) : ∀ p, some (⟨w.heap.size, 0, none⟩ : Addr) = some p → ∀ j u, [x][j]? = some u → (w.alloc (.cells #[x] T n)).cell? (p.add j) = some u := fun p hp => by
  cases hp
  intro j u hu
  match j, hu with
  | 0, hu => cases hu; rw [add_at]; exact cell_of_heap (heap_alloc_new w _) 0
  | j + 1, hu => simp at hu
end Go.Proofs.Ytlebimolgienkaa
namespace Go.Proofs.Ytlebimolgienkaa

/-- The edges of a graph as pairs of numbers. -/
def prsN (es : List (Int × Int)) : List (Nat × Nat) := es.map (fun e => (e.1.toNat, e.2.toNat))
theorem prsN_in {n : Nat} {es : List (Int × Int)} (h : RightG n es) : PairsIn n (prsN es) := fun e he => by
  obtain ⟨x, hx, rfl⟩ := List.mem_map.1 he
  have := h.2.2.2.1 x hx
  simp only
  omega
theorem mem_prsN {n : Nat} {es : List (Int × Int)} (h : RightG n es) {a b : Nat} : (a, b) ∈ prsN es ↔ ((a : Int), (b : Int)) ∈ es := by
  unfold prsN
  rw [List.mem_map]
  constructor
  · rintro ⟨x, hx, e⟩
    have := h.2.2.2.1 x hx
    simp only [Prod.mk.injEq] at e
    have e2 : x = ((a : Int), (b : Int)) := Prod.ext (by simp; omega) (by simp; omega)
    rw [← e2]; exact hx
  · intro hx; exact ⟨_, hx, by simp⟩
/-- There are classes to each row of pairs. -/
theorem tells_rev {n : Nat} : ∀ (Q : List (Nat × Nat)), PairsIn n Q.reverse → ∃ f, Pt n f ∧ Tells n f Q.reverse
  | [], _ => ⟨_, pt_new n, tells_new n⟩
  | e :: Q, h => by
    rw [List.reverse_cons] at h ⊢
    obtain ⟨f, hf, ht⟩ := tells_rev Q (fun x hx => h x (List.mem_append_left _ hx))
    have he := h e (by simp)
    exact ⟨_, hf.join he.1 he.2, tells_join ht (fun x hx => h x (List.mem_append_left _ hx)) he.1 he.2⟩
theorem tells_ex {n : Nat} (P : List (Nat × Nat)) (h : PairsIn n P) : ∃ f, Pt n f ∧ Tells n f P := by
  have := tells_rev P.reverse (by rw [List.reverse_reverse]; exact h)
  rwa [List.reverse_reverse] at this
/-- What has been reached from m. -/
structure Bfs (n : Nat) (f : Nat → Nat) (m : Nat) (ls : List Int) : Prop where
  nd : ls.Nodup
  all : ∀ x ∈ ls, ∃ u : Nat, x = u ∧ u < n ∧ f u = m
  has : (m : Int) ∈ ls
theorem Bfs.put {n : Nat} {f : Nat → Nat} {m : Nat} {ls : List Int} (h : Bfs n f m ls) {u : Nat} (hu : u < n) (hf : f u = m) (hn : (u : Int) ∉ ls) : Bfs n f m (ls ++ [(u : Int)]) := by
  refine ⟨?_, fun x hx => ?_, by simp [h.has]⟩
  · rw [List.nodup_append]
    refine ⟨h.nd, by simp, fun a ha b hb => ?_⟩
    simp at hb
    subst hb
    intro e
    subst e
    exact hn ha
  · rcases List.mem_append.1 hx with hx | hx
    · exact h.all x hx
    · simp at hx; exact ⟨u, hx, hu, hf⟩
theorem len_le_of_subI {a b : List Int} (h : a.Nodup) (hs : ∀ e ∈ a, e ∈ b) : a.length ≤ b.length := by
  induction a generalizing b with
  | nil => simp
  | cons x a ih =>
    have hx := hs x (by simp)
    have hnd := List.nodup_cons.1 h
    have := ih (b := b.erase x) hnd.2 (fun e he => by
      refine (List.mem_erase_of_ne ?_).2 (hs e (by simp [he]))
      rintro rfl
      exact hnd.1 he)
    rw [List.length_erase_of_mem hx] at this
    have : 0 < b.length := List.length_pos_of_mem hx
    simp; omega
theorem Bfs.len {n : Nat} {f : Nat → Nat} {m : Nat} {ls : List Int} (h : Bfs n f m ls) : ls.length ≤ n := by
  have := len_le_of_subI (b := upto n) h.nd (fun x hx => by
    obtain ⟨u, rfl, hu, _⟩ := h.all x hx
    unfold upto
    exact List.mem_map.2 ⟨u, by simpa using hu, rfl⟩)
  rwa [upto_len] at this
/-- The neighbours of the first i are reached. -/
def ClosedTo (es : List (Int × Int)) (ls : List Int) (i : Nat) : Prop := ∀ j (h : j < ls.length), j < i → ∀ y ∈ nbL ls[j] es, y ∈ ls
theorem ClosedTo.put {es : List (Int × Int)} {ls : List Int} {i : Nat} (h : ClosedTo es ls i) (hi : i ≤ ls.length) (x : Int) : ClosedTo es (ls ++ [x]) i := fun j hj hji y hy => by
  have hj' : j < ls.length := by omega
  have e : (ls ++ [x])[j] = ls[j] := List.getElem_append_left hj'
  rw [e] at hy
  exact List.mem_append_left _ (h j hj' hji y hy)
theorem ClosedTo.next {es : List (Int × Int)} {ls : List Int} {i : Nat} (h : ClosedTo es ls i) {x : Int} (hx : ls[i]? = some x) (hn : ∀ y ∈ nbL x es, y ∈ ls) : ClosedTo es ls (i + 1) := fun j hj hji y hy => by
  by_cases e : j < i
  · exact h j hj e y hy
  · obtain rfl : j = i := by omega
    rw [List.getElem?_eq_getElem hj] at hx
    cases hx
    exact hn y hy
end Go.Proofs.Ytlebimolgienkaa
namespace Go.Proofs.Ytlebimolgienkaa

theorem Links.take {es : List (Int × Int)} {p : List Int} (h : Links es p) (k : Nat) : Links es (p.take k) := fun i hi => by
  rw [List.length_take] at hi
  rw [List.getElem_take, List.getElem_take]
  exact h i (by omega)
theorem Links.drop {es : List (Int × Int)} {p : List Int} (h : Links es p) (k : Nat) : Links es (p.drop k) := fun i hi => by
  rw [List.length_drop] at hi
  rw [List.getElem_drop, List.getElem_drop]
  exact h (k + i) (by omega)
theorem Links.append {es : List (Int × Int)} {p q : List Int} (h : Links es p) (k : Links es q) (hj : ∀ (h1 : 0 < p.length) (h2 : 0 < q.length), Adj es (p[p.length - 1]'(by omega)) q[0]) : Links es (p ++ q) := fun i hi => by
  rw [List.length_append] at hi
  by_cases h1 : i + 1 < p.length
  · rw [List.getElem_append_left (by omega), List.getElem_append_left h1]
    exact h i h1
  · by_cases h2 : i < p.length
    · rw [List.getElem_append_left h2, List.getElem_append_right (by omega)]
      have := hj (by omega) (by omega)
      obtain rfl : i = p.length - 1 := by omega
      simp only [show p.length - 1 + 1 - p.length = 0 by omega]
      exact this
    · rw [List.getElem_append_right (by omega), List.getElem_append_right (by omega)]
      have := k (i - p.length) (by omega)
      simp only [show i + 1 - p.length = i - p.length + 1 by omega]
      exact this
theorem Links.reverse {es : List (Int × Int)} {p : List Int} (h : Links es p) : Links es p.reverse := fun i hi => by
  rw [List.length_reverse] at hi
  rw [List.getElem_reverse, List.getElem_reverse]
  have := h (p.length - 1 - (i + 1)) (by omega)
  simp only [show p.length - 1 - (i + 1) + 1 = p.length - 1 - i by omega] at this
  exact this.symm
theorem PathL.take {n : Int} {es : List (Int × Int)} {p : List Int} (h : PathL n es p) {k : Nat} (hk : 0 < k) : PathL n es (p.take k) :=
  ⟨fun e => by have h1 : (p.take k).length = 0 := by { rw [e]; rfl }; rw [List.length_take] at h1; have := h.pos; omega, List.Sublist.nodup (List.take_sublist _ _) h.nd, fun x hx => h.inn x (List.mem_of_mem_take hx), h.lk.take k⟩
theorem PathL.drop {n : Int} {es : List (Int × Int)} {p : List Int} (h : PathL n es p) {k : Nat} (hk : k < p.length) : PathL n es (p.drop k) :=
  ⟨fun e => by have := congrArg List.length e; rw [List.length_drop] at this; simp at this; omega, List.Sublist.nodup (List.drop_sublist _ _) h.nd, fun x hx => h.inn x (List.mem_of_mem_drop hx), h.lk.drop k⟩
theorem PathL.reverse {n : Int} {es : List (Int × Int)} {p : List Int} (h : PathL n es p) : PathL n es p.reverse :=
  ⟨fun e => h.ne (List.reverse_eq_nil_iff.1 e), List.pairwise_reverse.2 (List.Pairwise.imp (fun h => Ne.symm h) h.nd), fun x hx => h.inn x (List.mem_reverse.1 hx), h.lk.reverse⟩
theorem head_at {p : List Int} {x : Int} (h : p.head? = some x) : ∃ h0 : 0 < p.length, p[0] = x := by
  cases p with
  | nil => simp at h
  | cons y l => simp at h; exact ⟨by simp, h⟩
theorem last_at {p : List Int} {x : Int} (h : p.getLast? = some x) : ∃ h0 : 0 < p.length, p[p.length - 1] = x := by
  cases hp : p with
  | nil => rw [hp] at h; simp at h
  | cons y l =>
    rw [List.getLast?_eq_getElem?] at h
    have h0 : 0 < p.length := by rw [hp]; simp
    rw [List.getElem?_eq_getElem (by omega)] at h
    cases h
    subst hp
    exact ⟨h0, rfl⟩
theorem at_last {p : List Int} (h0 : 0 < p.length) : p.getLast? = some (p[p.length - 1]'(by omega)) := by
  rw [List.getLast?_eq_getElem?, List.getElem?_eq_getElem (by omega)]
/-- A path from x to y, by vertices with Q alone. -/
def Pth (n : Int) (es : List (Int × Int)) (Q : Int → Prop) (x y : Int) : Prop := ∃ p, PathL n es p ∧ p.head? = some x ∧ p.getLast? = some y ∧ ∀ z ∈ p, Q z
theorem pth_self {n : Int} {es : List (Int × Int)} {Q : Int → Prop} {x : Int} (h : 0 ≤ x ∧ x < n) (hQ : Q x) : Pth n es Q x x :=
  ⟨[x], ⟨by simp, by simp, fun z hz => by simp at hz; subst hz; exact h, fun i hi => absurd hi (by simp)⟩, rfl, rfl, fun z hz => by simp at hz; subst hz; exact hQ⟩
theorem Pth.step {n : Int} {es : List (Int × Int)} {Q : Int → Prop} {x u v : Int} (hR : RightG n es) (h : Pth n es Q x u) (ha : Adj es u v) (hQ : Q v) : Pth n es Q x v := by
  obtain ⟨p, hp, h1, h2, h3⟩ := h
  obtain ⟨_, hv, _⟩ := ha.in hR
  by_cases hm : v ∈ p
  · obtain ⟨i, hi, rfl⟩ := List.getElem_of_mem hm
    refine ⟨p.take (i + 1), hp.take (by omega), ?_, ?_, fun z hz => h3 z (List.mem_of_mem_take hz)⟩
    · rw [List.head?_take, if_neg (by omega)]; exact h1
    · have hl : (p.take (i + 1)).length = i + 1 := by rw [List.length_take]; omega
      rw [at_last (by omega)]
      simp [hl]
  · obtain ⟨h0, hl⟩ := last_at h2
    refine ⟨p ++ [v], ⟨by simp, List.nodup_append.2 ⟨hp.nd, by simp, fun a ha' b hb => by simp at hb; subst hb; exact fun e => hm (e ▸ ha')⟩, fun z hz => ?_, hp.lk.append (fun i hi => absurd hi (by simp)) (fun _ _ => ?_)⟩, ?_, by simp, fun z hz => ?_⟩
    · rcases List.mem_append.1 hz with hz | hz
      · exact hp.inn z hz
      · simp at hz; subst hz; exact hv
    · rw [hl]; exact ha
    · rw [List.head?_append, h1]; rfl
    · rcases List.mem_append.1 hz with hz | hz
      · exact h3 z hz
      · simp at hz; subst hz; exact hQ
theorem adj_same {n : Nat} {es : List (Int × Int)} {f : Nat → Nat} (hR : RightG n es) (hT : Tells n f (prsN es)) {x y : Int} (h : Adj es x y) : f x.toNat = f y.toNat := by
  have hin := h.in hR
  obtain ⟨a, rfl⟩ : ∃ a : Nat, x = a := ⟨x.toNat, by omega⟩
  obtain ⟨b, rfl⟩ : ∃ b : Nat, y = b := ⟨y.toNat, by omega⟩
  rw [Int.toNat_natCast, Int.toNat_natCast]
  refine (hT a b (by omega) (by omega)).2 ?_
  rcases h with h | h
  · exact Cl.of (e := (a, b)) ((mem_prsN hR).2 h)
  · exact (Cl.of (e := (b, a)) ((mem_prsN hR).2 h)).symm
theorem path_same {n : Nat} {es : List (Int × Int)} {f : Nat → Nat} (hR : RightG n es) (hT : Tells n f (prsN es)) {p : List Int} (hp : Links es p) : ∀ i (h : i < p.length), f (p[i]).toNat = f (p[0]'(by omega)).toNat
  | 0, _ => rfl
  | i + 1, h => (adj_same hR hT (hp i h)).symm.trans (path_same hR hT hp i (by omega))
/-- Of one class just if there is a path. -/
theorem pth_cl {n : Nat} {es : List (Int × Int)} {f : Nat → Nat} (hR : RightG n es) (hT : Tells n f (prsN es)) {a b : Nat} (ha : a < n) (hb : b < n) : f a = f b ↔ Pth n es (fun _ => True) a b := by
  constructor
  · intro e
    have hc := (hT a b ha hb).1 e
    have := hc (fun x y => ∀ s, Pth n es (fun _ => True) s (x : Int) ↔ Pth n es (fun _ => True) s (y : Int)) (fun _ _ => Iff.rfl) (fun _ _ h s => (h s).symm) (fun _ _ _ h k s => (h s).trans (k s)) (fun e he s => by
      have he' := (mem_prsN (a := e.1) (b := e.2) hR).1 he
      exact ⟨fun h => h.step hR (Or.inl he') trivial, fun h => h.step hR (Or.inr he') trivial⟩)
    exact (this a).1 (pth_self (by omega) trivial)
  · rintro ⟨p, hp, h1, h2, _⟩
    obtain ⟨h0, e1⟩ := head_at h1
    obtain ⟨_, e2⟩ := last_at h2
    have := path_same hR hT hp.lk (p.length - 1) (by omega)
    rw [e1, e2] at this
    simpa using this.symm
end Go.Proofs.Ytlebimolgienkaa
namespace Go.Proofs.Ytlebimolgienkaa

/-- One comes from x to y by edges that do not meet v. -/
def Av (es : List (Int × Int)) (v x y : Int) : Prop := ∀ S : Int → Prop, S x → (∀ u w, S u → Adj es u w → u ≠ v → w ≠ v → S w) → S y
theorem Av.refl (es : List (Int × Int)) (v x : Int) : Av es v x x := fun _ h _ => h
theorem Av.trans {es : List (Int × Int)} {v x y z : Int} (h : Av es v x y) (k : Av es v y z) : Av es v x z := fun S h0 hs => k S (h S h0 hs) hs
theorem Av.step {es : List (Int × Int)} {v x u w : Int} (h : Av es v x u) (ha : Adj es u w) (hu : u ≠ v) (hw : w ≠ v) : Av es v x w := fun S h0 hs => hs u w (h S h0 hs) ha hu hw
theorem Av.one {es : List (Int × Int)} {v u w : Int} (ha : Adj es u w) (hu : u ≠ v) (hw : w ≠ v) : Av es v u w := (Av.refl es v u).step ha hu hw
theorem Av.symm {es : List (Int × Int)} {v x y : Int} (h : Av es v x y) : Av es v y x :=
  h (fun z => Av es v z x) (Av.refl _ _ _) (fun _ _ hu ha h1 h2 => (Av.one ha.symm h2 h1).trans hu)
/-- x is an end of e. -/
def End (e : Int × Int) (x : Int) : Prop := x = e.1 ∨ x = e.2
/-- Two edges belong together: no vertex parts them. -/
def Tog (es : List (Int × Int)) (e f : Int × Int) : Prop := ∀ v x y, End e x → End f y → x ≠ v → y ≠ v → Av es v x y
theorem Tog.symm {es : List (Int × Int)} {e f : Int × Int} (h : Tog es e f) : Tog es f e := fun v x y hx hy h1 h2 => (h v y x hy hx h2 h1).symm
theorem Tog.refl {es : List (Int × Int)} {e : Int × Int} (ha : Adj es e.1 e.2) : Tog es e e := fun v x y hx hy h1 h2 => by
  rcases hx with rfl | rfl <;> rcases hy with rfl | rfl
  · exact Av.refl _ _ _
  · exact Av.one ha h1 h2
  · exact Av.one ha.symm h1 h2
  · exact Av.refl _ _ _
theorem Tog.trans {es : List (Int × Int)} {e f g : Int × Int} (hne : f.1 ≠ f.2) (h : Tog es e f) (k : Tog es f g) : Tog es e g := fun v x y hx hy h1 h2 => by
  by_cases e1 : f.1 = v
  · have e2 : f.2 ≠ v := fun e => hne (e1.trans e.symm)
    exact (h v x f.2 hx (Or.inr rfl) h1 e2).trans (k v f.2 y (Or.inr rfl) hy e2 h2)
  · exact (h v x f.1 hx (Or.inl rfl) h1 e1).trans (k v f.1 y (Or.inl rfl) hy e1 h2)
theorem Tog.turn {es : List (Int × Int)} {a b : Int} {f : Int × Int} (h : Tog es (a, b) f) : Tog es (b, a) f := fun v x y hx hy h1 h2 => h v x y hx.symm hy h1 h2
/-- The vertices of the block of e. -/
def Bl (es : List (Int × Int)) (e : Int × Int) (x : Int) : Prop := ∃ f : Int × Int, Adj es f.1 f.2 ∧ Tog es e f ∧ End f x
theorem Bl.own {es : List (Int × Int)} {e : Int × Int} (ha : Adj es e.1 e.2) {x : Int} (hx : End e x) : Bl es e x := ⟨e, ha, Tog.refl ha, hx⟩
theorem Bl.av {es : List (Int × Int)} {e : Int × Int} {v p z : Int} (hz : Bl es e z) (hp : End e p) (h1 : p ≠ v) (h2 : z ≠ v) : Av es v p z := by
  obtain ⟨f, _, ht, hf⟩ := hz
  exact ht v p z hp hf h1 h2
theorem Bl.av2 {es : List (Int × Int)} {e : Int × Int} (hne : e.1 ≠ e.2) {v y z : Int} (hy : Bl es e y) (hz : Bl es e z) (h1 : y ≠ v) (h2 : z ≠ v) : Av es v y z := by
  by_cases e1 : e.1 = v
  · have e2 : e.2 ≠ v := fun k => hne (e1.trans k.symm)
    exact (hy.av (Or.inr rfl) e2 h1).symm.trans (hz.av (Or.inr rfl) e2 h2)
  · exact (hy.av (Or.inl rfl) e1 h1).symm.trans (hz.av (Or.inl rfl) e1 h2)
/-- Two blocks with two vertices in common are one. -/
theorem two_share {es : List (Int × Int)} {e f : Int × Int} {x y : Int} (hxy : x ≠ y) (h1 : Bl es e x) (h2 : Bl es e y) (h3 : Bl es f x) (h4 : Bl es f y) : Tog es e f := fun v p q hp hq k1 k2 => by
  by_cases e1 : x = v
  · have e2 : y ≠ v := fun k => hxy (e1.trans k.symm)
    exact (h2.av hp k1 e2).trans (h4.av hq k2 e2).symm
  · exact (h1.av hp k1 e1).trans (h3.av hq k2 e1).symm
theorem Bl.tog {es : List (Int × Int)} {e f : Int × Int} (he : e.1 ≠ e.2) (h : Tog es e f) {x : Int} (hx : Bl es e x) : Bl es f x := by
  obtain ⟨g, hg, ht, hend⟩ := hx
  exact ⟨g, hg, Tog.trans he h.symm ht, hend⟩
/-- An edge with both ends in a block is one of it. -/
theorem edge_in {es : List (Int × Int)} {e : Int × Int} {x y : Int} (ha : Adj es x y) (hxy : x ≠ y) (h1 : Bl es e x) (h2 : Bl es e y) : Tog es e (x, y) :=
  two_share hxy h1 h2 (Bl.own (e := (x, y)) ha (Or.inl rfl)) (Bl.own (e := (x, y)) ha (Or.inr rfl))
/-- A way that leaves a block's vertex, and comes to another one without going back, leaves by an edge of the block. -/
theorem leave_in {es : List (Int × Int)} {e : Int × Int} {x y z : Int} (hx : Bl es e x) (hy : Bl es e y) (hxy : y ≠ x) (ha : Adj es x z) (h : Av es x z y) : Tog es e (x, z) := fun v p q hp hq h1 h2 => by
  by_cases e1 : v = x
  · subst e1
    rcases hq with hq | hq
    · exact absurd hq h2
    · have hq' : q = z := hq
      subst hq'
      exact (hy.av hp h1 hxy).trans h.symm
  · have hx1 : x ≠ v := fun k => e1 k.symm
    have h3 := hx.av hp h1 hx1
    rcases hq with hq | hq
    · have hq' : q = x := hq
      subst hq'; exact h3
    · have hq' : q = z := hq
      subst hq'
      exact h3.step ha hx1 h2
/-- A path's later vertices are come to without its first one. -/
theorem path_av {es : List (Int × Int)} {x : Int} : ∀ {p : List Int}, Links es p → (∀ z ∈ p, z ≠ x) → ∀ i j (hi : i < p.length) (hj : j < p.length), Av es x p[i] p[j] := fun {p} hl hx => by
  have h0 : ∀ j (hj : j < p.length), Av es x (p[0]'(by omega)) p[j] := fun j => by
    induction j with
    | zero => intro hj; exact Av.refl _ _ _
    | succ j ih => intro hj; exact (ih (by omega)).step (hl j hj) (hx _ (List.getElem_mem _)) (hx _ (List.getElem_mem _))
  intro i j hi hj
  exact (h0 i hi).symm.trans (h0 j hj)
/-- A path between two vertices of a block stays in it. -/
theorem path_in {n : Int} {es : List (Int × Int)} {e : Int × Int} : ∀ {p : List Int}, PathL n es p → (∀ h : 0 < p.length, Bl es e p[0] ∧ Bl es e (p[p.length - 1]'(by omega))) → (∀ z ∈ p, Bl es e z) ∧ ∀ i (h : i + 1 < p.length), Tog es e (p[i]'(by omega), p[i + 1])
  | [], h, _ => absurd rfl h.ne
  | [x], _, hb => ⟨fun z hz => by simp at hz; subst hz; exact (hb (by simp)).1, fun i h => by simp at h⟩
  | x :: z :: p, h, hb => by
    have hlen : (x :: z :: p).length = p.length + 2 := rfl
    obtain ⟨b0, b1⟩ := hb (by simp)
    have hnd := h.nd
    rw [List.nodup_cons] at hnd
    have hx : ∀ u ∈ z :: p, u ≠ x := fun u hu k => hnd.1 (k ▸ hu)
    have hl2 : Links es (z :: p) := fun i hi => h.lk (i + 1) (by simp at hi ⊢; omega)
    have ha : Adj es x z := h.lk 0 (by simp)
    have hp2 : PathL n es (z :: p) := ⟨by simp, hnd.2, fun u hu => h.inn u (List.mem_cons_of_mem _ hu), hl2⟩
    have hlast : (x :: z :: p)[(x :: z :: p).length - 1]'(by simp) = (z :: p)[(z :: p).length - 1]'(by simp) := by
      simp only [List.length_cons, Nat.add_sub_cancel]
      rw [List.getElem_cons_succ]
    rw [hlast] at b1
    have hy : (z :: p)[(z :: p).length - 1]'(by simp) ≠ x := hx _ (List.getElem_mem _)
    have htog := leave_in (z := z) b0 b1 hy ha (path_av hl2 hx 0 _ (by simp) (by simp))
    have hz : Bl es e z := ⟨(x, z), ha, htog, Or.inr rfl⟩
    obtain ⟨r1, r2⟩ := path_in hp2 (fun _ => ⟨hz, b1⟩)
    refine ⟨fun u hu => ?_, fun i hi => ?_⟩
    · rcases List.mem_cons.1 hu with rfl | hu
      · exact b0
      · exact r1 u hu
    · cases i with
      | zero => exact htog
      | succ i => exact r2 i (by simp at hi ⊢; omega)
end Go.Proofs.Ytlebimolgienkaa
namespace Go.Proofs.Ytlebimolgienkaa

theorem av_pth {n : Int} {es : List (Int × Int)} {v x y : Int} (hR : RightG n es) (hx : 0 ≤ x ∧ x < n) (hxv : x ≠ v) (h : Av es v x y) : Pth n es (fun z => z ≠ v) x y :=
  h (fun z => Pth n es (fun z => z ≠ v) x z) (pth_self hx hxv) (fun _ _ hu ha _ hw => hu.step hR ha hw)
theorem Bl.in {n : Int} {es : List (Int × Int)} {e : Int × Int} {x : Int} (hR : RightG n es) (h : Bl es e x) : 0 ≤ x ∧ x < n := by
  obtain ⟨f, ha, _, hx⟩ := h
  have := ha.in hR
  rcases hx with rfl | rfl
  · exact this.1
  · exact this.2.1
/-- Two vertices of a block: a path between them lies in it. -/
theorem block_path {n : Int} {es : List (Int × Int)} {e : Int × Int} {v x y : Int} (hR : RightG n es) (hne : e.1 ≠ e.2) (hx : Bl es e x) (hy : Bl es e y) (h1 : x ≠ v) (h2 : y ≠ v) :
    ∃ p, PathL n es p ∧ p.head? = some x ∧ p.getLast? = some y ∧ (∀ z ∈ p, z ≠ v) ∧ (∀ z ∈ p, Bl es e z) ∧ ∀ i (h : i + 1 < p.length), Tog es e (p[i]'(by omega), p[i + 1]) := by
  obtain ⟨p, hp, e1, e2, e3⟩ := av_pth hR (hx.in hR) h1 (Bl.av2 hne hx hy h1 h2)
  obtain ⟨h0, f1⟩ := head_at e1
  obtain ⟨_, f2⟩ := last_at e2
  obtain ⟨r1, r2⟩ := path_in hp (fun _ => by rw [f1, f2]; exact ⟨hx, hy⟩)
  exact ⟨p, hp, e1, e2, e3, r1, r2⟩
/-- With one edge more: what belongs together, and does not to that edge, did so. -/
theorem Tog.less {n : Int} {es fs : List (Int × Int)} {a b : Int} {e f : Int × Int} (hF : RightG n fs) (hs : ∀ x y, Adj fs x y → Adj es x y ∨ (x = a ∧ y = b) ∨ (x = b ∧ y = a)) (hef : Adj fs e.1 e.2) (hff : Adj fs f.1 f.2) (h : Tog fs e f) (hno : ¬ Tog fs e (a, b)) : Tog es e f := fun v x y hx hy h1 h2 => by
  have hne := (hef.in hF).2.2
  have bx : Bl fs e x := Bl.own hef hx
  have by' : Bl fs e y := ⟨f, hff, h, hy⟩
  obtain ⟨p, hp, e1, e2, e3, e4, e5⟩ := block_path hF hne bx by' h1 h2
  obtain ⟨k0, f1⟩ := head_at e1
  obtain ⟨_, f2⟩ := last_at e2
  have hl : Links es p := fun i hi => by
    rcases hs _ _ (hp.lk i hi) with h | ⟨q1, q2⟩ | ⟨q1, q2⟩
    · exact h
    · have := e5 i hi; rw [q1, q2] at this; exact absurd this hno
    · have := e5 i hi; rw [q1, q2] at this; exact absurd (Tog.turn this.symm).symm hno
  have := path_av hl e3 0 (p.length - 1) k0 (by omega)
  rw [f1, f2] at this
  exact this
end Go.Proofs.Ytlebimolgienkaa
namespace Go.Proofs.Ytlebimolgienkaa

/-- A row is a block: its vertices rise. -/
def IsBlk (es : List (Int × Int)) (B : List Int) : Prop := B.Pairwise (· < ·) ∧ ∃ a b, Adj es a b ∧ ∀ x, x ∈ B ↔ Bl es (a, b) x
/-- All blocks, in their order. -/
structure BlocksL (es : List (Int × Int)) (Bs : List (List Int)) : Prop where
  is : ∀ B, B ∈ Bs ↔ IsBlk es B
  ord : Bs.Pairwise (fun A B => lexL A B = true)
/-- All cuts, rising. -/
structure CutsL (es : List (Int × Int)) (Cs : List Int) : Prop where
  is : ∀ v, v ∈ Cs ↔ ∃ x y, Adj es v x ∧ Adj es v y ∧ ¬ Av es v x y
  up : Cs.Pairwise (· < ·)
/-- Rows in an order, with the same members, are one. -/
theorem lex_one : ∀ {a b : List (List Int)}, a.Pairwise (fun A B => lexL A B = true) → b.Pairwise (fun A B => lexL A B = true) → (∀ x, x ∈ a ↔ x ∈ b) → a = b
  | [], [], _, _, _ => rfl
  | [], y :: b, _, _, h => by have := (h y).2 (by simp); simp at this
  | x :: a, [], _, _, h => by have := (h x).1 (by simp); simp at this
  | x :: a, y :: b, ha, hb, h => by
    obtain ⟨h1, h2⟩ := List.pairwise_cons.1 ha
    obtain ⟨k1, k2⟩ := List.pairwise_cons.1 hb
    have e : x = y := by
      rcases List.mem_cons.1 ((h x).1 (by simp)) with e | e
      · exact e
      · rcases List.mem_cons.1 ((h y).2 (by simp)) with e' | e'
        · exact e'.symm
        · have r1 := k1 x e
          have r2 := h1 y e'
          rw [lexL_asymm r1] at r2
          cases r2
    subst e
    congr 1
    refine lex_one h2 k2 (fun z => ⟨fun hz => ?_, fun hz => ?_⟩)
    · rcases List.mem_cons.1 ((h z).1 (List.mem_cons_of_mem _ hz)) with e | e
      · subst e
        have := h1 z hz
        rw [lexL_irrefl] at this
        cases this
      · exact e
    · rcases List.mem_cons.1 ((h z).2 (List.mem_cons_of_mem _ hz)) with e | e
      · subst e
        have := k1 z hz
        rw [lexL_irrefl] at this
        cases this
      · exact e
theorem BlocksL.one {es : List (Int × Int)} {A B : List (List Int)} (h : BlocksL es A) (k : BlocksL es B) : A = B := lex_one h.ord k.ord (fun x => (h.is x).trans (k.is x).symm)
theorem up_oneB : ∀ {a b : List Int}, a.Pairwise (· < ·) → b.Pairwise (· < ·) → (∀ x, x ∈ a ↔ x ∈ b) → a = b
  | [], [], _, _, _ => rfl
  | [], y :: b, _, _, h => by have := (h y).2 (by simp); simp at this
  | x :: a, [], _, _, h => by have := (h x).1 (by simp); simp at this
  | x :: a, y :: b, ha, hb, h => by
    obtain ⟨h1, h2⟩ := List.pairwise_cons.1 ha
    obtain ⟨k1, k2⟩ := List.pairwise_cons.1 hb
    have e : x = y := by
      rcases List.mem_cons.1 ((h x).1 (by simp)) with e | e
      · exact e
      · rcases List.mem_cons.1 ((h y).2 (by simp)) with e' | e'
        · exact e'.symm
        · have := k1 x e
          have := h1 y e'
          omega
    subst e
    congr 1
    refine up_oneB h2 k2 (fun z => ⟨fun hz => ?_, fun hz => ?_⟩)
    · rcases List.mem_cons.1 ((h z).1 (List.mem_cons_of_mem _ hz)) with e | e
      · have := h1 z hz; omega
      · exact e
    · rcases List.mem_cons.1 ((h z).2 (List.mem_cons_of_mem _ hz)) with e | e
      · have := k1 z hz; omega
      · exact e
theorem CutsL.one {es : List (Int × Int)} {A B : List Int} (h : CutsL es A) (k : CutsL es B) : A = B := up_oneB h.up k.up (fun x => (h.is x).trans (k.is x).symm)
/-- The block of an edge, as a row. -/
theorem blk_ex {m : Nat} {es : List (Int × Int)} (hR : RightG m es) {a b : Int} (ha : Adj es a b) : ∃ B, IsBlk es B ∧ ∀ x, x ∈ B ↔ Bl es (a, b) x := by
  have hdec : ∀ x, Decidable (Bl es (a, b) x) := fun x => Classical.propDecidable _
  refine ⟨((List.range m).filter (fun i : Nat => @decide (Bl es (a, b) (i : Int)) (hdec i))).map (fun i : Nat => (i : Int)), ?_, ?_⟩
  · refine ⟨?_, a, b, ha, ?_⟩
    · rw [List.pairwise_map]
      exact (List.pairwise_lt_range.filter _).imp (fun h => by omega)
    · intro x
      simp only [List.mem_map, List.mem_filter, List.mem_range, decide_eq_true_eq]
      constructor
      · rintro ⟨i, ⟨_, h2⟩, rfl⟩; exact h2
      · intro h
        have := h.in hR
        exact ⟨x.toNat, ⟨by omega, by rw [Int.toNat_of_nonneg this.1]; exact h⟩, by omega⟩
  · intro x
    simp only [List.mem_map, List.mem_filter, List.mem_range, decide_eq_true_eq]
    constructor
    · rintro ⟨i, ⟨_, h2⟩, rfl⟩; exact h2
    · intro h
      have := h.in hR
      exact ⟨x.toNat, ⟨by omega, by rw [Int.toNat_of_nonneg this.1]; exact h⟩, by omega⟩
/-- Two blocks with two vertices in common are one row. -/
theorem blk_share {n : Int} {es : List (Int × Int)} {A B : List Int} (hR : RightG n es) (hA : IsBlk es A) (hB : IsBlk es B) {x y : Int} (hxy : x ≠ y) (h1 : x ∈ A) (h2 : y ∈ A) (h3 : x ∈ B) (h4 : y ∈ B) : A = B := by
  obtain ⟨ua, a, b, hab, ia⟩ := hA
  obtain ⟨ub, c, d, hcd, ib⟩ := hB
  have ht := two_share hxy ((ia x).1 h1) ((ia y).1 h2) ((ib x).1 h3) ((ib y).1 h4)
  refine up_oneB ua ub (fun z => ?_)
  rw [ia, ib]
  exact ⟨fun h => h.tog (hab.in hR).2.2 ht, fun h => h.tog (hcd.in hR).2.2 ht.symm⟩
/-- An edge's ends stand in just one block. -/
theorem blk_edge {m : Nat} {es : List (Int × Int)} {Bs : List (List Int)} (hR : RightG m es) (hB : BlocksL es Bs) {a b : Int} (ha : Adj es a b) : ∃ B, B ∈ Bs ∧ a ∈ B ∧ b ∈ B ∧ ∀ C, C ∈ Bs → a ∈ C → b ∈ C → C = B := by
  obtain ⟨B, h1, h2⟩ := blk_ex hR ha
  have ea : a ∈ B := (h2 a).2 (Bl.own (e := (a, b)) ha (Or.inl rfl))
  have eb : b ∈ B := (h2 b).2 (Bl.own (e := (a, b)) ha (Or.inr rfl))
  exact ⟨B, (hB.is B).2 h1, ea, eb, fun C hC k1 k2 => blk_share hR ((hB.is C).1 hC) h1 (ha.in hR).2.2 k1 k2 ea eb⟩
end Go.Proofs.Ytlebimolgienkaa
