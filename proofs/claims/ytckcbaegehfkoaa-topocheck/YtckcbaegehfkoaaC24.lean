/-
  The document's Apart (layer 5).
  The document's Turn (layer 5): all ways round are tried.
  carcanetlaw05.WalkApart answers true, for any walks that keep the contracts.
  A model cut small, as the laws of layer 8 begin: six sets of twenty numbers, in rows of their own.
  The program's homes: of each vertex the set that it is in.
  Rows that may be written: the headers in one block, each row in a block of its own (layer 8).
-/
import Derived.Test.YtckcbaegehfkoaaC10
import Derived.Test.YtckcbaegehfkoaaC07
import Derived.Test.YtckcbaegehfkoaaC12
import Derived.Test.YtckcbaegehfkoaaC05
import Derived.Test.YtckcbaegehfkoaaC13
import Derived.Test.YtckcbaegehfkoaaC02
import Derived.Test.YtckcbaegehfkoaaC01
import Derived.Test.YtckcbaegehfkoaaC03
import Derived.Test.YtckcbaegehfkoaaC23
import Derived.Test.YtckcbaegehfkoaaC04
import Derived.Test.YtckcbaegehfkoaaC09
import Derived.Laws.CopyOwn
namespace Go.Proofs.Ytckcbaegehfkoaa
open Go.RowKit Go.Lib

/-- The inner numbers of L below place m stand at no other place. -/
def RowOk (LL : List (List Int)) (L : List Int) (m : Nat) : Prop := ∀ k (h : k + 1 < L.length), 1 ≤ k → k < m → LL.flatten.count (L[k]'(by omega)) = 1
theorem apart_rows {LL : List (List Int)} : ApartL LL ↔ ∀ j (h : j < LL.length), RowOk LL LL[j] LL[j].length := by
  constructor
  · intro h j hj k hk h1 _
    exact h _ (List.getElem_mem hj) k hk h1
  · intro h L hL k hk h1
    obtain ⟨j, hj, rfl⟩ := List.getElem_of_mem hL
    exact h j hj k hk h1 (by omega)
theorem RowOk.next {LL : List (List Int)} {L : List Int} {m : Nat} (h : RowOk LL L m) (hc : ∀ hk : m + 1 < L.length, LL.flatten.count (L[m]'(by omega)) = 1) : RowOk LL L (m + 1) := fun k hk h1 hm => by
  by_cases e : k < m
  · exact h k hk h1 e
  · obtain rfl : k = m := by omega
    exact hc hk
theorem RowOk.more {LL : List (List Int)} {L : List Int} {m m' : Nat} (h : RowOk LL L m) (hm : L.length ≤ m + 1) : RowOk LL L m' := fun k hk h1 _ => h k hk h1 (by omega)
/-- How often x stands in the first a rows, and the first b places of the next. -/
def cntTo (LL : List (List Int)) (x : Int) (a b : Nat) : Nat := ((LL.take a).flatten).count x + ((LL[a]?.getD []).take b).count x
theorem cntTo_step {LL : List (List Int)} {x : Int} {a b : Nat} (ha : a < LL.length) (hb : b < LL[a].length) : cntTo LL x a (b + 1) = cntTo LL x a b + (if LL[a][b] = x then 1 else 0) := by
  unfold cntTo
  rw [List.getElem?_eq_getElem ha, Option.getD_some, List.take_succ_eq_append_getElem hb, List.count_append]
  simp [List.count_cons, Nat.add_assoc]
theorem cntTo_row {LL : List (List Int)} {x : Int} {a : Nat} (ha : a < LL.length) : cntTo LL x a LL[a].length = cntTo LL x (a + 1) 0 := by
  unfold cntTo
  rw [List.getElem?_eq_getElem ha, Option.getD_some, List.take_length, List.take_succ_eq_append_getElem ha, List.flatten_append, List.count_append]
  simp
theorem cntTo_all {LL : List (List Int)} {x : Int} : cntTo LL x LL.length 0 = LL.flatten.count x := by
  unfold cntTo
  simp
theorem cntTo_le {LL : List (List Int)} {x : Int} {a b : Nat} (ha : a < LL.length) : cntTo LL x a b ≤ LL.flatten.length := by
  have h1 : cntTo LL x a b ≤ cntTo LL x a LL[a].length := by
    unfold cntTo
    rw [List.getElem?_eq_getElem ha, Option.getD_some, List.take_length]
    exact Nat.add_le_add_left (List.Sublist.count_le _ (List.take_sublist _ _)) _
  refine Nat.le_trans h1 ?_
  rw [cntTo_row ha]
  unfold cntTo
  simp only [List.take_zero, List.count_nil, Nat.add_zero]
  refine Nat.le_trans List.count_le_length ?_
  conv => rhs; rw [← List.take_append_drop (a + 1) LL, List.flatten_append, List.length_append]
  omega

theorem iat_at' {w : World} {a : Option Addr} {xs : List Int} (h : IAt w a xs) {k : Nat} (hk : k < xs.length) : ∃ g off, a = some ⟨g, off, none⟩ ∧ w.cell? ⟨g, off + k, none⟩ = some (.int .i64 xs[k]) := by
  obtain ⟨g, off, ha, _, hc⟩ := h (by omega)
  exact ⟨g, off, ha, hc k hk⟩

set_option maxHeartbeats 2000000 in
set_option maxRecDepth 100000 in
theorem rapart_any (a : Option Addr) (cap : Nat) (LL : List (List Int)) (r : Bool) (w : World) (hN : LL.length ≤ 1000000) (hF : LL.flatten.length ≤ 1000000000) (h : LLAt w a LL) (hr : r = true ↔ ApartL LL) :
    Calls Try.prog 42 #[.slice a LL.length cap] w fun e w' => e = .returned (.bool r) ∧ Below w.heap.size w w' := by
  have HR : Hid (r = true ↔ ∀ j (h : j < LL.length), RowOk LL LL[j] LL[j].length) := hr.trans apart_rows
  have HLN : Hid (∀ j (h : j < LL.length), LL[j].length ≤ 1000000000) := fun j hj => Nat.le_trans (List.Sublist.length_le (List.sublist_flatten_of_mem (List.getElem_mem hj))) hF
  obtain ⟨N, hNe⟩ := ex_eq LL.length
  have HN := hid hNe
  rw [← hNe] at hN ⊢
  by_cases h0 : N = 0
  · subst h0
    obtain rfl : r = true := HR.out.2 (fun j hj => absurd hj (by omega))
    clear hr HR h HLN hF hNe HN
    go_enter Try.func42, Try.ntmps42
    go_wp2
    go_loopg [3] 0 (fun _ i wz => i = .int .i64 0 ∧ wz = w)
    case atStart => exact ⟨rfl, rfl⟩
    case round =>
      obtain ⟨rfl, rfl⟩ := hrel
      go_wp2
      go_ret
      exact ⟨rfl, Below.refl _ _⟩
  · obtain ⟨g, off, rfl, hg, hc⟩ := h (by omega)
    have HC : Hid (∀ X, Below w.heap.size w X → ∀ k (hk : k < LL.length), ∃ ak ck, X.cell? ⟨g, off + k, none⟩ = some (.slice ak LL[k].length ck) ∧ IAt X ak LL[k]) := fun X hX k hk => by
      obtain ⟨ak, ck, h1, h2⟩ := hc k hk
      exact ⟨ak, ck, (hX.cell (p := ⟨g, off + k, none⟩) hg).trans h1, h2.below hX⟩
    have HF := hid hF
    clear hr h hc hNe h0 hF
    go_enter Try.func42, Try.ntmps42
    go_wp2
    go_loopg [3] N (fun G i wz => ∃ k : Nat, k ≤ N ∧ N - k ≤ G ∧ i = .int .i64 k ∧ Hid (∀ j (h : j < LL.length), j < k → RowOk LL LL[j] LL[j].length) ∧ Hid (Below w.heap.size w wz))
    case atStart => exact ⟨0, Nat.zero_le _, by omega, rfl, (fun j _ h => absurd h (by omega)), Below.refl _ _⟩
    case round =>
      obtain ⟨i, hi, hG, rfl, hok, hb⟩ := hrel
      by_cases hlt : i < N
      · have hir : i < LL.length := by rw [← HN.out]; exact hlt
        have q1 : (i : Int) < (N : Int) := by omega
        have hR9 := HLN.out i hir
        obtain ⟨R, hR⟩ := ex_eq LL[i].length
        have HRR := hid hR
        rw [← hR] at hR9
        clear hR
        go_wp2
        go_loopg [4] R (fun G j wz => ∃ k : Nat, 1 ≤ k ∧ k ≤ R + 1 ∧ (R + 1) - k ≤ G ∧ j = .int .i64 k ∧ Hid (RowOk LL LL[i] k) ∧ Hid (Below w.heap.size w wz))
        case atStart => exact ⟨1, Nat.le_refl _, by omega, by omega, rfl, (fun k _ h1 h2 => absurd h2 (by omega)), hb⟩
        case round =>
          obtain ⟨k, hk1, hkR, hGk, rfl, hrk, hb2⟩ := hrel
          obtain ⟨ai, ci, di, hIi⟩ := HC.out wr hb2.out i hir
          rw [← HRR.out] at di
          by_cases hkl : k + 1 < R
          · have hkr : k < LL[i].length := by rw [← HRR.out]; omega
            obtain ⟨x, hx⟩ := ex_eq (LL[i][k]'hkr)
            have HX := hid hx
            have q2 : (k : Int) + 1 < (R : Int) := by omega
            have q3 : IntKind.i64.wrap ((k : Int) + 1) = (k : Int) + 1 := by rw [IntKind.wrap_i64]; omega
            have q3b : ((k + 1 : Nat) : Int) < (R : Int) := by omega
            have q3c : k + 1 < R := hkl
            clear hx hIi
            go_wp2
            go_loopg [5, 6] N (fun G tm aa wz => ∃ (T j : Nat), j ≤ N ∧ N - j ≤ G ∧ tm = .int .i64 T ∧ aa = .int .i64 j ∧ Hid (T = cntTo LL x j 0) ∧ Hid (Below w.heap.size w wz))
            case atStart => exact ⟨0, 0, Nat.zero_le _, by omega, rfl, rfl, (by unfold cntTo; simp : 0 = cntTo LL x 0 0), hb2⟩
            case round =>
              obtain ⟨T, j, hjN, hGj, rfl, rfl, hT, hb3⟩ := hrel
              by_cases hjl : j < N
              · have hjr : j < LL.length := by rw [← HN.out]; exact hjl
                have q4 : (j : Int) < (N : Int) := by omega
                have hQ9 := HLN.out j hjr
                obtain ⟨Q, hQ⟩ := ex_eq LL[j].length
                have HQ := hid hQ
                rw [← hQ] at hQ9
                clear hQ
                go_wp2
                go_loopg [5, 7] Q (fun G tm bb wz => ∃ (T c : Nat), c ≤ Q ∧ Q - c ≤ G ∧ tm = .int .i64 T ∧ bb = .int .i64 c ∧ Hid (T = cntTo LL x j c) ∧ Hid (Below w.heap.size w wz))
                case atStart => exact ⟨T, 0, Nat.zero_le _, by omega, rfl, rfl, hT, hb3⟩
                case round =>
                  obtain ⟨T, c, hcQ, hGc, rfl, rfl, hT, hb4⟩ := hrel
                  obtain ⟨aj, cj, dj, hIj⟩ := HC.out wr hb4.out j hjr
                  rw [← HQ.out] at dj
                  by_cases hcl : c < Q
                  · have hcr : c < LL[j].length := by rw [← HQ.out]; exact hcl
                    obtain ⟨ai, ci, di, hIi⟩ := HC.out wr hb4.out i hir
                    rw [← HRR.out] at di
                    obtain ⟨gj, oj, rfl, cy⟩ := iat_at' hIj hcr
                    obtain ⟨gi, oi, rfl, cx⟩ := iat_at' hIi hkr
                    rw [← HX.out] at cx
                    obtain ⟨y, hy⟩ := ex_eq (LL[j][c]'hcr)
                    rw [← hy] at cy
                    have hTl : T ≤ 1000000000 := by rw [hT.out]; exact Nat.le_trans (cntTo_le hjr) HF.out
                    have q5 : (c : Int) < (Q : Int) := by omega
                    have q6 : (k : Int) < (R : Int) := by omega
                    by_cases hxy : y = x
                    · have HTX : Hid (T + 1 = cntTo LL x j (c + 1)) := by
                        show T + 1 = _
                        rw [cntTo_step hjr hcr, ← hy, if_pos hxy, ← hT.out]
                      subst hxy
                      clear hIj hIi hy hT
                      go_wp2
                      go_quiet (fail)
                      go_wp2
                      go_roundg (Q - (c + 1))
                      case measure => omega
                      case rel => exact ⟨T + 1, c + 1, by omega, Nat.le_refl _, by go_num, by go_num, HTX, below_drewN hb4.out _⟩
                    · have HTX : Hid (T = cntTo LL x j (c + 1)) := by
                        show T = _
                        rw [cntTo_step hjr hcr, ← hy, if_neg hxy, ← hT.out, Nat.add_zero]
                      have hq : (y == x) = false := beq_eq_false_iff_ne.2 hxy
                      clear hIj hIi hy hT hxy
                      go_wp2
                      go_quiet (fail)
                      go_wp2
                      go_roundg (Q - (c + 1))
                      case measure => omega
                      case rel => exact ⟨T, c + 1, by omega, Nat.le_refl _, rfl, by go_num, HTX, below_drewN hb4.out _⟩
                  · obtain rfl : c = Q := by omega
                    have HTX : Hid (T = cntTo LL x (j + 1) 0) := by
                      show T = _
                      rw [← cntTo_row hjr, ← HQ.out]; exact hT.out
                    clear hIj hT
                    go_wp2
                    go_roundg (N - (j + 1))
                    case measure => omega
                    case rel => exact ⟨T, j + 1, by omega, Nat.le_refl _, rfl, by go_num, HTX, hb4⟩
              · obtain rfl : j = N := by omega
                have hTT : T = LL.flatten.count x := by rw [hT.out, HN.out, cntTo_all]
                by_cases hT1 : T = 1
                · have HNX : Hid (RowOk LL LL[i] (k + 1)) := hrk.out.next (fun _ => by rw [← HX.out, ← hTT]; exact hT1)
                  subst hT1
                  clear hT hTT hrk
                  go_wp2
                  go_roundg (R + 1 - (k + 1))
                  case measure => omega
                  case rel => exact ⟨k + 1, by omega, by omega, Nat.le_refl _, by go_num, HNX, hb3⟩
                · obtain rfl : r = false := b_false HR.out (fun hA => hT1 (by rw [hTT, HX.out]; exact hA i hir k (by rw [← HRR.out]; exact hkl) hk1 hkr))
                  have hq : ((T : Int) == 1) = false := beq_eq_false_iff_ne.2 (by omega)
                  clear hT hTT hrk HR
                  go_wp2
                  go_ret
                  exact ⟨rfl, hb3.out⟩
          · have HOK : Hid (∀ j (h : j < LL.length), j < i + 1 → RowOk LL LL[j] LL[j].length) := fun j hj hji => by
              by_cases e : j < i
              · exact hok.out j hj e
              · obtain rfl : j = i := by omega
                exact hrk.out.more (by rw [← HRR.out]; omega)
            have q2 : ¬ (k : Int) + 1 < (R : Int) := by omega
            have q3 : IntKind.i64.wrap ((k : Int) + 1) = (k : Int) + 1 := by rw [IntKind.wrap_i64]; omega
            have q3b : ¬ ((k + 1 : Nat) : Int) < (R : Int) := by omega
            clear hok hrk hIi
            go_wp2
            go_roundg (N - (i + 1))
            case measure => omega
            case rel => exact ⟨i + 1, by omega, Nat.le_refl _, by go_num, HOK, hb2⟩
      · obtain rfl : i = N := by omega
        obtain rfl : r = true := HR.out.2 (fun j hj => hok.out j hj (by rw [HN.out]; exact hj))
        clear HR hok
        go_wp2
        go_ret
        exact ⟨rfl, hb.out⟩
end Go.Proofs.Ytckcbaegehfkoaa
namespace Go.Proofs.Ytckcbaegehfkoaa
open Go.RowKit Go.Lib

/-- Two rows of the call's own, side by side. -/
structure TwoSt (D : Nat) (wo wz : World) (v6 v7 : Value) (X Y : List Int) : Prop where
  o6 : wz.ownsRow D 3 1 v6 X.length (X.map (Value.int .i64))
  o7 : wz.ownsRow D 3 1 v7 Y.length (Y.map (Value.int .i64))
  ne : v6.ownBlock ≠ v7.ownBlock
  bel : Below D wo wz
theorem TwoSt.turn {D : Nat} {wo wz : World} {v6 v7 : Value} {X Y : List Int} (h : TwoSt D wo wz v6 v7 X Y) : TwoSt D wo wz v7 v6 Y X := ⟨h.o7, h.o6, fun e => h.ne e.symm, h.bel⟩
theorem TwoSt.put {D : Nat} {wo wz w4 : World} {v6 v7 v4 : Value} {X Y : List Int} {O : Obj} {x : Int} (h : TwoSt D wo wz v6 v7 X Y) (hD : D ≤ wo.heap.size) (ho : w4.ownsRow D 3 1 v4 (X.length + 1) (X.map (Value.int .i64) ++ [.int .i64 x])) (hg : (wz.alloc O).grownBy w4 v6.ownBlock) (hat : v4.ownBlock = v6.ownBlock ∨ v4.ownBlock = some (wz.alloc O).heap.size) : TwoSt D wo w4 v4 v7 (X ++ [x]) Y := by
  have hk : KeptBut (fun k => some k = v6.ownBlock) wz w4 := (kept_alloc wz O _).trans (KeptBut.of_grown hg)
  refine ⟨by rw [List.length_append, List.map_append]; exact ho, own_kept h.o7 hk (fun g e e2 => h.ne (e2.symm.trans e.symm)), fun e => ?_, ?_⟩
  · rcases hat with h1 | h1
    · exact h.ne (h1.symm.trans e)
    · rw [h1] at e
      have := (h.o7.lt _ e.symm).2
      simp at this
      omega
  · exact h.bel.trans (hk.below (Nat.le_trans hD h.bel.size) (fun k _ e => (h.o6.lt k e.symm).1))
end Go.Proofs.Ytckcbaegehfkoaa
namespace Go.Proofs.Ytckcbaegehfkoaa
open Go.RowKit Go.Lib

/-- The first twenty of each of the first t rows. -/
def cutL (LL : List (List Int)) (t : Nat) : List (List Int) := (LL.take t).map (fun L => L.take 20)
theorem cutL_len {LL : List (List Int)} {t : Nat} (h : t ≤ LL.length) : (cutL LL t).length = t := by unfold cutL; rw [List.length_map, List.length_take]; omega
theorem cutL_next {LL : List (List Int)} {t : Nat} (h : t < LL.length) : cutL LL (t + 1) = cutL LL t ++ [LL[t].take 20] := by
  unfold cutL
  rw [List.take_succ_eq_append_getElem h, List.map_append]
  rfl
theorem CameR.wf {w : World} {a : Option Addr} {len cap : Nat} {LL : List (List Int)} (h : CameR w a len cap LL) : WfR LL := fun L hL x hx => by
  obtain ⟨k, hk, rfl⟩ := List.getElem_of_mem hL
  obtain ⟨_, _, _, _, hc⟩ := h.at_ (by omega)
  obtain ⟨_, _, _, hi⟩ := hc k hk
  exact hi.wf x hx
end Go.Proofs.Ytckcbaegehfkoaa
namespace Go.Proofs.Ytckcbaegehfkoaa
open Go.RowKit Go.Lib Go.Shelf

/-- Rows that may be written, each in a block of its own. -/
def RowsW (w : World) (base : Nat) (v : Value) (us : List Value) (LL : List (List Int)) : Prop := ∀ k (hk : k < LL.length), ∃ ak ck, us[k]? = some (.slice ak LL[k].length ck) ∧ w.ownsRow base 3 1 (.slice ak LL[k].length ck) LL[k].length (LL[k].map (Value.int .i64)) ∧ (∀ q, Value.ownBlock (.slice ak LL[k].length ck) = some q → v.ownBlock ≠ some q ∧ ∀ j, j < k → ∀ u, us[j]? = some u → u.ownBlock ≠ some q)
theorem RowsW.kept {S : Nat → Prop} {w w' : World} {base : Nat} {v : Value} {us : List Value} {LL : List (List Int)} (h : RowsW w base v us LL) (hk : KeptBut S w w') (hs : ∀ q, base ≤ q → q < w.heap.size → ¬ S q) : RowsW w' base v us LL := fun k hk' => by
  obtain ⟨ak, ck, h1, h2, h3⟩ := h k hk'
  exact ⟨ak, ck, h1, own_kept h2 hk (fun q hq => hs q (h2.lt q hq).1 (h2.lt q hq).2), h3⟩
theorem own_lowerS {w : World} {B B' : Nat} {e : TypeId} {size n : Nat} {v : Value} {xs : List Value} (h : w.ownsRow B e size v n xs) (hB : B' ≤ B) : w.ownsRow B' e size v n xs := by
  refine ⟨h.1, ?_⟩
  rcases h.2 with h1 | ⟨g, cap, cur, h1, h2, h3⟩
  · exact Or.inl h1
  · exact Or.inr ⟨g, cap, cur, h1, Nat.le_trans hB h2, h3⟩
theorem RowsW.lower {w : World} {B B' : Nat} {v : Value} {us : List Value} {LL : List (List Int)} (h : RowsW w B v us LL) (hB : B' ≤ B) : RowsW w B' v us LL := fun k hk => by
  obtain ⟨ak, ck, h1, h2, h3⟩ := h k hk
  exact ⟨ak, ck, h1, own_lowerS h2 hB, h3⟩
/-- While the sets are cut. -/
structure SmSt (W X : World) (b0 : Nat) (kk : Int) (v : Value) (us : List Value) (LL : List (List Int)) : Prop where
  c0 : X.cell? ⟨b0 + 2, 0, none⟩ = some (.int .i64 kk)
  c1 : X.cell? ⟨b0 + 2, 1, none⟩ = some v
  f1 : X.frozen? ⟨b0 + 2, 1, none⟩ = false
  ll : LLOwn X (b0 + 3) (fun q => b0 + 3 ≤ q) v us LL
  rw : RowsW X (b0 + 3) v us LL
  kp : Below (b0 + 2) W X
  sz : b0 + 3 ≤ X.heap.size
theorem SmSt.drew {W X : World} {b0 : Nat} {kk : Int} {v : Value} {us : List Value} {LL : List (List Int)} (h : SmSt W X b0 kk v us LL) : SmSt W X.drew b0 kk v us LL :=
  ⟨h.c0, h.c1, h.f1, h.ll.below (Below.refl _ _).drew, h.rw.kept (KeptBut.of_whole (fun _ => False) ((Below.refl _ _).drew)) (fun _ _ _ e => e), h.kp.drew, h.sz⟩
theorem SmSt.put {W X w4 w6 : World} {b0 : Nat} {kk : Int} {v v6 : Value} {us : List Value} {LL : List (List Int)} (h : SmSt W X b0 kk v us LL) {L : List Int} {ar : Option Addr} {cr : Nat} {o : Obj} (h4 : Below X.heap.size X w4)
    (ho : w4.ownsRow X.heap.size 3 1 (.slice ar L.length cr) L.length (L.map (Value.int .i64))) (ho6 : w6.ownsRow (b0 + 3) 25 1 v6 (LL.length + 1) (us ++ [.slice ar L.length cr])) (hg : (w4.alloc o).grownBy w6 v.ownBlock) (hat : v6.ownBlock = v.ownBlock ∨ v6.ownBlock = some (w4.alloc o).heap.size) :
    (w6.cell? ⟨b0 + 2, 1, none⟩ = some v ∧ w6.frozen? ⟨b0 + 2, 1, none⟩ = false) ∧ Below (b0 + 2) W w6 ∧ SmSt W (w6.setCell ⟨b0 + 2, 1, none⟩ v6) b0 kk v6 (us ++ [.slice ar L.length cr]) (LL ++ [L]) := by
  have hsz := h.sz
  have hsz4 := h4.size
  have hl4 := h.ll.below h4
  obtain ⟨ar', cr', hv, hI⟩ := own_form ho
  simp only [Value.slice.injEq, true_and] at hv
  obtain ⟨rfl, rfl⟩ := hv
  have hrb : ∀ q, Value.ownBlock (.slice ar L.length cr) = some q → X.heap.size ≤ q ∧ q < w4.heap.size := fun q hq => ho.lt q hq
  have hvb : ∀ q, v.ownBlock = some q → b0 + 3 ≤ q ∧ q < X.heap.size := fun q hq => h.ll.1.lt q hq
  have hne6 : ∀ q, q < w4.heap.size → v.ownBlock ≠ some q → v6.ownBlock ≠ some q := fun q h1 h2 e => by
    rcases hat with h3 | h3
    · exact h2 (h3.symm.trans e)
    · rw [h3, World.size_alloc] at e; simp only [Option.some.injEq] at e; omega
  have hput := hl4.put (L := L) (ar := ar) (cr := cr) (X := o) hI (fun g off e _ => by
    have := hrb g (by rw [e]; rfl)
    exact ⟨by omega, fun e2 => by have := hvb g e2; omega⟩) (by rw [World.size_alloc]; omega) ho6 hg hat
  have hk46 : KeptBut (fun k => some k = v.ownBlock) w4 w6 := (kept_alloc w4 o _).trans (KeptBut.of_grown hg)
  have hO4 : b0 + 2 < w4.heap.size := by omega
  have hOv : ¬ some (b0 + 2) = v.ownBlock := fun e => by have := hvb _ e.symm; omega
  have e0 := ((hk46.cell (p := ⟨b0 + 2, 0, none⟩) hO4 hOv).trans (h4.cell (p := ⟨b0 + 2, 0, none⟩) (by simp only; omega))).trans h.c0
  have e1 := ((hk46.cell (p := ⟨b0 + 2, 1, none⟩) hO4 hOv).trans (h4.cell (p := ⟨b0 + 2, 1, none⟩) (by simp only; omega))).trans h.c1
  have ef := ((hk46.frozen (p := ⟨b0 + 2, 1, none⟩) hO4 hOv).trans (h4.frozen (p := ⟨b0 + 2, 1, none⟩) (by simp only; omega))).trans h.f1
  have hb6 : Below (b0 + 2) W w6 := ((h.kp.trans (h4.mono (by omega))).alloc (by omega) o).grown hg (by rw [World.size_alloc]; omega) (fun q hq => by have := hvb q hq; omega)
  have hs6 : b0 + 3 ≤ w6.heap.size := by have := hk46.size; omega
  have hkset := kept_set w6 ⟨b0 + 2, 1, none⟩ v6
  refine ⟨⟨e1, ef⟩, hb6, ⟨?_, World.cell?_setCell_same' _ _ _ (by rw [e1]; rfl), by rw [World.frozen?_setCell]; exact ef, hput.kept hkset (fun k hk' _ e => by simp only at e; omega), ?_, hb6.setCell (p := ⟨b0 + 2, 1, none⟩) (Nat.le_refl _) _, by simpa using hs6⟩⟩
  · rw [World.cell?_setCell_other _ _ _ _ (fun e => by have := congrArg Addr.off e; simp at this)]; exact e0
  · refine RowsW.kept (S := fun q => q = b0 + 2) ?_ hkset (fun q hq _ e => by omega)
    intro k hk
    by_cases hlt : k < LL.length
    · obtain ⟨ak, ck, g1, g2, g3⟩ := h.rw k hlt
      have e2 : (LL ++ [L])[k] = LL[k] := List.getElem_append_left hlt
      rw [e2]
      have hul : k < us.length := by rw [h.ll.2.1]; exact hlt
      refine ⟨ak, ck, by rw [List.getElem?_append_left hul]; exact g1, ?_, fun q hq => ⟨?_, fun j hj u hu => ?_⟩⟩
      · refine own_kept (own_below g2 h4) hk46 (fun q hq e => (g3 q hq).1 e.symm)
      · have := (g2.lt q hq).2
        exact hne6 q (by omega) (g3 q hq).1
      · rw [List.getElem?_append_left (by omega)] at hu
        exact (g3 q hq).2 j hj u hu
    · have hkl : k = LL.length := by simp at hk; omega
      subst hkl
      have e2 : (LL ++ [L])[LL.length] = L := by simp
      rw [e2]
      refine ⟨ar, cr, by rw [List.getElem?_append_right (by rw [h.ll.2.1]; exact Nat.le_refl _), h.ll.2.1]; simp, ?_, fun q hq => ⟨?_, fun j hj u hu e => ?_⟩⟩
      · refine own_kept (own_lowerS ho (by omega)) hk46 (fun q hq e => ?_)
        have h1 := hrb q hq
        have h2 := hvb q e.symm
        omega
      · have h1 := hrb q hq
        exact hne6 q h1.2 (fun e => by have := hvb q e; omega)
      · have h1 := hrb q hq
        have hul : j < us.length := by rw [h.ll.2.1]; exact hj
        rw [List.getElem?_append_left hul] at hu
        obtain ⟨aj, cj, g1, g2, _⟩ := h.rw j hj
        rw [g1] at hu
        simp only [Option.some.injEq] at hu
        rw [← hu] at e
        have := (g2.lt q e).2
        omega
/-- What small tells. -/
def SmallTold (k : Int) (Ts : List (List Int)) (w w' : World) (v : Value) : Prop := ∃ a' c' us, v = .agg #[.int .i64 k, .slice a' Ts.length c'] ∧ LLOwn w' w.heap.size (fun q => w.heap.size ≤ q) (.slice a' Ts.length c') us Ts ∧ RowsW w' w.heap.size (.slice a' Ts.length c') us Ts ∧ Below w.heap.size w w'
theorem SmallTold.at {k : Int} {Ts : List (List Int)} {w w' : World} {v : Value} (h : SmallTold k Ts w w' v) : ∃ a' c', v = .agg #[.int .i64 k, .slice a' Ts.length c'] ∧ LLAt w' a' Ts ∧ Below w.heap.size w w' := by
  obtain ⟨a', c', us, hv, hl, _, hb⟩ := h
  obtain ⟨a2, c2, e, _, hat⟩ := hl.at
  simp only [Value.slice.injEq] at e
  rw [← e.1] at hat
  exact ⟨a', c', hv, hat, hb⟩
theorem iat_take6 {w : World} {a : Option Addr} {xs : List Int} (h : IAt w a xs) (k : Nat) : IAt w a (xs.take k) := fun h0 => by
  rw [List.length_take] at h0
  obtain ⟨g, off, ha, hg, hc⟩ := h (by omega)
  refine ⟨g, off, ha, hg, fun j hj => ?_⟩
  rw [List.length_take] at hj
  rw [List.getElem_take]
  exact hc j (by omega)

end Go.Proofs.Ytckcbaegehfkoaa
namespace Go.Proofs.Ytckcbaegehfkoaa
open Go.RowKit Go.Lib

/-- x was seen in set i: the sets ahead of k are done, and of set k the first j. -/
def SeenAt (Ss : List (List Int)) (k j : Nat) (x : Int) (i : Nat) : Prop := (i < k ∧ x ∈ Ss.getD i []) ∨ (i = k ∧ x ∈ (Ss.getD k []).take j)
/-- What is laid so far. -/
structure HomeTo (n : Nat) (Ss : List (List Int)) (k j : Nat) (D : Nat → Int) : Prop where
  is : ∀ x : Nat, x < n → ∀ i : Nat, D x = (i : Int) ↔ SeenAt Ss k j x i
  low : ∀ x : Nat, x < n → D x = -1 ∨ ∃ i : Nat, D x = (i : Int)
theorem HomeTo.row {n k j : Nat} {Ss : List (List Int)} {D : Nat → Int} (h : HomeTo n Ss k j D) (hj : (Ss.getD k []).length ≤ j) : HomeTo n Ss (k + 1) 0 D := by
  refine ⟨fun x hx i => ?_, h.low⟩
  rw [h.is x hx i]
  unfold SeenAt
  rw [List.take_of_length_le hj, List.take_zero]
  constructor
  · rintro (⟨h1, h2⟩ | ⟨rfl, h2⟩)
    · exact Or.inl ⟨by omega, h2⟩
    · exact Or.inl ⟨by omega, h2⟩
  · rintro (⟨h1, h2⟩ | ⟨_, h2⟩)
    · by_cases e : i = k
      · subst e; exact Or.inr ⟨rfl, h2⟩
      · exact Or.inl ⟨by omega, h2⟩
    · cases h2
theorem getD_at {Ss : List (List Int)} {k : Nat} (hk : k < Ss.length) : Ss.getD k [] = Ss[k] := by rw [List.getD_eq_getElem?_getD, List.getElem?_eq_getElem hk]; rfl
theorem HomeTo.put {n k j v : Nat} {Ss : List (List Int)} {D : Nat → Int} (h : HomeTo n Ss k j D) (hk : k < Ss.length) (hj : j < Ss[k].length) (hv : Ss[k][j] = (v : Int)) (hn : D v = -1) : HomeTo n Ss k (j + 1) (fun x => if x = v then (k : Int) else D x) := by
  have hm : ∀ x : Int, x ∈ (Ss.getD k []).take (j + 1) ↔ x ∈ (Ss.getD k []).take j ∨ x = (v : Int) := fun x => by
    rw [getD_at hk, ← List.take_append_getElem hj, List.mem_append, hv]; simp
  refine ⟨fun x hx i => ?_, fun x hx => ?_⟩
  · have hs : SeenAt Ss k (j + 1) x i ↔ SeenAt Ss k j x i ∨ (i = k ∧ x = v) := by
      unfold SeenAt
      rw [hm]
      constructor
      · rintro (h1 | ⟨h1, h2 | h2⟩)
        · exact Or.inl (Or.inl h1)
        · exact Or.inl (Or.inr ⟨h1, h2⟩)
        · exact Or.inr ⟨h1, by omega⟩
      · rintro ((h1 | ⟨h1, h2⟩) | ⟨h1, h2⟩)
        · exact Or.inl h1
        · exact Or.inr ⟨h1, Or.inl h2⟩
        · exact Or.inr ⟨h1, Or.inr (by omega)⟩
    rw [hs, ← h.is x hx i]
    by_cases e : x = v
    · subst e
      simp only [if_true, hn]
      constructor
      · intro h1; exact Or.inr ⟨by omega, trivial⟩
      · rintro (h1 | ⟨h1, _⟩)
        · omega
        · rw [h1]
    · simp only [if_neg e]
      constructor
      · exact Or.inl
      · rintro (h1 | ⟨_, h1⟩)
        · exact h1
        · exact absurd h1 e
  · by_cases e : x = v
    · exact Or.inr ⟨k, by simp only [if_pos e]⟩
    · simp only [if_neg e]; exact h.low x hx
/-- No vertex is in two sets. -/
def ApartS (Ss : List (List Int)) : Prop := ∀ i j, i < j → ∀ x, x ∈ Ss.getD i [] → x ∉ Ss.getD j []
theorem HomeTo.two {n k j v : Nat} {Ss : List (List Int)} {D : Nat → Int} (h : HomeTo n Ss k j D) (hk : k < Ss.length) (hj : j < Ss[k].length) (hv : Ss[k][j] = (v : Int)) (hvn : v < n) (hnd : Ss[k].Nodup) (hn : D v ≠ -1) : ¬ ApartS Ss := fun ha => by
  rcases h.low v hvn with h1 | ⟨i, h1⟩
  · exact hn h1
  · rcases (h.is v hvn i).1 h1 with ⟨h2, h3⟩ | ⟨h2, h3⟩
    · refine ha i k h2 v h3 ?_
      rw [getD_at hk, ← hv]; exact List.getElem_mem hj
    · rw [getD_at hk] at h3
      obtain ⟨q, hq, e⟩ := List.mem_iff_getElem.1 h3
      rw [List.length_take] at hq
      rw [List.getElem_take] at e
      exact List.pairwise_iff_getElem.1 hnd q j (by omega) hj (by omega) (e.trans hv.symm)
theorem HomeTo.wf {n : Nat} {Ss : List (List Int)} {D : Nat → Int} (h : HomeTo n Ss Ss.length 0 D) (hS : Ss.length ≤ 1000) : ∀ x, x < n → (Lit.int .i64 (D x)).wf = true := fun x hx => by
  have hb : -1 ≤ D x ∧ D x < 1000 := by
    rcases h.low x hx with h1 | ⟨i, h1⟩
    · omega
    · rcases (h.is x hx i).1 h1 with ⟨h2, _⟩ | ⟨_, h2⟩
      · omega
      · simp at h2
  exact WalkArith.wf_i64 (by omega)
theorem HomeTo.all {n : Nat} {Ss : List (List Int)} {D : Nat → Int} (h : HomeTo n Ss Ss.length 0 D) (hin : ∀ i, ∀ x ∈ Ss.getD i [], 0 ≤ x ∧ x < (n : Int)) : HomeIs n Ss (fun x => D x.toNat) ∧ ApartS Ss := by
  have key : ∀ x : Nat, x < n → ∀ i : Nat, D x = (i : Int) ↔ i < Ss.length ∧ (x : Int) ∈ Ss.getD i [] := fun x hx i => by
    rw [h.is x hx i]
    unfold SeenAt
    constructor
    · rintro (h1 | ⟨_, h2⟩)
      · exact h1
      · simp at h2
    · exact Or.inl
  refine ⟨fun x h0 h1 i hi => ?_, fun i j hij x hx hy => ?_⟩
  · have := key x.toNat (by omega) i
    rw [Int.toNat_of_nonneg h0] at this
    rw [this]
    exact ⟨fun h => h.2, fun h => ⟨hi, h⟩⟩
  · have ix := hin i x hx
    have e1 := (key x.toNat (by omega) i).2 ⟨mem_getD hx, by rw [Int.toNat_of_nonneg ix.1]; exact hx⟩
    have e2 := (key x.toNat (by omega) j).2 ⟨mem_getD hy, by rw [Int.toNat_of_nonneg ix.1]; exact hy⟩
    omega

end Go.Proofs.Ytckcbaegehfkoaa
namespace Go.Proofs.Ytckcbaegehfkoaa
open Go.RowKit Go.Lib Go.Shelf

/-- A list of rows that may be written. -/
structure RW (w : World) (base : Nat) (v : Value) (us : List Value) (LL : List (List Int)) : Prop where
  own : w.ownsRow base 25 1 v LL.length us
  len : us.length = LL.length
  rows : RowsW w base v us LL
theorem RW.kept {S : Nat → Prop} {w w' : World} {base : Nat} {v : Value} {us : List Value} {LL : List (List Int)} (h : RW w base v us LL) (hk : KeptBut S w w') (hs : ∀ q, base ≤ q → q < w.heap.size → ¬ S q) : RW w' base v us LL :=
  ⟨own_kept h.own hk (fun q hq => hs q (h.own.lt q hq).1 (h.own.lt q hq).2), h.len, h.rows.kept hk hs⟩
theorem RW.below {w w' : World} {base : Nat} {v : Value} {us : List Value} {LL : List (List Int)} (h : RW w base v us LL) (hb : Below w.heap.size w w') : RW w' base v us LL := h.kept (KeptBut.of_whole (fun _ => False) hb) (fun _ _ _ e => e)
/-- Two rows do not lie in one block. -/
theorem RW.ne {w : World} {base : Nat} {v : Value} {us : List Value} {LL : List (List Int)} (h : RW w base v us LL) {i k : Nat} (hi : i < LL.length) (hk : k < LL.length) (hne : i ≠ k) {ui uk : Value} (h1 : us[i]? = some ui) (h2 : us[k]? = some uk) {q : Nat} (hq : ui.ownBlock = some q) : uk.ownBlock ≠ some q := by
  rcases Nat.lt_or_gt_of_ne hne with hlt | hlt
  · intro e
    obtain ⟨ak, ck, g1, _, g3⟩ := h.rows k hk
    rw [h2] at g1
    cases g1
    exact (g3 q e).2 i hlt ui h1 hq
  · obtain ⟨ai, ci, g1, _, g3⟩ := h.rows i hi
    rw [h1] at g1
    cases g1
    exact (g3 q hq).2 k hlt uk h2
theorem RW.lls {w : World} {base : Nat} {a : Option Addr} {c : Nat} {us : List Value} {LL : List (List Int)} (h : RW w base (.slice a LL.length c) us LL) : LLS w a LL := fun h0 => by
  obtain ⟨g, cap', hv', _, hg, _, hcs⟩ := own_row h.own h0
  simp only [Value.slice.injEq, true_and] at hv'
  refine ⟨g, 0, hv'.1, hg, fun j hj => ?_⟩
  obtain ⟨ak, ck, h1, h2, _⟩ := h.rows j hj
  obtain ⟨a3, c3, e3, hs3⟩ := sl_own h2
  simp only [Value.slice.injEq, true_and] at e3
  obtain ⟨rfl, rfl⟩ := e3
  obtain ⟨a4, c4, e4, hI⟩ := iat_own h2
  simp only [Value.slice.injEq, true_and] at e4
  obtain ⟨rfl, rfl⟩ := e4
  exact ⟨ak, ck, by rw [Nat.zero_add]; exact hcs j _ h1, hI, hs3.1, hs3.2.1⟩
theorem lls_llat {w : World} {a : Option Addr} {LL : List (List Int)} (h : LLS w a LL) : LLAt w a LL := fun h0 => by
  obtain ⟨g, off, ha, hg, hc⟩ := h h0
  refine ⟨g, off, ha, hg, fun k hk => ?_⟩
  obtain ⟨ak, ck, h1, h2, _⟩ := hc k hk
  exact ⟨ak, ck, h1, h2⟩
/-- A number of a row is written. -/
theorem RW.cell {w : World} {base : Nat} {v : Value} {us : List Value} {LL : List (List Int)} (h : RW w base v us LL) {i : Nat} (hi : i < LL.length) {q ck : Nat} (hu : us[i]? = some (.slice (some ⟨q, 0, none⟩) LL[i].length ck)) (j : Nat) (y : Int) :
    RW (w.setCell ⟨q, j, none⟩ (.int .i64 y)) base v us (LL.set i (LL[i].set j y)) := by
  have hks := kept_set w ⟨q, j, none⟩ (.int .i64 y)
  obtain ⟨ai, ci, g1, g2, g3⟩ := h.rows i hi
  rw [hu] at g1
  simp only [Option.some.injEq, Value.slice.injEq, true_and] at g1
  obtain ⟨rfl, rfl⟩ := g1
  have hq : Value.ownBlock (.slice (some ⟨q, 0, none⟩) LL[i].length ck) = some q := rfl
  refine ⟨?_, by rw [List.length_set]; exact h.len, fun k hk => ?_⟩
  · rw [List.length_set]
    exact own_kept h.own hks (fun g hg e => (g3 q hq).1 (by rw [hg]; exact congrArg some e))
  · rw [List.length_set] at hk
    by_cases e : i = k
    · subst e
      refine ⟨some ⟨q, 0, none⟩, ck, ?_, ?_, ?_⟩
      · rw [List.getElem_set_self, List.length_set]; exact hu
      · rw [List.getElem_set_self, List.length_set, List.map_set]
        exact (g2.stored j _).1
      · rw [List.getElem_set_self, List.length_set]
        exact g3
    · obtain ⟨ak, ck2, k1, k2, k3⟩ := h.rows k hk
      refine ⟨ak, ck2, ?_, ?_, ?_⟩
      · rw [List.getElem_set_ne e]; exact k1
      · rw [List.getElem_set_ne e]
        exact own_kept k2 hks (fun g hg e2 => h.ne hi hk e hu k1 hq (by rw [hg]; exact congrArg some e2))
      · rw [List.getElem_set_ne e]; exact k3
/-- A row has been made longer: its header is written. -/
theorem RW.turn {X w4 : World} {base gh cap : Nat} {us : List Value} {LL : List (List Int)} (h : RW X base (.slice (some ⟨gh, 0, none⟩) LL.length cap) us LL) {i : Nat} (hi : i < LL.length) {ui : Value} (hu : us[i]? = some ui) {o : Obj} {ar : Option Addr} {cr : Nat} {L : List Int}
    (ho : w4.ownsRow base 3 1 (.slice ar L.length cr) L.length (L.map (Value.int .i64))) (hg : (X.alloc o).grownBy w4 ui.ownBlock) (hat : Value.ownBlock (.slice ar L.length cr) = ui.ownBlock ∨ Value.ownBlock (.slice ar L.length cr) = some (X.alloc o).heap.size) :
    w4.ownsRow base 25 1 (.slice (some ⟨gh, 0, none⟩) LL.length cap) LL.length us ∧ RW (w4.setCell ⟨gh, i, none⟩ (.slice ar L.length cr)) base (.slice (some ⟨gh, 0, none⟩) LL.length cap) (us.set i (.slice ar L.length cr)) (LL.set i L) := by
  have hk4 : KeptBut (fun k => some k = ui.ownBlock) X w4 := (kept_alloc X o _).trans (KeptBut.of_grown hg)
  obtain ⟨ai, ci, g1, g2, g3⟩ := h.rows i hi
  rw [hu] at g1
  simp only [Option.some.injEq] at g1
  subst g1
  have hv : Value.ownBlock (.slice (some ⟨gh, 0, none⟩) LL.length cap) = some gh := rfl
  have hgh := h.own.lt gh hv
  have hown4 : w4.ownsRow base 25 1 (.slice (some ⟨gh, 0, none⟩) LL.length cap) LL.length us := own_kept h.own hk4 (fun g hg e => (g3 g e.symm).1 hg)
  have hks := kept_set w4 ⟨gh, i, none⟩ (.slice ar L.length cr)
  have hnew : ∀ q, Value.ownBlock (.slice ar L.length cr) = some q → q ≠ gh ∧ ∀ k u, k < LL.length → k ≠ i → us[k]? = some u → u.ownBlock ≠ some q := fun q hq => by
    rcases hat with e | e
    · rw [e] at hq
      refine ⟨fun e2 => (g3 q hq).1 (by rw [e2]; rfl), fun k u hk hne hku => h.ne hi hk (fun e3 => hne e3.symm) hu hku hq⟩
    · rw [e, World.size_alloc] at hq
      simp only [Option.some.injEq] at hq
      refine ⟨by omega, fun k u hk _ hku e3 => ?_⟩
      obtain ⟨ak, ck2, k1, k2, _⟩ := h.rows k hk
      rw [hku] at k1
      cases k1
      have := (k2.lt q e3).2
      omega
  refine ⟨hown4, ?_, by rw [List.length_set, List.length_set]; exact h.len, fun k hk => ?_⟩
  · rw [List.length_set]; exact (hown4.stored i _).1
  · rw [List.length_set] at hk
    by_cases e : i = k
    · subst e
      refine ⟨ar, cr, ?_, ?_, ?_⟩
      · rw [List.getElem_set_self, List.getElem?_set_self (by rw [h.len]; exact hk)]
      · rw [List.getElem_set_self]
        exact own_kept ho hks (fun q hq e2 => (hnew q hq).1 e2)
      · rw [List.getElem_set_self]
        intro q hq
        refine ⟨fun e2 => (hnew q hq).1 (by cases e2; rfl), fun j hj u hju => ?_⟩
        rw [List.getElem?_set_ne (by omega)] at hju
        exact (hnew q hq).2 j u (by omega) (by omega) hju
    · obtain ⟨ak, ck2, k1, k2, k3⟩ := h.rows k hk
      refine ⟨ak, ck2, ?_, ?_, ?_⟩
      · rw [List.getElem_set_ne e, List.getElem?_set_ne e]; exact k1
      · rw [List.getElem_set_ne e]
        refine own_kept (own_kept k2 hk4 (fun q hq e2 => h.ne hi hk e hu k1 e2.symm hq)) hks (fun q hq e2 => (k3 q hq).1 ?_)
        rw [show q = gh from e2]; rfl
      · rw [List.getElem_set_ne e]
        intro q hq
        refine ⟨(k3 q hq).1, fun j hj u hju => ?_⟩
        by_cases e2 : i = j
        · subst e2
          rw [List.getElem?_set_self (by rw [h.len]; exact hi)] at hju
          simp only [Option.some.injEq] at hju
          subst hju
          intro e3
          exact (hnew q e3).2 k _ hk (fun e4 => e e4.symm) k1 hq
        · rw [List.getElem?_set_ne e2] at hju
          exact (k3 q hq).2 j hj u hju
end Go.Proofs.Ytckcbaegehfkoaa
