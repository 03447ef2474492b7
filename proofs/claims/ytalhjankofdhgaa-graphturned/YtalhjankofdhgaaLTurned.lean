/-
  carcanetlaw03.GraphTurned answers true.
-/
import Derived.Test.YtalhjankofdhgaaRAny
import Derived.Deep.RegionHeld3
namespace Go.Proofs.Ytalhjankofdhgaa
open Go.RowKit Go.Lib

/-- Two rows of told edges, each in a block of its own; the second tells nothing that the first does not tell. -/
structure TwoAt (w : World) (base m k : Nat) (v1 v2 : Value) (O T : List (Int × Int)) : Prop where
  one : Told w base m k v1 O
  two : w.ownsRow base 39 2 v2 T.length (cellsE T)
  allT : AllIn m T
  lenT : T.length ≤ 2 * k
  sub : ∀ e, e ∈ prs T → e ∈ prs O
  apart : ∀ b, v1.ownBlock = some b → v2.ownBlock ≠ some b
theorem two_nil (w : World) (base m : Nat) : TwoAt w base m 0 (.slice none 0 0) (.slice none 0 0) [] [] :=
  ⟨told_nil _ _ _, World.ownsRow_nil _ _ _ _, fun e he => absurd he (by simp), Nat.le_refl _, fun e he => he, fun b hb => by cases hb⟩
theorem own_two (w : World) (a b c d : Value) : (w.alloc (.cells #[a, b, c, d] 39 (0, 0))).ownsRow w.heap.size 39 2 (.slice (some ⟨w.heap.size, 0, none⟩) 2 2) 2 [a, b, c, d] :=
  ⟨rfl, Or.inr ⟨w.heap.size, 2, #[a, b, c, d], rfl, Nat.le_refl _, heap_alloc_new _ _, Nat.le_refl _, by unfold maxLen; omega, rfl, rfl⟩⟩
theorem TwoAt.mid {w w4 : World} {base m k : Nat} {v1 v2 : Value} {O T : List (Int × Int)} {X X' : Obj} (h : TwoAt w base m k v1 v2 O T) (hg4 : ((w.drew.alloc X).alloc X').grownBy w4 v1.ownBlock) : w4.ownsRow base 39 2 v2 T.length (cellsE T) := by
  refine World.ownsRow.kept ((World.ownsRow.alloc (w := w.drew) h.two X).alloc X') hg4 ?_
  match h1 : v2.ownBlock with
  | none => exact Or.inl rfl
  | some b => exact Or.inr (fun e => h.apart b e.symm h1)
theorem prs_turn {p q : Int} {O T : List (Int × Int)} (h : ∀ e, e ∈ prs T → e ∈ prs O) : ∀ e, e ∈ prs ((q, p) :: (p, p) :: T) → e ∈ prs (O ++ [(p, q)]) := fun e he => by
  obtain ⟨d, hd, hne, rfl⟩ := mem_prs.1 he
  simp only [List.mem_cons] at hd
  rcases hd with rfl | rfl | hd
  · rw [prs_snoc, List.mem_append]
    right
    simp only at hne
    rw [prs_one (show (p, q).1 ≠ (p, q).2 from fun e => hne e.symm)]
    simp only [List.mem_singleton, Prod.mk.injEq]
    omega
  · exact absurd rfl hne
  · rw [prs_snoc, List.mem_append]
    exact Or.inl (h _ (mem_prs.2 ⟨d, hd, hne, rfl⟩))
theorem TwoAt.step {w w4 w5 : World} {base m k p q : Nat} {v1 v2 v4 v5 : Value} {O T : List (Int × Int)} {Y : Obj} (h : TwoAt w base m k v1 v2 O T) (hp : p < m) (hq : q < m)
    (ho4 : w4.ownsRow base 39 2 v4 (O.length + 1) (cellsE O ++ [.int .i64 p, .int .i64 q]))
    (ho5 : w5.ownsRow base 39 2 v5 (2 + T.length) ([.int .i64 q, .int .i64 p, .int .i64 p, .int .i64 p] ++ cellsE T)) (hg5 : (w4.alloc Y).grownBy w5 (some w4.heap.size)) (hat5 : v5.ownBlock = some w4.heap.size ∨ v5.ownBlock = some (w4.alloc Y).heap.size) :
    TwoAt w5 base m (k + 1) v4 v5 (O ++ [((p : Int), (q : Int))]) (((q : Int), (p : Int)) :: ((p : Int), (p : Int)) :: T) := by
  have hlt : ∀ b, v4.ownBlock = some b → b < w4.heap.size := fun b hb => (ho4.lt b hb).2
  have hsY : (w4.alloc Y).heap.size = w4.heap.size + 1 := by simp
  refine ⟨h.one.put hp hq ((ho4.alloc Y).kept hg5 ?_), ?_, ?_, ?_, prs_turn h.sub, fun b hb e => ?_⟩
  · match h1 : v4.ownBlock with
    | none => exact Or.inl rfl
    | some b => exact Or.inr (fun e => by have := hlt b h1; simp only [Option.some.injEq] at e; omega)
  · have e1 : (((q : Int), (p : Int)) :: ((p : Int), (p : Int)) :: T).length = 2 + T.length := by simp; omega
    rw [e1]; exact ho5
  · intro e he
    simp only [List.mem_cons] at he
    rcases he with rfl | rfl | he
    · exact ⟨⟨by simp, by simp; omega⟩, by simp, by simp; omega⟩
    · exact ⟨⟨by simp, by simp; omega⟩, by simp, by simp; omega⟩
    · exact h.allT e he
  · have := h.lenT; simp; omega
  · have h1 := hlt b hb
    rcases hat5 with h2 | h2
    · rw [h2] at e; simp only [Option.some.injEq] at e; omega
    · rw [h2, hsY] at e; simp only [Option.some.injEq] at e; omega
theorem turned_norm {O T ys : List (Int × Int)} (h : IsNorm (T ++ O) ys) (hs : ∀ e, e ∈ prs T → e ∈ prs O) : IsNorm O ys :=
  ⟨h.1, fun e => by rw [h.2 e, prs_append, List.mem_append]; exact ⟨fun h => h.elim (hs e) id, Or.inr⟩⟩

set_option maxHeartbeats 4000000 in
set_option maxRecDepth 100000 in
theorem turned_law (n : Int) (a : Option Addr) (N cap : Nat) (l : List (Int × Int)) (w : World) (hl : N = l.length) (hE : EAt w a l) :
    Calls Try.prog 7 #[.int .i64 n, .slice a N cap] w fun e w' => e = .returned (.bool true) ∧ Below w.heap.size w w' := by
  obtain ⟨i1, hj, hy0, hy1, hy2⟩ := info_parts Try.info39
  obtain ⟨p0, hp0, hp40⟩ := rnd_of n (m := 40) (by omega)
  obtain ⟨m, hm⟩ := ex_eq (p0 + 1)
  have hm1 : 1 + (p0 : Int) = (m : Int) := by omega
  have hm2 : m ≤ 40 := by omega
  have hm3 : 0 < m := by omega
  have hp1 : (bits .and .i64 n 65535).tmod 40 = (p0 : Int) := hp0
  have hp2 : (0 : Int) ≤ (p0 : Int) := by omega
  have hp3 : (p0 : Int) < 40 := by omega
  have HL := hid hl
  have HE := hid hE
  clear hl hE hp0 hm
  go_enter Try.func7, Try.ntmps7
  go_wp2_with fail
  refine (shown_any _).mono ?_
  rintro e w1 ⟨rfl, hb1⟩
  have HE1 := hid (HE.out.below hb1)
  have HB1 := hid hb1
  clear HE hb1
  go_wp2
  clear hp1 hp2 hp3 hp40 hm1
  obtain ⟨b0, hb0⟩ := ex_eq w1.heap.size
  have HB0 := hid hb0
  have HEB : Hid (∀ X, Below b0 w1 X → EAt X a l) := fun X h => HE1.out.below (by rw [← hb0]; exact h)
  clear hb0
  go_loopg [6, 7, 8] 200 (fun G v1 v2 i wz => ∃ k : Nat, k ≤ 200 ∧ 200 - k ≤ G ∧ i = .int .i64 k ∧ Hid (∃ O T, TwoAt wz b0 m k v1 v2 O T) ∧ Below b0 w1 wz)
  case atStart => exact ⟨0, Nat.zero_le _, by omega, rfl, ⟨_, _, two_nil _ _ _⟩, Below.refl _ _⟩
  case round =>
    obtain ⟨k, hk, hG, rfl, hto, hb2⟩ := hrel
    have hszr : b0 ≤ wr.heap.size := by rw [HB0.out]; rw [HB0.out] at hb2; exact hb2.size
    by_cases hgo : k < N ∧ k < 200
    · obtain ⟨hlt, hk3⟩ := hgo
      have hkr : k < l.length := by rw [← HL.out]; exact hlt
      obtain ⟨g, off, rfl, d0, d1⟩ := (HEB.out _ hb2).at' hkr
      obtain ⟨e1, he1⟩ := ex_eq l[k].1
      obtain ⟨e2, he2⟩ := ex_eq l[k].2
      rw [← he1] at d0
      rw [← he2] at d1
      clear he1 he2
      obtain ⟨p, hp, hpm⟩ := rnd_of e1 hm3
      obtain ⟨q, hq, hqm⟩ := rnd_of e2 hm3
      obtain ⟨O, T, hTW⟩ := hto.out
      obtain ⟨aO, cO, hsO, hslO, _⟩ := eat_own hTW.one.own
      obtain ⟨aT, cT, hsT, hslT, _⟩ := eat_own hTW.two
      subst hsO hsT
      have HTW := hid hTW
      have hOl := hTW.one.len
      have hTl := hTW.lenT
      obtain ⟨KO, hKO⟩ := ex_eq O.length
      obtain ⟨KT, hKT⟩ := ex_eq T.length
      have HKO := hid hKO
      have HKT := hid hKT
      have HST : Hid (aT = none → KT = 0 ∧ cT = 0) := fun ha => by have h1 := hslT.2.1 ha; have h2 := hslT.1; rw [← hKT] at h2; exact ⟨by omega, h1⟩
      have q1 : (k : Int) < (N : Int) := by omega
      have q2 : (k : Int) < 200 := by omega
      have q4 : ¬ (m : Int) = 0 := by omega
      have q5 : (0 : Int) ≤ (k : Int) := by omega
      have q6 : ¬ m = 0 := by omega
      rw [← hKO] at hOl
      rw [← hKT] at hTl
      rw [← hKO, ← hKT]
      have hS := hid2 (show wr.drew.cell? ⟨g, off + k * 2, none⟩ = some (.int .i64 e1) from d0) (show wr.drew.cell? ⟨g, off + k * 2 + 1, none⟩ = some (.int .i64 e2) from d1)
      have hSZ := hid2 (cell_alloc_old hS.1 (Obj.cells #[.int .i64 0, .int .i64 0] 39 (0, 0))) (cell_alloc_old hS.2 (Obj.cells #[.int .i64 0, .int .i64 0] 39 (0, 0)))
      have hSA := hid2 (cell_alloc_old hS.1 (Obj.cells #[.int .i64 p, .int .i64 q] 39 (0, 0))) (cell_alloc_old hS.2 (Obj.cells #[.int .i64 p, .int .i64 q] 39 (0, 0)))
      clear hKO hKT hslO hslT hTW hto
      go_upto_region 8 with fail
      go_cut [9] from 31 to 47 (fun v9 wx => v9 = .pointer (some ⟨wr.heap.size, 0, none⟩) ∧ wx = wr.drew.alloc (.cells #[.int .i64 p, .int .i64 q] 39 (0, 0)))
      case first =>
        go_region_held3 (fun X => X.cell? ⟨g, off + k * 2, none⟩ = some (.int .i64 e1) ∧ X.cell? ⟨g, off + k * 2 + 1, none⟩ = some (.int .i64 e2)) (first | exact hS | exact hSZ | exact hSA) (fail)
        all_goals (try go_wp2_with fail)
        all_goals go_meet
        all_goals exact ⟨rfl, rfl⟩
      case rest =>
        obtain ⟨rfl, rfl⟩ := hcut
        obtain ⟨W, hW⟩ := ex_eq (wr.drew.alloc (.cells #[.int .i64 p, .int .i64 q] 39 (0, 0)))
        rw [← hW]
        have hO : W.heap[wr.heap.size]? = some (.cells #[.int .i64 p, .int .i64 q] 39 (0, 0)) := by rw [hW]; exact heap_alloc_new wr.drew _
        have hWs : W.heap.size = wr.heap.size + 1 := by rw [hW]; simp
        obtain ⟨x0, x1⟩ := two_cells hO
        obtain ⟨X', hX'⟩ := ex_eq (Obj.cells #[.int .i64 p, .int .i64 q] 39 (0, 0))
        have HOW : Hid ((W.alloc X').ownsRow b0 39 2 (.slice aO KO cO) KO (cellsE O)) := by
          have h := HTW.out.one.own
          rw [← HKO.out] at h
          show World.ownsRow _ _ _ _ _ _ _
          rw [hW]
          exact (World.ownsRow.alloc (w := wr.drew) h _).alloc _
        have HNW : Hid (∀ p', some (⟨W.heap.size, 0, none⟩ : Addr) = some p' → ∀ i v, [Value.int .i64 (p : Int), .int .i64 (q : Int)][i]? = some v → (W.alloc X').cell? (p'.add i) = some v) := fun p' hp' => by
          cases hp'
          exact cells_two (by rw [hX']; exact heap_alloc_new W _)
        have HON : Hid (∀ v ∈ [Value.int .i64 (p : Int), .int .i64 (q : Int)], v.oneCell' = true) := fun v hv => by simp at hv; rcases hv with rfl | rfl <;> rfl
        have H63 : Hid (KO + 1 ≤ maxLen) := by show KO + 1 ≤ maxLen; unfold maxLen; omega
        have HBS : Hid (b0 ≤ (W.alloc X').heap.size) := by show b0 ≤ _; simp; omega
        have hlt1 : ∀ b, (Value.slice aO KO cO).ownBlock = some b → b0 ≤ b ∧ b < wr.heap.size := fun b hb => HTW.out.one.own.lt b (by rw [← HKO.out]; exact hb)
        have HLT := hid hlt1
        have HX0 : Hid (∀ w4, (W.alloc X').grownBy w4 (Value.slice aO KO cO).ownBlock → (w4.cell? ⟨wr.heap.size, 0, none⟩ = some (.int .i64 p) ∧ w4.cell? ⟨wr.heap.size, 1, none⟩ = some (.int .i64 q)) ∧ Below b0 w1 w4 ∧ w4.ownsRow b0 39 2 (.slice aT KT cT) KT (cellsE T)) := fun w4 hg => by
          have hne : some wr.heap.size ≠ (Value.slice aO KO cO).ownBlock := fun e => by have := (HLT.out _ e.symm).2; omega
          refine ⟨⟨hg.cell (cell_alloc_old x0 _) hne, hg.cell (cell_alloc_old x1 _) hne⟩, ?_, ?_⟩
          · refine Below.grown ?_ hg HBS.out (fun b hb => (HLT.out b hb).1)
            rw [hW]
            exact (hb2.drew.alloc (by show b0 ≤ wr.heap.size; exact hszr) _).alloc (by simp; omega) _
          · have h := HTW.out
            rw [← HKO.out, ← HKT.out] at h
            rw [hW] at hg
            have := h.mid hg
            rwa [← HKT.out] at this
        have HWs := hid hWs
        have HXX := hid hX'
        clear hlt1 hW hWs hO hS hSZ hSA d0 d1 hp hq HEB HE1
        subst hX'
        go_wp2_with (at_builtin; refine wpList_append_any _ rfl _ _ 22 rfl b0 39 i1 _ 2 16 Try.underlying22 hj hy0 hy1 hy2 rfl (by decide) _ _ _ rfl HOW.out (some ⟨W.heap.size, 0, none⟩) 1 1 [.int .i64 p, .int .i64 q] rfl (fun h => by cases h) rfl HNW.out HON.out H63.out ?c4 HBS.out ?_)
        case c4 => omega
        intro v4 w4 hown4 hgrow _
        obtain ⟨⟨y0, y1⟩, hb4, hT4⟩ := HX0.out w4 hgrow
        have HSTEP : Hid (∀ w5 v5 Y, w5.ownsRow b0 39 2 v5 (2 + KT) ([.int .i64 q, .int .i64 p, .int .i64 p, .int .i64 p] ++ cellsE T) → (w4.alloc Y).grownBy w5 (some w4.heap.size) → (v5.ownBlock = some w4.heap.size ∨ v5.ownBlock = some (w4.alloc Y).heap.size) → ∃ O T, TwoAt w5 b0 m (k + 1) v4 v5 O T) := fun w5 v5 Y h1 h2 h3 => by
          rw [HKT.out] at h1
          rw [HKO.out] at hown4
          exact ⟨_, _, HTW.out.step hpm hqm hown4 h1 h2 h3⟩
        obtain ⟨Y, hY⟩ := ex_eq (Obj.cells #[.int .i64 q, .int .i64 p, .int .i64 p, .int .i64 p] 39 (0, 0))
        have HOW2 : Hid ((w4.alloc Y).ownsRow b0 39 2 (.slice (some ⟨w4.heap.size, 0, none⟩) 2 2) 2 [.int .i64 q, .int .i64 p, .int .i64 p, .int .i64 p]) := by
          show World.ownsRow _ _ _ _ _ _ _
          rw [hY]
          exact own_lower (own_two w4 _ _ _ _) (by rw [HB0.out]; exact hb4.size)
        have HNW2 : Hid (∀ p', aT = some p' → ∀ i v, (cellsE T)[i]? = some v → (w4.alloc Y).cell? (p'.add i) = some v) := by
          have h := hT4.alloc Y
          rw [HKT.out] at h
          obtain ⟨a', c', h1, _, h3⟩ := eat_own h
          cases h1
          exact h3.newsO
        have HCL : Hid ((cellsE T).length = KT * 2) := by show (cellsE T).length = KT * 2; rw [cellsE_len, HKT.out]
        have HBS2 : Hid (b0 ≤ (w4.alloc Y).heap.size) := by show b0 ≤ _; have := hb4.size; rw [← HB0.out] at this; simp; omega
        have HB5 : Hid (∀ w5, (w4.alloc Y).grownBy w5 (some w4.heap.size) → Below b0 w1 w5) := fun w5 hg => by
          have := hb4.size
          rw [← HB0.out] at this
          exact Below.grown (hb4.alloc this _) hg HBS2.out (fun b hb => by cases hb; exact this)
        clear hown4 hgrow hT4 hb4 HX0 HXX HBS HNW HOW HWs HLT H63 HON x0 x1
        subst hY
        go_wp2_with (at_builtin; refine wpList_append_any _ rfl _ _ 22 rfl b0 39 i1 _ 2 16 Try.underlying22 hj hy0 hy1 hy2 rfl (by decide) _ _ _ rfl HOW2.out aT KT cT (cellsE T) rfl HST.out HCL.out HNW2.out ?d2 ?d3 ?d4 HBS2.out ?_)
        case d2 => exact cellsE_one T
        case d3 => unfold maxLen; omega
        case d4 => omega
        intro v5 w5 hown5 hgrow5 hat5
        have HNX : Hid (∃ O T, TwoAt w5 b0 m (k + 1) v4 v5 O T) := HSTEP.out w5 v5 _ hown5 hgrow5 (hat5.imp id (fun h => by rw [h]; simp))
        have hb5 := HB5.out w5 hgrow5
        clear hown5 hgrow5 hat5 HSTEP HB5 HBS2 HCL HNW2 HOW2 y0 y1 hj hy0 hy1 hy2
        go_wp2
        go_roundg (200 - (k + 1))
        case measure => omega
        case rel => exact ⟨k + 1, by omega, Nat.le_refl _, by go_num, HNX, hb5⟩
    · obtain ⟨O, T, hTW⟩ := hto.out
      obtain ⟨aO, cO, hsO, hslO, hEO⟩ := eat_own hTW.one.own
      obtain ⟨aT, cT, hsT, hslT, hET⟩ := eat_own hTW.two
      subst hsO hsT
      have HTW := hid hTW
      have hOl := hTW.one.len
      have hTl := hTW.lenT
      obtain ⟨KO, hKO⟩ := ex_eq O.length
      obtain ⟨KT, hKT⟩ := ex_eq T.length
      have HKO := hid hKO
      have HKT := hid hKT
      have HSO : Hid (aO = none → KO = 0 ∧ cO = 0) := fun ha => by have h1 := hslO.2.1 ha; have h2 := hslO.1; rw [← hKO] at h2; exact ⟨by omega, h1⟩
      have HOW : Hid (wr.ownsRow b0 39 2 (.slice aT KT cT) KT (cellsE T)) := by
        have h := hTW.two
        rw [← hKT] at h
        exact h
      have HNW := hid hEO.newsO
      have HCL : Hid ((cellsE O).length = KO * 2) := by show (cellsE O).length = KO * 2; rw [cellsE_len, hKO]
      rw [← hKO] at hOl
      rw [← hKT] at hTl
      rw [← hKO, ← hKT]
      have hbw : Below w.heap.size w wr := HB1.out.trans (hb2.mono (by rw [HB0.out]; exact HB1.out.size))
      have HBW := hid hbw
      have HAP : Hid (∀ w4 v4, wr.grownBy w4 (Value.slice aT KT cT).ownBlock → w4.ownsRow b0 39 2 v4 (KT + KO) (cellsE T ++ cellsE O) → EAt w4 aO O ∧ Below w.heap.size w w4 ∧ ∃ a' c', v4 = .slice a' (KT + KO) c' ∧ EAt w4 a' (T ++ O)) := fun w4 v4 hg ho => by
        refine ⟨?_, ?_, ?_⟩
        · have h := hTW.one.own
          have h2 := h.kept (w' := w4) hg (by
            match h1 : (Value.slice aO O.length cO).ownBlock with
            | none => exact Or.inl rfl
            | some b => exact Or.inr (fun e => hTW.apart b h1 (by rw [← hKT]; exact e.symm)))
          obtain ⟨a', c', e1, _, e3⟩ := eat_own h2
          cases e1
          exact e3
        · refine hbw.trans (Below.grown (Below.refl _ _) hg hbw.size (fun b hb => ?_))
          have := (HOW.out.lt b hb).1
          have h2 := HB1.out.size
          rw [← HB0.out] at h2
          omega
        · rw [← cellsE_append, hKO, hKT, ← List.length_append] at ho
          obtain ⟨a', c', e1, _, e3⟩ := eat_own ho
          exact ⟨a', c', by rw [e1, hKO, hKT, List.length_append], e3⟩
      have HALL := hid hTW.one.all
      have HALT := hid hTW.allT
      have HSUB := hid hTW.sub
      have hway : ¬ (k : Int) < (N : Int) ∨ ((k : Int) < (N : Int) ∧ ¬ (k : Int) < 200) := by omega
      clear hgo hKO hKT hslO hslT hEO hET hTW hto hbw hb2 HEB HE1
      rcases hway with v1 | ⟨v1, v2⟩
      all_goals
        go_wp2_with (at_builtin; refine wpList_append_any _ rfl _ _ 22 rfl b0 39 i1 _ 2 16 Try.underlying22 hj hy0 hy1 hy2 rfl (by decide) _ _ _ rfl HOW.out aO KO cO (cellsE O) rfl HSO.out HCL.out HNW.out (cellsE_one O) (by unfold maxLen; omega) (by omega) hszr ?_)
        intro v4 w4 hown4 hgrow4 _
        obtain ⟨hEO, hBw4, a4, c4, rfl, hE4⟩ := HAP.out w4 v4 hgrow4 hown4
        have C1 : Hid (Calls Try.prog 11 #[.int .i64 m, .slice aO KO cO] w4 fun e w' => ∃ ys a' cap', e = .returned (.tuple #[.agg #[.int .i64 m, .slice a' ys.length cap'], .int .i64 0]) ∧ (RightG m ys ∧ IsNorm O ys) ∧ EAt w' a' ys ∧ Below w4.heap.size w4 w') := by
          show Calls _ _ _ _ _
          rw [HKO.out]
          exact (normal_any m aO cO O w4 (by rw [← HKO.out]; omega) hEO).mono fun _ _ ⟨er, ys, a', cap', h1, h2, h3, h4, h5⟩ => by
            obtain ⟨rfl, g1, g2, g3⟩ := normE_told h2 (by omega) HALL.out (by rw [← HKO.out]; omega)
            exact ⟨ys, a', cap', h1, ⟨g3, g1⟩, h4, h5⟩
        have HE4 := hid hE4
        have HB4 := hid hBw4
        clear hown4 hgrow4 hEO hE4 hBw4 HAP HCL HNW HOW HSO hj hy0 hy1 hy2
        go_wp2_with fail
        refine C1.out.mono ?_
        rintro e w5 ⟨ys, a5, c5, rfl, hR5, hE5, hb5⟩
        obtain ⟨M, hM⟩ := ex_eq ys.length
        rw [← hM]
        obtain ⟨V5, hV5⟩ := ex_eq (w5.alloc (.cells #[.int .i64 m, .slice a5 M c5] 25))
        obtain ⟨B, hB⟩ := ex_eq w5.heap.size
        have hbV5 : Below w5.heap.size w5 V5 := by rw [hV5]; exact below_new _ _
        have HG5 : Hid (GC V5 B m a5 M c5 ys) := by
          show GC V5 _ _ _ _ _ _
          rw [hV5, hB]; exact gc_new hE5
        have hBX5 : Below w4.heap.size w4 V5 := hb5.trans (hbV5.mono hb5.size)
        have HB5 : Hid (Below w.heap.size w V5) := HB4.out.trans (hBX5.mono HB4.out.size)
        have C2 : Hid (Calls Try.prog 11 #[.int .i64 m, .slice a4 (KT + KO) c4] V5 fun e w' => ∃ a' cap', e = .returned (.tuple #[.agg #[.int .i64 m, .slice a' M cap'], .int .i64 0]) ∧ EAt w' a' ys ∧ Below V5.heap.size V5 w') := by
          show Calls _ _ _ _ _
          have hl : (T ++ O).length = KT + KO := by rw [List.length_append, HKO.out, HKT.out]
          rw [← hl]
          exact (normal_any m a4 c4 (T ++ O) V5 (by rw [hl]; omega) (HE4.out.below hBX5)).mono fun _ _ ⟨er, zs, a', cap', h1, h2, h3, h4, h5⟩ => by
            obtain ⟨rfl, g1, g2, g3⟩ := normE_told h2 (by omega) (fun e he => (List.mem_append.1 he).elim (HALT.out e) (HALL.out e)) (by rw [hl]; omega)
            obtain rfl := (turned_norm g1 HSUB.out).one hR5.2
            exact ⟨a', cap', by rw [h1, hM]; rfl, h4, h5⟩
        have HM := hid hM
        have HR5 := hid hR5.1
        have HV5 := hid hV5
        have HBB := hid hB
        clear hM hV5 hB hbV5 hBX5 hE5 hb5 hR5 C1 HE4
        go_wp2_with fail
        rw [← HV5.out]
        refine C2.out.mono ?_
        rintro e w6 ⟨a6, c6, rfl, hE6, hb6⟩
        obtain ⟨V6, hV6⟩ := ex_eq (w6.alloc (.cells #[.int .i64 m, .slice a6 M c6] 25))
        obtain ⟨D, hD⟩ := ex_eq w6.heap.size
        have hbV6 : Below w6.heap.size w6 V6 := by rw [hV6]; exact below_new _ _
        have HH6 : Hid (GC V6 D m a6 M c6 ys) := by
          show GC V6 _ _ _ _ _ _
          rw [hV6, hD]; exact gc_new hE6
        have hBX6 : Below V5.heap.size V5 V6 := hb6.trans (hbV6.mono hb6.size)
        have HB6 : Hid (Below w.heap.size w V6) := HB5.out.trans (hBX6.mono HB5.out.size)
        have HG6 := hid (HG5.out.on hBX6)
        have C3 : Hid (Calls Try.prog 11 #[.int .i64 m, .slice a5 M c5] V6 fun e w' => ∃ a' cap', e = .returned (.tuple #[.agg #[.int .i64 m, .slice a' M cap'], .int .i64 0]) ∧ EAt w' a' ys ∧ Below V6.heap.size V6 w') := by
          show Calls _ _ _ _ _
          rw [HM.out]
          exact (normal_any m a5 c5 ys V6 (by have := HR5.out.2.2.1; omega) HG6.out.at_).mono fun _ _ ⟨er, zs, a', cap', h1, h2, h3, h4, h5⟩ => by
            obtain ⟨rfl, g1, g2, g3⟩ := normE_told h2 (by omega) (fun e he => by have := HR5.out.2.2.2.1 e he; omega) HR5.out.2.2.1
            obtain rfl := g1.one (norm_right HR5.out)
            exact ⟨a', cap', h1, h4, h5⟩
        have HV6 := hid hV6
        have HDD := hid hD
        clear hV6 hD hbV6 hBX6 hE6 hb6 C2 HG5 HB5 HV5
        obtain ⟨g0, g1⟩ := HG6.out.cells
        rw [HV6.out] at g0 g1
        rw [← HBB.out]
        go_wp2_with fail
        rw [← HV6.out]
        rw [← HV6.out] at g0 g1
        refine C3.out.mono ?_
        rintro e w7 ⟨a7, c7, rfl, hE7, hb7⟩
        obtain ⟨V7, hV7⟩ := ex_eq (w7.alloc (.cells #[.int .i64 m, .slice a7 M c7] 25))
        obtain ⟨F, hF⟩ := ex_eq w7.heap.size
        have hbV7 : Below w7.heap.size w7 V7 := by rw [hV7]; exact below_new _ _
        have HI7 : Hid (GC V7 F m a7 M c7 ys) := by
          show GC V7 _ _ _ _ _ _
          rw [hV7, hF]; exact gc_new hE7
        have hBX7 : Below V6.heap.size V6 V7 := hb7.trans (hbV7.mono hb7.size)
        have HB7 : Hid (Below w.heap.size w V7) := HB6.out.trans (hBX7.mono HB6.out.size)
        have HG7 := hid (HG6.out.on hBX7)
        have HH7 := hid (HH6.out.on hBX7)
        have C4 : Hid (∀ W a' c', EAt W a5 ys → EAt W a' ys → Calls Try.prog 13 #[.agg #[.int .i64 m, .slice a5 M c5], .agg #[.int .i64 m, .slice a' M c']] W fun e w' => e = .returned (.bool true) ∧ Below W.heap.size W w') := fun W a' c' h h' => by
          rw [HM.out]
          exact sameGraph_any m m a5 a' c5 c' ys ys true W (by have := HR5.out.2.2.1; omega) h h' ⟨fun _ => ⟨rfl, rfl⟩, fun _ => rfl⟩
        have HV7 := hid hV7
        have HFF := hid hF
        clear hV7 hF hbV7 hBX7 hE7 hb7 C3 HG6 HH6 HB6 HV6 g0 g1
        obtain ⟨g0, g1⟩ := HG7.out.cells
        obtain ⟨h0, h1⟩ := HH7.out.cells
        obtain ⟨i0, i1⟩ := HI7.out.cells
        rw [HV7.out] at g0 g1 h0 h1 i0 i1
        rw [← HDD.out]
        go_wp2_with fail
        rw [← HV7.out]
        refine (C4.out V7 a6 c6 HG7.out.at_ HH7.out.at_).mono ?_
        rintro e w8 ⟨rfl, hb8⟩
        have HG8 := hid (HG7.out.on hb8)
        have HI8 := hid (HI7.out.on hb8)
        have HB8 : Hid (Below w.heap.size w w8) := HB7.out.trans (hb8.mono HB7.out.size)
        clear g0 g1 h0 h1 i0 i1 HV7 HG7 HH7 HI7 HB7
        obtain ⟨g0, g1⟩ := HG8.out.cells
        obtain ⟨i0, i1⟩ := HI8.out.cells
        rw [← HFF.out]
        go_wp2_with fail
        refine (C4.out w8 a7 c7 HG8.out.at_ HI8.out.at_).mono ?_
        rintro e w9 ⟨rfl, hb9⟩
        have HB9 : Hid (Below w.heap.size w w9) := HB8.out.trans (hb9.mono HB8.out.size)
        clear hb9 hb8
        go_wp2
        go_ret
        exact ⟨rfl, HB9.out⟩
end Go.Proofs.Ytalhjankofdhgaa
