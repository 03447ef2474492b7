/-
  The document's Turn (layer 5): all ways round are tried.
-/
import Derived.Test.YtccbheijfnodjaaB12
import Derived.Test.YtccbheijfnodjaaB14
import Derived.Test.YtccbheijfnodjaaB07
import Derived.Test.YtccbheijfnodjaaB05
namespace Go.Proofs.Ytccbheijfnodjaa
open Go.RowKit Go.Lib

/-- Two rows of the call's own, side by side. -/
structure TwoSt (D : Nat) (wo wz : World) (v6 v7 : Value) (X Y : List Int) : Prop where
  o6 : wz.ownsRow D 3 1 v6 X.length (X.map (Value.int .i64))
  o7 : wz.ownsRow D 3 1 v7 Y.length (Y.map (Value.int .i64))
  ne : v6.ownBlock ≠ v7.ownBlock
  bel : Below D wo wz
theorem TwoSt.turn {D : Nat} {wo wz : World} {v6 v7 : Value} {X Y : List Int} (h : TwoSt D wo wz v6 v7 X Y) : TwoSt D wo wz v7 v6 Y X := ⟨h.o7, h.o6, fun e => h.ne e.symm, h.bel⟩
theorem TwoSt.put {D : Nat} {wo wz w4 : World} {v6 v7 v4 : Value} {X Y : List Int} {O : Obj} {x : Int} (h : TwoSt D wo wz v6 v7 X Y) (hD : D ≤ wo.heap.size) (ho : w4.ownsRow D 3 1 v4 (X.length + 1) (X.map (Value.int .i64) ++ [.int .i64 x])) (hg : (wz.alloc O).grownBy w4 v6.ownBlock) (hat : v4.ownBlock = v6.ownBlock ∨ v4.ownBlock = some (wz.alloc O).heap.size) : TwoSt D wo w4 v4 v7 (X ++ [x]) Y := by
  have hk : KeptBut (fun k => some k = v6.ownBlock) wz w4 := (kept_alloc wz O _).trans (KeptBut.of_grown hg)
  refine ⟨by rw [List.length_append, List.map_append]; exact ho, own_kept h.o7 hk (fun g e e2 => h.ne (e2.symm.trans e.symm)), fun e => ?_, ?_⟩
  · rcases hat with h1 | h1
    · exact h.ne (h1.symm.trans e)
    · rw [h1] at e
      have := (h.o7.lt _ e.symm).2
      simp at this
      omega
  · exact h.bel.trans (hk.below (Nat.le_trans hD h.bel.size) (fun k _ e => (h.o6.lt k e.symm).1))
theorem two_start (w : World) : TwoSt w.heap.size w ((w.alloc (.cells #[] 3)).alloc (.cells #[] 3)) (.slice (some ⟨w.heap.size, 0, none⟩) 0 0) (.slice (some ⟨w.heap.size + 1, 0, none⟩) 0 0) [] [] := by
  have hs : (w.alloc (.cells #[] 3)).heap.size = w.heap.size + 1 := by simp
  rw [← hs]
  refine ⟨?_, ?_, ?_, ?_⟩
  · exact (own_emptyI (w := w) _ rfl).alloc _
  · exact own_lower (own_emptyI (w := w.alloc (.cells #[] 3)) _ rfl) (by simp)
  · simp [Value.ownBlock]
  · exact ((Below.refl _ w).alloc (Nat.le_refl _) _).alloc (by simp) _
theorem oneL_take {c : List Int} {s i : Nat} (hi : i < c.length) : (oneL c s).take (i + 1) = (oneL c s).take i ++ [c.getD ((s + i) % c.length) 0] := by
  rw [List.take_succ_eq_append_getElem (by rw [oneL_len]; exact hi), oneL_at]
theorem twoL_take {c : List Int} {s i : Nat} (hi : i < c.length) : (twoL c s).take (i + 1) = (twoL c s).take i ++ [c.getD ((s + c.length - i) % c.length) 0] := by
  rw [List.take_succ_eq_append_getElem (by rw [twoL_len]; exact hi), twoL_at]
set_option maxHeartbeats 4000000 in
set_option maxRecDepth 100000 in
theorem rturn_any (a : Option Addr) (cap : Nat) (c : List Int) (w : World) (hN : c.length ≤ 1000000) (hs : Slw a cap c.length) (h : IAt w a c) :
    Calls Try.prog 23 #[.slice a c.length cap] w fun e w' => ∃ v, e = .returned v ∧ TurnTold c w w' v := by
  obtain ⟨i0, hi0, hz0, hz1, hz2⟩ := info_parts Try.info3
  obtain ⟨N, hNe⟩ := ex_eq c.length
  have HN := hid hNe
  obtain ⟨u, hu⟩ := boolR_of (c.Nodup)
  have CU : Hid (∀ X, IAt X a c → Calls Try.prog 36 #[.slice a N cap] X fun e w' => e = .returned (.bool u) ∧ Below X.heap.size X w') := fun X hX => by
    rw [hNe]; exact unlike_any a cap c u X hN hX hu
  have HB : Hid (∀ X, Below w.heap.size w X → IAt X a c) := fun X hX => h.below hX
  have CL : Hid (∀ X (a1 a2 : Option Addr) (c1 c2 : Nat) (xs ys : List Int), xs.length = N → ys.length = N → IAt X a1 xs → IAt X a2 ys → Calls Try.prog 43 #[.slice a1 N c1, .slice a2 N c2] X fun e w' => e = .returned (.bool (lexL xs ys)) ∧ Below X.heap.size X w') := fun X a1 a2 c1 c2 xs ys h1 h2 h3 h4 => by
    have := less_any a1 a2 c1 c2 xs ys X (by omega) h3 h4
    rw [h1, h2] at this
    exact this
  have HU := hid hu
  have hnil := hs.2
  rw [← hNe] at hN ⊢
  have HOW1 : Hid ((w.alloc (.cells #[] 3)).ownsRow w.heap.size 3 1 (.slice (some ⟨w.heap.size, 0, none⟩) 0 0) 0 []) := own_emptyI _ rfl
  have HNW1 : Hid (∀ q, a = some q → ∀ j u, (c.map (Value.int .i64))[j]? = some u → (w.alloc (.cells #[] 3)).cell? (q.add j) = some u) := fun q hq j u hu' => by
    subst hq
    rw [List.getElem?_map] at hu'
    have hjl : j < c.length := by
      by_cases hh : j < c.length
      · exact hh
      · rw [List.getElem?_eq_none (by omega)] at hu'; cases hu'
    rw [List.getElem?_eq_getElem hjl] at hu'
    cases hu'
    obtain ⟨g, off, hg, _, hc⟩ := h (by omega)
    cases hg
    rw [add_at]
    exact cell_alloc_old (hc j hjl) _
  have HON1 : Hid (∀ v ∈ c.map (Value.int .i64), v.oneCell' = true) := fun v hv => by obtain ⟨z, _, rfl⟩ := List.mem_map.1 hv; rfl
  have HLN1 : Hid ((c.map (Value.int .i64)).length = N * 1) := by show _ = _; rw [List.length_map, hNe, Nat.mul_one]
  have H631 : Hid (0 + N ≤ maxLen) := by show 0 + N ≤ maxLen; unfold maxLen; omega
  have HBS1 : Hid (w.heap.size ≤ (w.alloc (.cells #[] 3)).heap.size) := by show _ ≤ _; simp
  have HNIL : Hid (a = none → N = 0 ∧ cap = 0) := fun e => by
    have h1 := hnil e
    have h2 := hs.1
    exact ⟨by omega, h1⟩
  clear h hs hNe hu hnil
  go_enter Try.func23, Try.ntmps23
  go_wp2_with (at_builtin; refine wpList_append_any _ rfl _ _ 25 rfl w.heap.size 3 i0 _ 1 8 Try.underlying25 hi0 hz0 hz1 hz2 rfl (by decide) _ _ _ rfl HOW1.out a N cap (c.map (Value.int .i64)) rfl HNIL.out HLN1.out HNW1.out HON1.out H631.out ?c4 HBS1.out ?_)
  case c4 => omega
  intro v3 w1 hown1 hgrow1 _
  have hb1 : Below w.heap.size w w1 := Below.grown ((Below.refl _ _).alloc (Nat.le_refl _) _) hgrow1 (by simp) (fun j hj => (HOW1.out.lt j hj).1)
  have hown1' : w1.ownsRow w.heap.size 3 1 v3 c.length (c.map (Value.int .i64)) := by rw [← HN.out]; simpa using hown1
  obtain ⟨a3, c3, hv3, hsl3⟩ := sl_own hown1'
  obtain ⟨a3', c3', hv3', hI3⟩ := iat_own hown1'
  rw [hv3] at hv3'
  simp only [Value.slice.injEq, true_and] at hv3'
  obtain ⟨rfl, rfl⟩ := hv3'
  rw [← HN.out] at hv3 hsl3
  subst hv3
  have HSL3 := hid hsl3
  have HI3 := hid hI3
  have HB1 := hid hb1
  clear hown1 hown1' hgrow1 HOW1 HNW1 HON1 HLN1 H631 HBS1 HNIL hsl3 hI3 hb1
  by_cases h3 : N < 3
  · have HT : Hid (TurnTold c w w1 (.slice a3 N c3)) := by
      refine ⟨a3, c3, c, by rw [HN.out], Or.inl ⟨fun hr => ?_, rfl⟩, by rw [← HN.out]; exact HSL3.out, HI3.out, HB1.out⟩
      have := hr.1
      rw [← HN.out] at this
      omega
    have q1 : (N : Int) < 3 := by omega
    clear HU
    go_wp2
    go_ret
    exact ⟨_, rfl, HT.out⟩
  · have q1 : ¬ (N : Int) < 3 := by omega
    go_wp2_with fail
    refine (CU.out w1 (HB.out w1 HB1.out)).mono ?_
    rintro e w2 ⟨rfl, hb2⟩
    have HB2 : Hid (Below w.heap.size w w2) := HB1.out.trans (hb2.mono HB1.out.size)
    have HI2 := hid (HI3.out.below hb2)
    clear hb2 CU HI3 HB1
    cases u with
    | false =>
      have HT : Hid (TurnTold c w w2 (.slice a3 N c3)) := ⟨a3, c3, c, by rw [HN.out], Or.inl ⟨fun hr => absurd (HU.out.2 hr.2) (by simp), rfl⟩, by rw [← HN.out]; exact HSL3.out, HI2.out, HB2.out⟩
      clear HU
      go_wp2
      go_ret
      exact ⟨_, rfl, HT.out⟩
    | true =>
      have HRG : Hid (Ring c) := ⟨by rw [← HN.out]; omega, HU.out.1 rfl⟩
      have hcl : 0 < c.length := by rw [← HN.out]; omega
      clear HU
      have HST : Hid (∃ a3' c3' B, (.slice a3 N c3 : Value) = .slice a3' N c3' ∧ BestTo c B 0 ∧ Sl a3' c3' N ∧ IAt w2 a3' B ∧ Below w.heap.size w w2) := ⟨a3, c3, c, rfl, best_start hcl, HSL3.out, HI2.out, HB2.out⟩
      clear HI2 HSL3 HB2
      go_wp2
      go_loopg [3, 5] N (fun G v i wz => ∃ k : Nat, k ≤ N ∧ N - k ≤ G ∧ i = .int .i64 k ∧ Hid (∃ a3' c3' B, v = .slice a3' N c3' ∧ BestTo c B k ∧ Sl a3' c3' N ∧ IAt wz a3' B ∧ Below w.heap.size w wz))
      case atStart => exact ⟨0, Nat.zero_le _, by omega, rfl, HST⟩
      case round =>
        obtain ⟨f, hf, hG, rfl, hst⟩ := hrel
        obtain ⟨a5, c5, B, hv5, hbest, hsl5, hI5, hb5⟩ := hst.out
        subst hv5
        by_cases hlt : f < N
        · have hfc : f < c.length := by rw [← HN.out]; exact hlt
          have q2 : (f : Int) < (N : Int) := by omega
          obtain ⟨wo, hwo⟩ := ex_eq wr
          obtain ⟨D, hD⟩ := ex_eq wo.heap.size
          obtain ⟨W0, hW0⟩ := ex_eq ((wo.alloc (.cells #[] 3)).alloc (.cells #[] 3))
          have HTS : Hid (TwoSt D wo W0 (.slice (some ⟨wo.heap.size, 0, none⟩) 0 0) (.slice (some ⟨wo.heap.size + 1, 0, none⟩) 0 0) ((oneL c f).take 0) ((twoL c f).take 0)) := by
            rw [hW0, hD]; exact two_start wo
          have HBE := hid hbest
          have HSL5 := hid hsl5
          have HI5 := hid hI5
          have HB5 := hid hb5
          have hDle : D ≤ wo.heap.size := by omega
          have HDD := hid hD
          have HW0 := hid hW0
          have HIX : Hid (∀ X, Below D wo X → IAt X a c ∧ IAt X a5 B ∧ Below w.heap.size w X) := fun X hX => by
            have hX' : Below wo.heap.size wo X := by rw [← hD]; exact hX
            rw [hwo] at hX'
            have hbx : Below w.heap.size w X := hb5.trans (hX'.mono hb5.size)
            exact ⟨HB.out X hbx, hI5.below hX', hbx⟩
          clear hst hbest hsl5 hI5 hb5 hD hW0 HI5
          subst hwo
          go_wp2
          rw [← HW0.out]
          clear HW0
          go_loopg [6, 7, 8] N (fun G v6 v7 i wz => ∃ k : Nat, k ≤ N ∧ N - k ≤ G ∧ i = .int .i64 k ∧ Hid (TwoSt D wo wz v6 v7 ((oneL c f).take k) ((twoL c f).take k)))
          case atStart => exact ⟨0, Nat.zero_le _, by omega, rfl, HTS⟩
          case round =>
            obtain ⟨k, hk, hGk, rfl, hts⟩ := hrel
            by_cases hkl : k < N
            · have hkc : k < c.length := by rw [← HN.out]; exact hkl
              obtain ⟨g, off, rfl, hg, hcs⟩ := (HIX.out wr hts.out.bel).1 hcl
              -- the places
              obtain ⟨s1, hs1⟩ := ex_eq (f + k)
              obtain ⟨p1, hp1⟩ := ex_eq ((f + k) % N)
              obtain ⟨s2, hs2⟩ := ex_eq (f + N)
              obtain ⟨s3, hs3⟩ := ex_eq (f + N - k)
              obtain ⟨p2, hp2⟩ := ex_eq ((f + N - k) % N)
              have hN0 : 0 < N := by omega
              have hp1l : p1 < N := by rw [hp1]; exact Nat.mod_lt _ hN0
              have hp2l : p2 < N := by rw [hp2]; exact Nat.mod_lt _ hN0
              have d1 := hcs p1 (by rw [← HN.out]; exact hp1l)
              have d2 := hcs p2 (by rw [← HN.out]; exact hp2l)
              obtain ⟨x, hx⟩ := ex_eq (c[p1]'(by rw [← HN.out]; exact hp1l))
              obtain ⟨y, hy⟩ := ex_eq (c[p2]'(by rw [← HN.out]; exact hp2l))
              rw [← hx] at d1
              rw [← hy] at d2
              have HX : Hid (x = c.getD ((f + k) % c.length) 0) := by
                show x = _
                rw [← HN.out, ← hp1, hx]
                have := hp1l
                rw [HN.out] at this
                simp [List.getD, this]
              have HY : Hid (y = c.getD ((f + c.length - k) % c.length) 0) := by
                show y = _
                rw [← HN.out, ← hp2, hy]
                have := hp2l
                rw [HN.out] at this
                simp [List.getD, this]
              have e1 : (f : Int) + (k : Int) = (s1 : Int) := by omega
              have e2 : IntKind.i64.wrap (s1 : Int) = (s1 : Int) := by rw [IntKind.wrap_i64]; omega
              have e3 : (s1 : Int).tmod (N : Int) = (p1 : Int) := by rw [hp1, hs1]; rfl
              have e4 : IntKind.i64.wrap (p1 : Int) = (p1 : Int) := by rw [IntKind.wrap_i64]; omega
              have e5 : (f : Int) + (N : Int) = (s2 : Int) := by omega
              have e6 : IntKind.i64.wrap (s2 : Int) = (s2 : Int) := by rw [IntKind.wrap_i64]; omega
              have e7 : (s2 : Int) - (k : Int) = (s3 : Int) := by omega
              have e8 : IntKind.i64.wrap (s3 : Int) = (s3 : Int) := by rw [IntKind.wrap_i64]; omega
              have e9 : (s3 : Int).tmod (N : Int) = (p2 : Int) := by rw [hp2, hs3]; rfl
              have e10 : IntKind.i64.wrap (p2 : Int) = (p2 : Int) := by rw [IntKind.wrap_i64]; omega
              have e11 : ¬ (N : Int) = 0 := by omega
              have e12 : ¬ N = 0 := by omega
              have e13 : (p1 : Int) < (N : Int) := by omega
              have e14 : (p2 : Int) < (N : Int) := by omega
              have e15 : (0 : Int) ≤ (p1 : Int) := by omega
              have e16 : (0 : Int) ≤ (p2 : Int) := by omega
              have q3 : (k : Int) < (N : Int) := by omega
              have hl6 : ((oneL c f).take k).length = k := by rw [List.length_take, oneL_len, ← HN.out]; omega
              have hl7 : ((twoL c f).take k).length = k := by rw [List.length_take, twoL_len, ← HN.out]; omega
              obtain ⟨X6, hX6⟩ := ex_eq ((oneL c f).take k)
              obtain ⟨Y7, hY7⟩ := ex_eq ((twoL c f).take k)
              have HXX := hid hX6
              have HYY := hid hY7
              rw [← hX6] at hl6 hts
              rw [← hY7] at hl7 hts
              have HOW : Hid ((wr.alloc (.cells #[.int .i64 x] 3)).ownsRow D 3 1 u6 k (X6.map (Value.int .i64))) := by
                show World.ownsRow _ _ _ _ _ _ _
                have := hts.out.o6
                rw [hl6] at this
                exact this.alloc _
              have HNW : Hid (∀ p, some (⟨wr.heap.size, 0, none⟩ : Addr) = some p → ∀ j u, [Value.int .i64 x][j]? = some u → (wr.alloc (.cells #[.int .i64 x] 3)).cell? (p.add j) = some u) := news_one _
              have HON : Hid (∀ v' ∈ [Value.int .i64 x], v'.oneCell' = true) := fun v' hv => by simp at hv; rw [hv]; rfl
              have H63 : Hid (k + 1 ≤ maxLen) := by show k + 1 ≤ maxLen; unfold maxLen; omega
              have HBS : Hid (D ≤ (wr.alloc (.cells #[.int .i64 x] 3)).heap.size) := by
                have h1 := hts.out.bel.size
                show D ≤ _; simp; omega
              have HPUT : Hid (∀ v4 w4, w4.ownsRow D 3 1 v4 (k + 1) (X6.map (Value.int .i64) ++ [.int .i64 x]) → (wr.alloc (.cells #[.int .i64 x] 3)).grownBy w4 u6.ownBlock → (v4.ownBlock = u6.ownBlock ∨ v4.ownBlock = some (wr.alloc (.cells #[.int .i64 x] 3)).heap.size) → TwoSt D wo w4 v4 u7 ((oneL c f).take (k + 1)) Y7) := fun v4 w4 h1 h2 h3 => by
                rw [oneL_take hkc, ← HX.out, ← HXX.out]
                exact hts.out.put hDle (by rw [hl6]; exact h1) h2 h3
              have HD2 : Hid (∀ X, Below D wo X → X.cell? ⟨g, off + p2, none⟩ = some (.int .i64 y)) := fun X hX => by
                obtain ⟨g', off', ha', _, hc'⟩ := (HIX.out X hX).1 hcl
                cases ha'
                rw [hy]; exact hc' p2 _
              have HL7 := hid hl7
              clear hcs hx hy hp1 hp2 hs1 hs2 hs3 hl6 hl7 hts hX6 hY7
              go_wp2_with (at_builtin; refine wpList_append_any _ rfl _ _ 25 rfl D 3 i0 _ 1 8 Try.underlying25 hi0 hz0 hz1 hz2 rfl (by decide) _ _ _ rfl HOW.out (some ⟨wr.heap.size, 0, none⟩) 1 1 [.int .i64 x] rfl (fun h => by cases h) rfl HNW.out HON.out H63.out ?c4 HBS.out ?_)
              case c4 => omega
              intro v4 w4 hown4 hgrow4 hat4
              have hts4 := HPUT.out v4 w4 hown4 hgrow4 (hat4.imp id (fun h => by rw [h]; try simp))
              have HTS4 := hid hts4
              have d3 := HD2.out w4 hts4.bel
              have HOW2 : Hid ((w4.alloc (.cells #[.int .i64 y] 3)).ownsRow D 3 1 u7 k (Y7.map (Value.int .i64))) := by
                show World.ownsRow _ _ _ _ _ _ _
                have := hts4.o7
                rw [HL7.out] at this
                exact this.alloc _
              have HNW2 : Hid (∀ p, some (⟨w4.heap.size, 0, none⟩ : Addr) = some p → ∀ j u, [Value.int .i64 y][j]? = some u → (w4.alloc (.cells #[.int .i64 y] 3)).cell? (p.add j) = some u) := news_one _
              have HON2 : Hid (∀ v' ∈ [Value.int .i64 y], v'.oneCell' = true) := fun v' hv => by simp at hv; rw [hv]; rfl
              have HBS2 : Hid (D ≤ (w4.alloc (.cells #[.int .i64 y] 3)).heap.size) := by
                have h1 := hts4.bel.size
                show D ≤ _; simp; omega
              have HPUT2 : Hid (∀ v7 w7, w7.ownsRow D 3 1 v7 (k + 1) (Y7.map (Value.int .i64) ++ [.int .i64 y]) → (w4.alloc (.cells #[.int .i64 y] 3)).grownBy w7 u7.ownBlock → (v7.ownBlock = u7.ownBlock ∨ v7.ownBlock = some (w4.alloc (.cells #[.int .i64 y] 3)).heap.size) → TwoSt D wo w7 v4 v7 ((oneL c f).take (k + 1)) ((twoL c f).take (k + 1))) := fun v7 w7 h1 h2 h3 => by
                rw [twoL_take hkc, ← HY.out, ← HYY.out]
                exact (HTS4.out.turn.put hDle (by rw [HL7.out]; exact h1) h2 h3).turn
              clear hown4 hgrow4 hat4 hts4 HPUT HBS HON HNW HOW d1 d2 e1 e2 e3 e4
              go_wp2_with (at_builtin; refine wpList_append_any _ rfl _ _ 25 rfl D 3 i0 _ 1 8 Try.underlying25 hi0 hz0 hz1 hz2 rfl (by decide) _ _ _ rfl HOW2.out (some ⟨w4.heap.size, 0, none⟩) 1 1 [.int .i64 y] rfl (fun h => by cases h) rfl HNW2.out HON2.out H63.out ?c5 HBS2.out ?_)
              case c5 => omega
              intro v7 w7 hown7 hgrow7 hat7
              have HNX := hid (HPUT2.out v7 w7 hown7 hgrow7 (hat7.imp id (fun h => by rw [h]; try simp)))
              clear hown7 hgrow7 hat7 HPUT2 HBS2 HON2 HNW2 HOW2 d3
              go_wp2
              go_roundg (N - (k + 1))
              case measure => omega
              case rel => exact ⟨k + 1, by omega, Nat.le_refl _, by go_num, HNX⟩
            · obtain rfl : k = N := by omega
              have htk1 : (oneL c f).take k = oneL c f := List.take_of_length_le (by rw [oneL_len, ← HN.out]; exact Nat.le_refl _)
              have htk2 : (twoL c f).take k = twoL c f := List.take_of_length_le (by rw [twoL_len, ← HN.out]; exact Nat.le_refl _)
              have hts' := hts.out
              rw [htk1, htk2] at hts'
              obtain ⟨a6, c6, hv6, hs6⟩ := sl_own hts'.o6
              obtain ⟨a6', c6', hv6', hI6⟩ := iat_own hts'.o6
              rw [hv6] at hv6'
              simp only [Value.slice.injEq, true_and] at hv6'
              obtain ⟨rfl, rfl⟩ := hv6'
              obtain ⟨a7, c7, hv7, hs7⟩ := sl_own hts'.o7
              obtain ⟨a7', c7', hv7', hI7⟩ := iat_own hts'.o7
              rw [hv7] at hv7'
              simp only [Value.slice.injEq, true_and] at hv7'
              obtain ⟨rfl, rfl⟩ := hv7'
              rw [oneL_len, ← HN.out] at hv6 hs6
              rw [twoL_len, ← HN.out] at hv7 hs7
              obtain ⟨_, hIB, hbw⟩ := HIX.out wr hts'.bel
              subst hv6
              subst hv7
              have hBl : B.length = k := by rw [HBE.out.1.len, HN.out]
              have CL1 := hid (CL.out wr a6 a5 c6 c5 (oneL c f) B (by rw [oneL_len, HN.out]) hBl hI6 hIB)
              obtain ⟨d, hd⟩ := ex_eq (lexL (oneL c f) B)
              rw [← hd] at CL1
              obtain ⟨B1, hB1⟩ := ex_eq (if d = true then oneL c f else B)
              -- what is best behind the first
              have HAF : Hid (∀ (w8 : World) (v : Value), Below wr.heap.size wr w8 → ((d = true ∧ v = .slice a6 k c6) ∨ (d = false ∧ v = .slice a5 k c5)) → ∃ a8 c8, v = .slice a8 k c8 ∧ Sl a8 c8 k ∧ IAt w8 a8 B1) := fun w8 v h8 hv => by
                rcases hv with ⟨rfl, rfl⟩ | ⟨rfl, rfl⟩
                · exact ⟨a6, c6, rfl, hs6, by rw [hB1, if_pos rfl]; exact hI6.below h8⟩
                · exact ⟨a5, c5, rfl, HSL5.out, by rw [hB1, if_neg (by simp)]; exact hIB.below h8⟩
              have hB1l : B1.length = k := by
                rw [hB1]
                split
                · rw [oneL_len, HN.out]
                · exact hBl
              have HI7 : Hid (∀ X, Below wr.heap.size wr X → IAt X a7 (twoL c f)) := fun X hX => hI7.below hX
              have HBW := hid hbw
              have HS7 := hid hs7
              have HB1 : Hid (B1 = if lexL (oneL c f) B = true then oneL c f else B) := by show B1 = _; rw [hB1, hd]
              have C2 : Hid (∀ (X : World) (a8 : Option Addr) (c8 : Nat), Below wr.heap.size wr X → IAt X a8 B1 → Calls Try.prog 43 #[.slice a7 k c7, .slice a8 k c8] X fun e w' => e = .returned (.bool (lexL (twoL c f) B1)) ∧ Below X.heap.size X w') := fun X a8 c8 hX h8 => CL.out X a7 a8 c7 c8 (twoL c f) B1 (by rw [twoL_len, HN.out]) hB1l (HI7.out X hX) h8
              obtain ⟨d2, hd2⟩ := ex_eq (lexL (twoL c f) B1)
              rw [← hd2] at C2
              obtain ⟨B2, hB2⟩ := ex_eq (if d2 = true then twoL c f else B1)
              have HBT : Hid (BestTo c B2 (f + 1)) := HBE.out.put hfc HB1.out (by rw [hB2, hd2])
              have HAG : Hid (∀ (w9 : World) (v : Value) (a8 : Option Addr) (c8 : Nat), Below wr.heap.size wr w9 → Sl a8 c8 k → IAt w9 a8 B1 → ((d2 = true ∧ v = .slice a7 k c7) ∨ (d2 = false ∧ v = .slice a8 k c8)) → ∃ a3' c3' B, v = .slice a3' k c3' ∧ BestTo c B (f + 1) ∧ Sl a3' c3' k ∧ IAt w9 a3' B ∧ Below w.heap.size w w9) := fun w9 v a8 c8 h9 hs8 hI8 hv => by
                have hbw9 := HBW.out.trans (h9.mono HBW.out.size)
                rcases hv with ⟨e, rfl⟩ | ⟨e, rfl⟩
                · exact ⟨a7, c7, B2, rfl, HBT.out, HS7.out, by rw [hB2, if_pos e]; exact HI7.out w9 h9, hbw9⟩
                · exact ⟨a8, c8, B2, rfl, HBT.out, hs8, by rw [hB2, if_neg (by rw [e]; simp)]; exact hI8, hbw9⟩
              clear hts hts' htk1 htk2 hI6 hI7 hIB hbw hs6 hs7 hBl hd hB1 hB1l hd2 hB2 HBE HSL5 HBT HB1 HI7 HS7 HTS
              go_wp2_with fail
              refine CL1.out.mono ?_
              rintro e w8 ⟨rfl, hb8⟩
              have HB8 := hid hb8
              clear CL1
              cases d with
              | true =>
                obtain ⟨a8, c8, hv8, hs8, hI8⟩ := HAF.out w8 _ hb8 (Or.inl ⟨rfl, rfl⟩)
                simp only [Value.slice.injEq, true_and] at hv8
                obtain ⟨rfl, rfl⟩ := hv8
                have C3 := hid (C2.out w8 a6 c6 hb8 hI8)
                have HG : Hid (∀ (w9 : World) (v : Value), Below w8.heap.size w8 w9 → ((d2 = true ∧ v = .slice a7 k c7) ∨ (d2 = false ∧ v = .slice a6 k c6)) → ∃ a3' c3' B, v = .slice a3' k c3' ∧ BestTo c B (f + 1) ∧ Sl a3' c3' k ∧ IAt w9 a3' B ∧ Below w.heap.size w w9) := fun w9 v h9 hv => HAG.out w9 v a6 c6 (HB8.out.trans (h9.mono HB8.out.size)) hs8 (hI8.below h9) hv
                clear HAF HAG hs8 hI8 hb8 C2
                go_wp2_with fail
                refine C3.out.mono ?_
                rintro e w9 ⟨rfl, hb9⟩
                cases d2 with
                | true =>
                  have HX := hid (HG.out w9 _ hb9 (Or.inl ⟨rfl, rfl⟩))
                  clear HG hb9 C3
                  go_wp2
                  go_roundg (k - (f + 1))
                  case measure => omega
                  case rel => exact ⟨f + 1, by omega, Nat.le_refl _, by go_num, HX⟩
                | false =>
                  have HX := hid (HG.out w9 _ hb9 (Or.inr ⟨rfl, rfl⟩))
                  clear HG hb9 C3
                  go_wp2
                  go_roundg (k - (f + 1))
                  case measure => omega
                  case rel => exact ⟨f + 1, by omega, Nat.le_refl _, by go_num, HX⟩
              | false =>
                obtain ⟨a8, c8, hv8, hs8, hI8⟩ := HAF.out w8 _ hb8 (Or.inr ⟨rfl, rfl⟩)
                simp only [Value.slice.injEq, true_and] at hv8
                obtain ⟨rfl, rfl⟩ := hv8
                have C3 := hid (C2.out w8 a5 c5 hb8 hI8)
                have HG : Hid (∀ (w9 : World) (v : Value), Below w8.heap.size w8 w9 → ((d2 = true ∧ v = .slice a7 k c7) ∨ (d2 = false ∧ v = .slice a5 k c5)) → ∃ a3' c3' B, v = .slice a3' k c3' ∧ BestTo c B (f + 1) ∧ Sl a3' c3' k ∧ IAt w9 a3' B ∧ Below w.heap.size w w9) := fun w9 v h9 hv => HAG.out w9 v a5 c5 (HB8.out.trans (h9.mono HB8.out.size)) hs8 (hI8.below h9) hv
                clear HAF HAG hs8 hI8 hb8 C2
                go_wp2_with fail
                refine C3.out.mono ?_
                rintro e w9 ⟨rfl, hb9⟩
                cases d2 with
                | true =>
                  have HX := hid (HG.out w9 _ hb9 (Or.inl ⟨rfl, rfl⟩))
                  clear HG hb9 C3
                  go_wp2
                  go_roundg (k - (f + 1))
                  case measure => omega
                  case rel => exact ⟨f + 1, by omega, Nat.le_refl _, by go_num, HX⟩
                | false =>
                  have HX := hid (HG.out w9 _ hb9 (Or.inr ⟨rfl, rfl⟩))
                  clear HG hb9 C3
                  go_wp2
                  go_roundg (k - (f + 1))
                  case measure => omega
                  case rel => exact ⟨f + 1, by omega, Nat.le_refl _, by go_num, HX⟩
        · obtain rfl : f = N := by omega
          have HT : Hid (TurnTold c w wr (.slice a5 f c5)) := by
            have hbl := hbest.1.len
            rw [HN.out] at hbest
            exact ⟨a5, c5, B, by rw [hbl, HN.out], hbest.turn HRG.out, by rw [hbl, ← HN.out]; exact hsl5, hI5, hb5⟩
          clear hst hbest hsl5 hI5 hb5
          go_wp2
          go_ret
          exact ⟨_, rfl, HT.out⟩
end Go.Proofs.Ytccbheijfnodjaa
