/-
  carcanetlaw05.WalkRings answers true, for any walks that keep the contracts.
-/
import Derived.Test.YtccbheijfnodjaaLWTurn
import Derived.Test.YtccbheijfnodjaaB14
import Derived.Test.YtccbheijfnodjaaB06
import Derived.Test.YtccbheijfnodjaaB10
namespace Go.Proofs.Ytccbheijfnodjaa
open Go.RowKit Go.Lib

/-- What lies in memory at the end. -/
structure RingSt (w X : World) (gt ot : Nat) (T c two : List Int) (ac a11 : Option Addr) : Prop where
  tt : IAt X (some ⟨gt, ot, none⟩) T
  cc : IAt X ac c
  tw : IAt X a11 two
  bel : Below w.heap.size w X
theorem RingSt.on {w X Y : World} {gt ot : Nat} {T c two : List Int} {ac a11 : Option Addr} (h : RingSt w X gt ot T c two ac a11) (hb : Below X.heap.size X Y) : RingSt w Y gt ot T c two ac a11 := ⟨h.tt.below hb, h.cc.below hb, h.tw.below hb, h.bel.trans (hb.mono h.bel.size)⟩
theorem not_ring {c T : List Int} (h : TurnIs c T) (hn : ¬ Ring c) : T = c := by
  rcases h with ⟨_, h⟩ | ⟨h, _⟩
  · exact h
  · exact absurd h hn

set_option maxHeartbeats 4000000 in
set_option maxRecDepth 100000 in
theorem walkRings_law (O : WalkOps) (a : Option Addr) (len cap : Nat) (l : List Int) (fr : Int) (w : World) (hl : len = l.length) (hc : len ≤ cap) (hcm : cap ≤ maxLen) (ha : a = none → cap = 0) (hI : IAt w a l) :
    Calls Try.prog 8 #[.slice a len cap, .int .i64 fr] w fun e w' => e = .returned (.bool true) ∧ Below w.heap.size w w' := by
  have HO := hid O
  obtain ⟨i0, hi0, hz0, hz1, hz2⟩ := info_parts Try.info3
  obtain ⟨N, hK⟩ := ex_eq (min len 100)
  obtain ⟨c, hes⟩ := ex_eq (l.take N)
  have hek : c.length = N := by rw [hes, List.length_take]; omega
  have HN : Hid (N = c.length) := hek.symm
  have k5 : N ≤ 100 := by omega
  have kmin : min (len : Int) 100 = (N : Int) := by omega
  have kc : (N : Int) ≤ (cap : Int) := by omega
  have k0 : (0 : Int) ≤ (N : Int) := by omega
  have k9 : (N : Int) ≤ (len : Int) := by omega
  have HIB : Hid (∀ X, Below w.heap.size w X → IAt X a c) := fun X h => by rw [hes]; exact iat_take (hI.below h) N
  clear O hl hI hes hek hK
  go_enter Try.func8, Try.ntmps8
  go_wp2_with fail
  refine (wshown_any HO.out w).mono ?_
  rintro e w1 ⟨rfl, hb1⟩
  have HB1 := hid hb1
  have HIC := hid (HIB.out w1 hb1)
  have HOW1 : Hid ((w1.alloc (.cells #[] 3)).ownsRow w1.heap.size 3 1 (.slice (some ⟨w1.heap.size, 0, none⟩) 0 0) 0 []) := own_emptyI _ rfl
  have HBS1 : Hid (w1.heap.size ≤ (w1.alloc (.cells #[] 3)).heap.size) := by show _ ≤ _; simp
  have KEY : Hid (∀ v3 w3, w3.ownsRow w1.heap.size 3 1 v3 N (c.map (Value.int .i64)) → (w1.alloc (.cells #[] 3)).grownBy w3 (Value.slice (some ⟨w1.heap.size, 0, none⟩) 0 0).ownBlock → ∃ a' c', v3 = .slice a' N c' ∧ Sl a' c' N ∧ IAt w3 a' c ∧ Below w.heap.size w w3) := fun v3 w3 h1 h2 => by
    have hb3 : Below w1.heap.size w1 w3 := Below.grown ((Below.refl _ _).alloc (Nat.le_refl _) _) h2 (by simp) (fun j hj => (HOW1.out.lt j hj).1)
    have h1' : w3.ownsRow w1.heap.size 3 1 v3 c.length (c.map (Value.int .i64)) := by rw [← HN.out]; exact h1
    obtain ⟨a3, c3, hv3, hsl3⟩ := sl_own h1'
    obtain ⟨a3', c3', hv3', hI3⟩ := iat_own h1'
    rw [hv3] at hv3'
    simp only [Value.slice.injEq, true_and] at hv3'
    obtain ⟨rfl, rfl⟩ := hv3'
    rw [← HN.out] at hv3 hsl3
    exact ⟨a3, c3, hv3, hsl3, hI3, HB1.out.trans (hb3.mono HB1.out.size)⟩
  clear hb1 HIB
  go_upto_region 2 with fail
  go_cut [0] (fun v wx => ∃ a' c', v = .slice a' N c' ∧ Hid (Sl a' c' N) ∧ Hid (IAt wx a' c) ∧ Hid (Below w.heap.size w wx))
  case first =>
    cases a with
    | none =>
      obtain rfl := ha rfl
      obtain rfl : len = 0 := by omega
      obtain rfl : N = 0 := by simp at k9; omega
      obtain rfl : c = [] := List.eq_nil_of_length_eq_zero HN.out.symm
      clear ha kmin kc k0 k5 hc hcm k9
      go_wp2_with (at_builtin; refine wpList_append_any _ rfl _ _ 25 rfl w1.heap.size 3 i0 _ 1 8 Try.underlying25 hi0 hz0 hz1 hz2 rfl (by decide) _ _ _ rfl HOW1.out none 0 0 [] rfl (fun _ => ⟨rfl, rfl⟩) rfl (fun p h => by cases h) (fun u h => by cases h) (by unfold maxLen; omega) (by omega) HBS1.out ?_)
      intro v3 w3 hown3 hgrow3 _
      obtain ⟨a', c', rfl, h1, h2, h3⟩ := KEY.out v3 w3 (by simpa using hown3) hgrow3
      have H1 := hid h1
      have H2 := hid h2
      have H3 := hid h3
      clear hown3 hgrow3 h1 h2 h3
      go_wp2
      all_goals go_meet
      all_goals exact ⟨_, _, rfl, H1, H2, H3⟩
    | some ad =>
      clear ha
      have HNW : Hid (∀ q, some ad = some q → ∀ j u, (c.map (Value.int .i64))[j]? = some u → (w1.alloc (.cells #[] 3)).cell? (q.add j) = some u) := fun q hq j u hu' => by
        cases hq
        rw [List.getElem?_map] at hu'
        have hjl : j < c.length := by
          by_cases hh : j < c.length
          · exact hh
          · rw [List.getElem?_eq_none (by omega)] at hu'; cases hu'
        rw [List.getElem?_eq_getElem hjl] at hu'
        cases hu'
        obtain ⟨g, off, hg, _, hc'⟩ := HIC.out (by omega)
        cases hg
        rw [add_at]
        exact cell_alloc_old (hc' j hjl) _
      have HON : Hid (∀ v ∈ c.map (Value.int .i64), v.oneCell' = true) := fun v hv => by obtain ⟨z, _, rfl⟩ := List.mem_map.1 hv; rfl
      have HLN : Hid ((c.map (Value.int .i64)).length = N * 1) := by show _ = _; rw [List.length_map, HN.out, Nat.mul_one]
      have H63 : Hid (0 + N ≤ maxLen) := by show 0 + N ≤ maxLen; unfold maxLen; omega
      go_wp2_with (at_builtin; refine wpList_append_any _ rfl _ _ 25 rfl w1.heap.size 3 i0 _ 1 8 Try.underlying25 hi0 hz0 hz1 hz2 rfl (by decide) _ _ _ rfl HOW1.out (some ad) N cap (c.map (Value.int .i64)) rfl (fun h => by cases h) HLN.out HNW.out HON.out H63.out ?c4 HBS1.out ?_)
      case c4 => omega
      intro v3 w3 hown3 hgrow3 _
      obtain ⟨a', c', rfl, h1, h2, h3⟩ := KEY.out v3 w3 (by simpa using hown3) hgrow3
      have H1 := hid h1
      have H2 := hid h2
      have H3 := hid h3
      clear hown3 hgrow3 h1 h2 h3
      go_wp2
      all_goals go_meet
      all_goals exact ⟨_, _, rfl, H1, H2, H3⟩
  case rest =>
    obtain ⟨a', c', rfl, HSL, HI3, HB3⟩ := hcut
    obtain ⟨w3, hw3⟩ : ∃ x, x = wc := ⟨_, rfl⟩
    subst hw3
    clear kmin kc k9 hc hcm ha k0 KEY HOW1 HBS1 HIC HB1
    have CT : Hid (∀ X (a4 : Option Addr) (c4 : Nat) (d : List Int), d.length = N → Slw a4 c4 N → IAt X a4 d → Calls Try.prog 22 #[.slice a4 N c4] X fun e w' => ∃ v, e = .returned v ∧ TurnTold d X w' v) := fun X a4 c4 d hd hs hI => by
      have := HO.out.turn a4 c4 d X (by omega) (by rw [hd]; exact hs) hI
      rw [hd] at this
      exact this
    have CS0 : Hid (∀ X (a4 a5 : Option Addr) (c4 c5 : Nat) (d : List Int), d.length = N → IAt X a4 d → IAt X a5 d → Calls Try.prog 19 #[.slice a4 N c4, .slice a5 N c5] X fun e w' => e = .returned (.bool true) ∧ Below X.heap.size X w') := fun X a4 a5 c4 c5 d hd h1 h2 => by
      have := same_any a4 a5 c4 c5 d d true X (by omega) h1 h2 ⟨fun _ => rfl, fun _ => rfl⟩
      rw [hd] at this
      exact this
    go_wp2_with fail
    refine (CT.out w3 a' c' c HN.out.symm HSL.out.w HI3.out).mono ?_
    rintro e w4 ⟨v4, rfl, at4, ct4, T, rfl, hT, hsT, hIT, hb4⟩
    have hTl : T.length = N := by rw [hT.len, HN.out]
    have HTl : Hid (N = T.length) := hTl.symm
    have HT := hid hT
    rw [hTl] at hsT ⊢
    have HST := hid hsT
    have HIT := hid hIT
    have HI4 := hid (HI3.out.below hb4)
    have HB4 : Hid (Below w.heap.size w w4) := HB3.out.trans (hb4.mono HB3.out.size)
    clear hT hsT hIT hb4 hTl HI3 HB3
    go_wp2_with fail
    refine (CT.out w4 at4 ct4 T HTl.out.symm HST.out.w HIT.out).mono ?_
    rintro e w5 ⟨v5, rfl, a5, c5, T2, rfl, hT2, _, hI5, hb5⟩
    obtain rfl : T2 = T := hT2.one HT.out.again
    rw [← HTl.out]
    have HIT5 := hid (HIT.out.below hb5)
    have HIC5 := hid (HI4.out.below hb5)
    have HB5 : Hid (Below w.heap.size w w5) := HB4.out.trans (hb5.mono HB4.out.size)
    have HI5 := hid hI5
    clear hT2 hI5 hb5 HIT HI4 HB4
    go_wp2_with fail
    refine (CS0.out w5 a5 at4 c5 ct4 T2 HTl.out.symm HI5.out HIT5.out).mono ?_
    rintro e w6 ⟨rfl, hb6⟩
    have HB6 : Hid (Below w.heap.size w w6) := HB5.out.trans (hb6.mono HB5.out.size)
    have HIX0 : Hid (∀ X, Below w6.heap.size w6 X → IAt X a' c ∧ IAt X at4 T2 ∧ Below w.heap.size w X) := fun X hX => ⟨(HIC5.out.below hb6).below hX, (HIT5.out.below hb6).below hX, HB6.out.trans (hX.mono HB6.out.size)⟩
    have HEND : Hid (¬ Ring c → T2 = c) := not_ring HT.out
    clear hb6 HIT5 HIC5 HB5 HI5
    go_wp2
    go_loopg [8] N (fun G i wz => ∃ k : Nat, k ≤ N ∧ N - k ≤ G ∧ i = .int .i64 k ∧ Hid ((c.take k).Nodup) ∧ Hid (Below w6.heap.size w6 wz))
    case atStart => exact ⟨0, Nat.zero_le _, by omega, rfl, (by simp : (c.take 0).Nodup), Below.refl _ _⟩
    case round =>
      obtain ⟨i, hi, hG, rfl, hnd, hb⟩ := hrel
      by_cases hlt : i < N
      · have hir : i < c.length := by rw [← HN.out]; exact hlt
        have q1 : (i : Int) < (N : Int) := by omega
        go_wp2
        go_loopg [9] i (fun G j wz => ∃ k : Nat, k ≤ i ∧ i - k ≤ G ∧ j = .int .i64 k ∧ Hid (∀ j (hj : j < c.length), j < k → c[j] ≠ c[i]) ∧ Hid (Below w6.heap.size w6 wz))
        case atStart => exact ⟨0, Nat.zero_le _, by omega, rfl, (fun j _ h => absurd h (by omega)), hb⟩
        case round =>
          obtain ⟨k, hk, hGk, rfl, hno, hb2⟩ := hrel
          by_cases hkl : k < i
          · have hkr : k < c.length := by omega
            obtain ⟨hic, hit, hbw⟩ := HIX0.out wr hb2.out
            obtain ⟨g, off, rfl, hg, hcs⟩ := hic (by omega)
            have d1 := hcs i hir
            have d2 := hcs k hkr
            obtain ⟨x, hx⟩ := ex_eq c[i]
            obtain ⟨y, hy⟩ := ex_eq c[k]
            rw [← hx] at d1
            rw [← hy] at d2
            have q2 : (k : Int) < (N : Int) := by omega
            have q3 : (k : Int) < (i : Int) := by omega
            by_cases hxy : x = y
            · obtain rfl := HEND.out (fun hr => nodup_no hir hkl (by rw [← hx, ← hy]; exact hxy) hr.2)
              subst hxy
              have HIE : Hid (∀ X, Below wr.heap.size wr X → IAt X (some ⟨g, off, none⟩) T2 ∧ IAt X at4 T2 ∧ Below w.heap.size w X) := fun X hX => ⟨hic.below hX, hit.below hX, hbw.trans (hX.mono hbw.size)⟩
              clear hcs hx hy hno HEND hic hit hbw
              go_wp2
              go_quiet (fail)
              go_wp2_with fail
              refine (CS0.out _ at4 _ ct4 c' T2 HTl.out.symm (HIE.out _ (below_drewN (Below.refl _ _) _)).2.1 (HIE.out _ (below_drewN (Below.refl _ _) _)).1).mono ?_
              rintro e w9 ⟨rfl, hb9⟩
              have HB9 : Hid (Below w.heap.size w w9) := by
                have h1 := (HIE.out _ (below_drewN (Below.refl _ wr) nq)).2.2
                exact h1.trans (hb9.mono h1.size)
              clear hb9
              go_wp2
              go_ret
              exact ⟨rfl, HB9.out⟩
            · have HNX : Hid (∀ j (hj : j < c.length), j < k + 1 → c[j] ≠ c[i]) := fun j hj hjk => by
                by_cases e : j < k
                · exact hno.out j hj e
                · obtain rfl : j = k := by omega
                  rw [← hx, ← hy]; exact fun e => hxy e.symm
              have hq : (x == y) = false := beq_eq_false_iff_ne.2 hxy
              clear hcs hx hy hno hxy hic hit hbw
              go_wp2
              go_quiet (fail)
              go_wp2
              go_roundg (i - (k + 1))
              case measure => omega
              case rel => exact ⟨k + 1, by omega, Nat.le_refl _, by go_num, HNX, below_drewN hb2.out _⟩
          · obtain rfl : k = i := by omega
            have HND : Hid ((c.take (k + 1)).Nodup) := nodup_next hir hnd.out hno.out
            clear hno hnd
            go_wp2
            go_roundg (N - (k + 1))
            case measure => omega
            case rel => exact ⟨k + 1, by omega, Nat.le_refl _, by go_num, HND, hb2⟩
      · obtain rfl : i = N := by omega
        have HNDA : Hid c.Nodup := by have := hnd.out; rw [HN.out, List.take_length] at this; exact this
        obtain ⟨hic, hit, hbw⟩ := HIX0.out wr hb.out
        have HIC := hid hic
        have HIT := hid hit
        have HBW := hid hbw
        clear hnd hic hit hbw
        by_cases hi3 : i < 3
        · obtain rfl := HEND.out (fun hr => by have := hr.1; rw [← HN.out] at this; omega)
          have q1 : (i : Int) < 3 := by omega
          clear HEND
          go_wp2_with fail
          refine (CS0.out _ at4 a' ct4 c' T2 HTl.out.symm HIT.out HIC.out).mono ?_
          rintro e w9 ⟨rfl, hb9⟩
          have HB9 : Hid (Below w.heap.size w w9) := HBW.out.trans (hb9.mono HBW.out.size)
          clear hb9
          go_wp2
          go_ret
          exact ⟨rfl, HB9.out⟩
        · have hRing : Ring c := ⟨by rw [← HN.out]; omega, HNDA.out⟩
          have HRG := hid hRing
          have hcl : 0 < c.length := by rw [← HN.out]; omega
          have hi1 : ¬ (i : Int) < 3 := by omega
          have hi2 : ¬ (i : Int) = 0 := by omega
          have hi4 : ¬ i = 0 := by omega
          obtain ⟨f, hf, hfm⟩ := rnd_of fr (m := i) (by omega)
          have hfc : f < c.length := by rw [← HN.out]; exact hfm
          obtain ⟨D, hD⟩ := ex_eq wr.heap.size
          obtain ⟨wo, hwo⟩ := ex_eq wr
          obtain ⟨W0, hW0⟩ := ex_eq ((wo.alloc (.cells #[] 3)).alloc (.cells #[] 3))
          have HTS : Hid (TwoSt D wo W0 (.slice (some ⟨wo.heap.size, 0, none⟩) 0 0) (.slice (some ⟨wo.heap.size + 1, 0, none⟩) 0 0) ((oneL c f).take 0) ((twoL c f).take 0)) := by
            rw [hW0, hD, ← hwo]; exact two_start wo
          have hDle : D ≤ wo.heap.size := by rw [hD, hwo]; exact Nat.le_refl _
          have HIX : Hid (∀ X, Below D wo X → IAt X a' c ∧ IAt X at4 T2 ∧ Below w.heap.size w X) := fun X hX => by
            have hX' : Below wr.heap.size wr X := by rw [← hD, ← hwo]; exact hX
            exact ⟨HIC.out.below hX', HIT.out.below hX', HBW.out.trans (hX'.mono HBW.out.size)⟩
          have HW0 := hid hW0
          clear hD hW0 hRing HIX0 HIC HIT HBW HNDA hb HB6
          subst hwo
          go_wp2
          rw [← HW0.out]
          clear HW0 hf
          go_loopg [10, 11, 12] i (fun G v6 v7 j wz => ∃ k : Nat, k ≤ i ∧ i - k ≤ G ∧ j = .int .i64 k ∧ Hid (TwoSt D wo wz v6 v7 ((oneL c f).take k) ((twoL c f).take k)))
          case atStart => exact ⟨0, Nat.zero_le _, by omega, rfl, HTS⟩
          case round =>
            obtain ⟨k, hk, hGk, rfl, hts⟩ := hrel
            by_cases hkl : k < i
            · have hkc : k < c.length := by rw [← HN.out]; exact hkl
              obtain ⟨g, off, rfl, hg, hcs⟩ := (HIX.out wr hts.out.bel).1 hcl
              -- the places
              obtain ⟨s1, hs1⟩ := ex_eq (f + k)
              obtain ⟨p1, hp1⟩ := ex_eq ((f + k) % i)
              obtain ⟨s2, hs2⟩ := ex_eq (f + i)
              obtain ⟨s3, hs3⟩ := ex_eq (f + i - k)
              obtain ⟨p2, hp2⟩ := ex_eq ((f + i - k) % i)
              have hN0 : 0 < i := by omega
              have hp1l : p1 < i := by rw [hp1]; exact Nat.mod_lt _ hN0
              have hp2l : p2 < i := by rw [hp2]; exact Nat.mod_lt _ hN0
              have d1 := hcs p1 (by rw [← HN.out]; exact hp1l)
              have d2 := hcs p2 (by rw [← HN.out]; exact hp2l)
              obtain ⟨x, hx⟩ := ex_eq (c[p1]'(by rw [← HN.out]; exact hp1l))
              obtain ⟨y, hy⟩ := ex_eq (c[p2]'(by rw [← HN.out]; exact hp2l))
              rw [← hx] at d1
              rw [← hy] at d2
              have HX : Hid (x = c.getD ((f + k) % c.length) 0) := by
                show x = _
                rw [← HN.out, ← hp1, hx]
                have := hp1l
                rw [HN.out] at this
                simp [List.getD, this]
              have HY : Hid (y = c.getD ((f + c.length - k) % c.length) 0) := by
                show y = _
                rw [← HN.out, ← hp2, hy]
                have := hp2l
                rw [HN.out] at this
                simp [List.getD, this]
              have e1 : (f : Int) + (k : Int) = (s1 : Int) := by omega
              have e2 : IntKind.i64.wrap (s1 : Int) = (s1 : Int) := by rw [IntKind.wrap_i64]; omega
              have e3 : (s1 : Int).tmod (i : Int) = (p1 : Int) := by rw [hp1, hs1]; rfl
              have e4 : IntKind.i64.wrap (p1 : Int) = (p1 : Int) := by rw [IntKind.wrap_i64]; omega
              have e5 : (f : Int) + (i : Int) = (s2 : Int) := by omega
              have e6 : IntKind.i64.wrap (s2 : Int) = (s2 : Int) := by rw [IntKind.wrap_i64]; omega
              have e7 : (s2 : Int) - (k : Int) = (s3 : Int) := by omega
              have e8 : IntKind.i64.wrap (s3 : Int) = (s3 : Int) := by rw [IntKind.wrap_i64]; omega
              have e9 : (s3 : Int).tmod (i : Int) = (p2 : Int) := by rw [hp2, hs3]; rfl
              have e10 : IntKind.i64.wrap (p2 : Int) = (p2 : Int) := by rw [IntKind.wrap_i64]; omega
              have e11 : ¬ (i : Int) = 0 := by omega
              have e12 : ¬ i = 0 := by omega
              have e13 : (p1 : Int) < (i : Int) := by omega
              have e14 : (p2 : Int) < (i : Int) := by omega
              have e15 : (0 : Int) ≤ (p1 : Int) := by omega
              have e16 : (0 : Int) ≤ (p2 : Int) := by omega
              have q3 : (k : Int) < (i : Int) := by omega
              have hl6 : ((oneL c f).take k).length = k := by rw [List.length_take, oneL_len, ← HN.out]; omega
              have hl7 : ((twoL c f).take k).length = k := by rw [List.length_take, twoL_len, ← HN.out]; omega
              obtain ⟨X6, hX6⟩ := ex_eq ((oneL c f).take k)
              obtain ⟨Y7, hY7⟩ := ex_eq ((twoL c f).take k)
              have HXX := hid hX6
              have HYY := hid hY7
              rw [← hX6] at hl6 hts
              rw [← hY7] at hl7 hts
              have HOW : Hid ((wr.alloc (.cells #[.int .i64 x] 3)).ownsRow D 3 1 u10 k (X6.map (Value.int .i64))) := by
                show World.ownsRow _ _ _ _ _ _ _
                have := hts.out.o6
                rw [hl6] at this
                exact this.alloc _
              have HNW : Hid (∀ p, some (⟨wr.heap.size, 0, none⟩ : Addr) = some p → ∀ j u, [Value.int .i64 x][j]? = some u → (wr.alloc (.cells #[.int .i64 x] 3)).cell? (p.add j) = some u) := news_one _
              have HON : Hid (∀ v' ∈ [Value.int .i64 x], v'.oneCell' = true) := fun v' hv => by simp at hv; rw [hv]; rfl
              have H63 : Hid (k + 1 ≤ maxLen) := by show k + 1 ≤ maxLen; unfold maxLen; omega
              have HBS : Hid (D ≤ (wr.alloc (.cells #[.int .i64 x] 3)).heap.size) := by
                have h1 := hts.out.bel.size
                show D ≤ _; simp; omega
              have HPUT : Hid (∀ v4 w4, w4.ownsRow D 3 1 v4 (k + 1) (X6.map (Value.int .i64) ++ [.int .i64 x]) → (wr.alloc (.cells #[.int .i64 x] 3)).grownBy w4 u10.ownBlock → (v4.ownBlock = u10.ownBlock ∨ v4.ownBlock = some (wr.alloc (.cells #[.int .i64 x] 3)).heap.size) → TwoSt D wo w4 v4 u11 ((oneL c f).take (k + 1)) Y7) := fun v4 w4 h1 h2 h3 => by
                rw [oneL_take hkc, ← HX.out, ← HXX.out]
                exact hts.out.put hDle (by rw [hl6]; exact h1) h2 h3
              have HD2 : Hid (∀ X, Below D wo X → X.cell? ⟨g, off + p2, none⟩ = some (.int .i64 y)) := fun X hX => by
                obtain ⟨g', off', ha', _, hc'⟩ := (HIX.out X hX).1 hcl
                cases ha'
                rw [hy]; exact hc' p2 _
              have HL7 := hid hl7
              clear hcs hx hy hp1 hp2 hs1 hs2 hs3 hl6 hl7 hts hX6 hY7
              go_wp2_with (at_builtin; refine wpList_append_any _ rfl _ _ 25 rfl D 3 i0 _ 1 8 Try.underlying25 hi0 hz0 hz1 hz2 rfl (by decide) _ _ _ rfl HOW.out (some ⟨wr.heap.size, 0, none⟩) 1 1 [.int .i64 x] rfl (fun h => by cases h) rfl HNW.out HON.out H63.out ?c4 HBS.out ?_)
              case c4 => omega
              intro v4 w4 hown4 hgrow4 hat4
              have hts4 := HPUT.out v4 w4 hown4 hgrow4 (hat4.imp id (fun h => by rw [h]; try simp))
              have HTS4 := hid hts4
              have d3 := HD2.out w4 hts4.bel
              have HOW2 : Hid ((w4.alloc (.cells #[.int .i64 y] 3)).ownsRow D 3 1 u11 k (Y7.map (Value.int .i64))) := by
                show World.ownsRow _ _ _ _ _ _ _
                have := hts4.o7
                rw [HL7.out] at this
                exact this.alloc _
              have HNW2 : Hid (∀ p, some (⟨w4.heap.size, 0, none⟩ : Addr) = some p → ∀ j u, [Value.int .i64 y][j]? = some u → (w4.alloc (.cells #[.int .i64 y] 3)).cell? (p.add j) = some u) := news_one _
              have HON2 : Hid (∀ v' ∈ [Value.int .i64 y], v'.oneCell' = true) := fun v' hv => by simp at hv; rw [hv]; rfl
              have HBS2 : Hid (D ≤ (w4.alloc (.cells #[.int .i64 y] 3)).heap.size) := by
                have h1 := hts4.bel.size
                show D ≤ _; simp; omega
              have HPUT2 : Hid (∀ v7 w7, w7.ownsRow D 3 1 v7 (k + 1) (Y7.map (Value.int .i64) ++ [.int .i64 y]) → (w4.alloc (.cells #[.int .i64 y] 3)).grownBy w7 u11.ownBlock → (v7.ownBlock = u11.ownBlock ∨ v7.ownBlock = some (w4.alloc (.cells #[.int .i64 y] 3)).heap.size) → TwoSt D wo w7 v4 v7 ((oneL c f).take (k + 1)) ((twoL c f).take (k + 1))) := fun v7 w7 h1 h2 h3 => by
                rw [twoL_take hkc, ← HY.out, ← HYY.out]
                exact (HTS4.out.turn.put hDle (by rw [HL7.out]; exact h1) h2 h3).turn
              clear hown4 hgrow4 hat4 hts4 HPUT HBS HON HNW HOW d1 d2 e1 e2 e3 e4
              go_wp2_with (at_builtin; refine wpList_append_any _ rfl _ _ 25 rfl D 3 i0 _ 1 8 Try.underlying25 hi0 hz0 hz1 hz2 rfl (by decide) _ _ _ rfl HOW2.out (some ⟨w4.heap.size, 0, none⟩) 1 1 [.int .i64 y] rfl (fun h => by cases h) rfl HNW2.out HON2.out H63.out ?c5 HBS2.out ?_)
              case c5 => omega
              intro v7 w7 hown7 hgrow7 hat7
              have HNX := hid (HPUT2.out v7 w7 hown7 hgrow7 (hat7.imp id (fun h => by rw [h]; try simp)))
              clear hown7 hgrow7 hat7 HPUT2 HBS2 HON2 HNW2 HOW2 d3
              go_wp2
              go_roundg (i - (k + 1))
              case measure => omega
              case rel => exact ⟨k + 1, by omega, Nat.le_refl _, by go_num, HNX⟩
            · obtain rfl : k = i := by omega
              have htk1 : (oneL c f).take k = oneL c f := List.take_of_length_le (by rw [oneL_len, ← HN.out]; exact Nat.le_refl _)
              have htk2 : (twoL c f).take k = twoL c f := List.take_of_length_le (by rw [twoL_len, ← HN.out]; exact Nat.le_refl _)
              have hts' := hts.out
              rw [htk1, htk2] at hts'
              obtain ⟨a6, c6, hv6, hs6⟩ := sl_own hts'.o6
              obtain ⟨a6', c6', hv6', hI6⟩ := iat_own hts'.o6
              rw [hv6] at hv6'
              simp only [Value.slice.injEq, true_and] at hv6'
              obtain ⟨rfl, rfl⟩ := hv6'
              obtain ⟨a7, c7, hv7, hs7⟩ := sl_own hts'.o7
              obtain ⟨a7', c7', hv7', hI7⟩ := iat_own hts'.o7
              rw [hv7] at hv7'
              simp only [Value.slice.injEq, true_and] at hv7'
              obtain ⟨rfl, rfl⟩ := hv7'
              rw [oneL_len, ← HN.out] at hv6 hs6
              rw [twoL_len, ← HN.out] at hv7 hs7
              obtain ⟨hIC, hIT, hbw⟩ := HIX.out wr hts'.bel
              subst hv6
              subst hv7
              have hTl : T2.length = k := HTl.out.symm
              obtain ⟨gt, ot, hat, _, hct⟩ := hIT (by omega)
              subst hat
              have c0 := hct 0 (by omega)
              have c1 := hct 1 (by omega)
              obtain ⟨m, hm⟩ : ∃ m, k = m + 1 := ⟨k - 1, by omega⟩
              have c2 := hct m (by omega)
              have hlt12 : T2[1]'(by omega) < T2[m]'(by omega) := by
                have := HT.out.first HRG.out (by omega)
                simp only [show T2.length - 1 = m by omega] at this
                exact this
              have hmem : T2[0]'(by omega) ∈ c := by
                rcases HT.out with ⟨h, _⟩ | ⟨_, h, _⟩
                · exact absurd HRG.out h
                · exact h.mem (List.getElem_mem _)
              obtain ⟨t0, ht0⟩ := ex_eq (T2[0]'(by omega))
              obtain ⟨t1, ht1⟩ := ex_eq (T2[1]'(by omega))
              obtain ⟨tm, htm⟩ := ex_eq (T2[m]'(by omega))
              rw [← ht0, Nat.add_zero] at c0
              rw [← ht1] at c1
              rw [← htm] at c2
              rw [← ht0] at hmem
              rw [← ht1, ← htm] at hlt12
              have HA0 : Hid (RingSt w wr.drew gt ot T2 c (twoL c f) a' a7) := ⟨hIT.below (Below.refl _ _).drew, hIC.below (Below.refl _ _).drew, hI7.below (Below.refl _ _).drew, hbw.drew⟩
              have HI10 : Hid (IAt wr.drew a6 (oneL c f)) := hI6.below (Below.refl _ _).drew
              have HSX : Hid (∀ X, RingSt w X gt ot T2 c (twoL c f) a' a7 → X.cell? ⟨gt, ot, none⟩ = some (.int .i64 t0) ∧ X.cell? ⟨gt, ot + 1, none⟩ = some (.int .i64 t1) ∧ X.cell? ⟨gt, ot + m, none⟩ = some (.int .i64 tm)) := fun X hX => by
                obtain ⟨g', o', e, _, hc'⟩ := hX.tt (by omega)
                cases e
                rw [ht0, ht1, htm]
                exact ⟨by have := hc' 0 (by omega); rw [Nat.add_zero] at this; exact this, hc' 1 (by omega), hc' m (by omega)⟩
              have CT1 : Hid (∀ X, IAt X a6 (oneL c f) → Calls Try.prog 22 #[.slice a6 k c6] X fun e w' => ∃ v, e = .returned v ∧ TurnTold (oneL c f) X w' v) := fun X hX => CT.out X a6 c6 _ (by rw [oneL_len, HN.out]) hs6.w hX
              have CT2 : Hid (∀ X, IAt X a7 (twoL c f) → Calls Try.prog 22 #[.slice a7 k c7] X fun e w' => ∃ v, e = .returned v ∧ TurnTold (twoL c f) X w' v) := fun X hX => CT.out X a7 c7 _ (by rw [twoL_len, HN.out]) hs7.w hX
              have HTR1 : Hid (TurnIs (oneL c f) T2) := HT.out.round ⟨f, hfc, Or.inl rfl⟩ HRG.out
              have HTR2 : Hid (TurnIs (twoL c f) T2) := HT.out.round ⟨f, hfc, Or.inr rfl⟩ HRG.out
              have CS : Hid (∀ X (a4 : Option Addr) (c4 : Nat), IAt X a4 T2 → IAt X (some ⟨gt, ot, none⟩) T2 → Calls Try.prog 19 #[.slice a4 k c4, .slice (some ⟨gt, ot, none⟩) k ct4] X fun e w' => e = .returned (.bool true) ∧ Below X.heap.size X w') := fun X a4 c4 h1 h2 => CS0.out X a4 _ c4 ct4 T2 hTl h1 h2
              have CI : Hid (∀ X, IAt X a' c → Calls Try.prog 26 #[.slice a' k c', .int .i64 t0] X fun e w' => e = .returned (.bool true) ∧ w' = X) := fun X hX => by
                have := in_any a' c' c t0 X (by rw [← HN.out]; omega) hX
                rw [← HN.out, decide_eq_true hmem] at this
                exact this
              have e1 : (k : Int) - 1 = (m : Int) := by omega
              have e2 : IntKind.i64.wrap (m : Int) = (m : Int) := by rw [IntKind.wrap_i64]; omega
              have e3 : (1 : Int) < (k : Int) := by omega
              have e4 : (m : Int) < (k : Int) := by omega
              have e5 : (0 : Int) ≤ (m : Int) := by omega
              have e6 : (0 : Int) < (k : Int) := by omega
              have e7 : decide (t1 < tm) = true := decide_eq_true hlt12
              have e8 : 1 < k := by omega
              have e9 : 0 < k := by omega
              clear hts hts' htk1 htk2 hI6 hI7 hIC hIT hbw hs6 hs7 hct c0 c1 c2 hm ht0 ht1 htm hmem hTl CT CS0
              go_wp2_with fail
              refine wp_region_held_drew (S := (fun X => X.cell? ⟨gt, ot, none⟩ = some (.int .i64 t0) ∧ X.cell? ⟨gt, ot + 1, none⟩ = some (.int .i64 t1) ∧ X.cell? ⟨gt, ot + m, none⟩ = some (.int .i64 tm))) (by kernel_rfl) (HSX.out _ HA0.out) (fun hHeld => ?_)
              (refine takeW (i := 0) (dst := some 105) (v := ?_) rfl rfl (by kernel_rfl) (by kernel_rfl) (by kernel_rfl) (fun _ _ _ h => h) (Or.inl ⟨by rfl, ?_⟩) hHeld ?_; rotate_left; focus (intro w hSw; (try dsimp only at hSw); go_simp; (try with_reducible rfl); done))
              try simp only [Act.put, List.setIfInBounds_toArray, List.set_cons_zero, List.set_cons_succ]
              (refine takeW (i := 1) (dst := some 106) (v := ?_) rfl rfl (by kernel_rfl) (by kernel_rfl) (by kernel_rfl) (fun _ _ _ h => h) (Or.inl ⟨by rfl, ?_⟩) hHeld ?_; rotate_left; focus (intro w hSw; (try dsimp only at hSw); go_simp; (try with_reducible rfl); done))
              try simp only [Act.put, List.setIfInBounds_toArray, List.set_cons_zero, List.set_cons_succ]
              first | refine takeW (i := 2) (dst := some 107) (v := undef) rfl rfl (by kernel_rfl) (by kernel_rfl) (by kernel_rfl) (fun _ _ _ h => h) (Or.inr ⟨by rfl, rfl⟩) hHeld ?_ | (refine takeW (i := 2) (dst := some 107) (v := ?_) rfl rfl (by kernel_rfl) (by kernel_rfl) (by kernel_rfl) (fun _ _ _ h => h) (Or.inl ⟨by rfl, ?_⟩) hHeld ?_; rotate_left; focus (intro w hSw; (try dsimp only at hSw); go_simp; (try with_reducible rfl); done))
              try simp only [Act.put, List.setIfInBounds_toArray, List.set_cons_zero, List.set_cons_succ]
              first | refine takeW (i := 4) (dst := some 109) (v := undef) rfl rfl (by kernel_rfl) (by kernel_rfl) (by kernel_rfl) (fun _ _ _ h => h) (Or.inr ⟨by rfl, rfl⟩) hHeld ?_ | (refine takeW (i := 4) (dst := some 109) (v := ?_) rfl rfl (by kernel_rfl) (by kernel_rfl) (by kernel_rfl) (fun _ _ _ h => h) (Or.inl ⟨by rfl, ?_⟩) hHeld ?_; rotate_left; focus (intro w hSw; (try dsimp only at hSw); go_simp; (try with_reducible rfl); done))
              try simp only [Act.put, List.setIfInBounds_toArray, List.set_cons_zero, List.set_cons_succ]
              refine wpAnyH_ready (rs := [3]) (by kernel_rfl) (by simp) ?_
              refine AllReadyH.cons (o := _) rfl (fun KK hK => ?_) AllReadyH.nil
              go_simp
              refine (CT1.out _ HI10.out).mono ?_
              rintro e y1 ⟨v1, rfl, a13, c13, L1, rfl, hT1, _, hI1, hb1⟩
              obtain rfl : T2 = L1 := (hT1.one HTR1.out).symm
              rw [← HTl.out]
              have HA1 := hid (HA0.out.on hb1)
              have HI13 := hid hI1
              clear hT1 hI1 hb1 HA0
              refine hK.out _ _ (HSX.out _ HA1.out) (fun hHeld => ?_)
              clear hK KK
              try simp only [Act.put, List.setIfInBounds_toArray, List.set_cons_zero, List.set_cons_succ]
              refine wpAnyH_ready (rs := [5]) (by kernel_rfl) (by simp) ?_
              refine AllReadyH.cons (o := _) rfl (fun KK hK => ?_) AllReadyH.nil
              go_simp
              refine (CS.out _ a13 c13 HI13.out HA1.out.tt).mono ?_
              rintro e y2 ⟨rfl, hb2⟩
              have HA2 := hid (HA1.out.on hb2)
              clear hb2 HA1 HI13
              refine hK.out _ _ (HSX.out _ HA2.out) (fun hHeld => ?_)
              clear hK KK
              try simp only [Act.put, List.setIfInBounds_toArray, List.set_cons_zero, List.set_cons_succ]
              (refine takeW (i := 6) (dst := some 111) (v := ?_) rfl rfl (by kernel_rfl) (by kernel_rfl) (by kernel_rfl) (fun _ _ _ h => h) (Or.inl ⟨by rfl, ?_⟩) hHeld ?_; rotate_left; focus (intro w hSw; (try dsimp only at hSw); go_simp; (try with_reducible rfl); done))
              try simp only [Act.put, List.setIfInBounds_toArray, List.set_cons_zero, List.set_cons_succ]
              (refine takeW (i := 7) (dst := some 112) (v := ?_) rfl rfl (by kernel_rfl) (by kernel_rfl) (by kernel_rfl) (fun _ _ _ h => h) (Or.inl ⟨by rfl, ?_⟩) hHeld ?_; rotate_left; focus (intro w hSw; (try dsimp only at hSw); go_simp; (try with_reducible rfl); done))
              try simp only [Act.put, List.setIfInBounds_toArray, List.set_cons_zero, List.set_cons_succ]
              first | refine takeW (i := 8) (dst := some 113) (v := undef) rfl rfl (by kernel_rfl) (by kernel_rfl) (by kernel_rfl) (fun _ _ _ h => h) (Or.inr ⟨by rfl, rfl⟩) hHeld ?_ | (refine takeW (i := 8) (dst := some 113) (v := ?_) rfl rfl (by kernel_rfl) (by kernel_rfl) (by kernel_rfl) (fun _ _ _ h => h) (Or.inl ⟨by rfl, ?_⟩) hHeld ?_; rotate_left; focus (intro w hSw; (try dsimp only at hSw); go_simp; (try with_reducible rfl); done))
              try simp only [Act.put, List.setIfInBounds_toArray, List.set_cons_zero, List.set_cons_succ]
              first | refine takeW (i := 10) (dst := some 115) (v := undef) rfl rfl (by kernel_rfl) (by kernel_rfl) (by kernel_rfl) (fun _ _ _ h => h) (Or.inr ⟨by rfl, rfl⟩) hHeld ?_ | (refine takeW (i := 10) (dst := some 115) (v := ?_) rfl rfl (by kernel_rfl) (by kernel_rfl) (by kernel_rfl) (fun _ _ _ h => h) (Or.inl ⟨by rfl, ?_⟩) hHeld ?_; rotate_left; focus (intro w hSw; (try dsimp only at hSw); go_simp; (try with_reducible rfl); done))
              try simp only [Act.put, List.setIfInBounds_toArray, List.set_cons_zero, List.set_cons_succ]
              refine wpAnyH_ready (rs := [9]) (by kernel_rfl) (by simp) ?_
              refine AllReadyH.cons (o := _) rfl (fun KK hK => ?_) AllReadyH.nil
              go_simp
              refine (CT2.out _ HA2.out.tw).mono ?_
              rintro e y3 ⟨v3, rfl, a14, c14, L2, rfl, hT2, _, hI2, hb3⟩
              obtain rfl : T2 = L2 := (hT2.one HTR2.out).symm
              rw [← HTl.out]
              have HA3 := hid (HA2.out.on hb3)
              have HI14 := hid hI2
              clear hT2 hI2 hb3 HA2
              refine hK.out _ _ (HSX.out _ HA3.out) (fun hHeld => ?_)
              clear hK KK
              try simp only [Act.put, List.setIfInBounds_toArray, List.set_cons_zero, List.set_cons_succ]
              refine wpAnyH_ready (rs := [11]) (by kernel_rfl) (by simp) ?_
              refine AllReadyH.cons (o := _) rfl (fun KK hK => ?_) AllReadyH.nil
              go_simp
              refine (CS.out _ a14 c14 HI14.out HA3.out.tt).mono ?_
              rintro e y4 ⟨rfl, hb4⟩
              have HA4 := hid (HA3.out.on hb4)
              clear hb4 HA3 HI14
              refine hK.out _ _ (HSX.out _ HA4.out) (fun hHeld => ?_)
              clear hK KK
              try simp only [Act.put, List.setIfInBounds_toArray, List.set_cons_zero, List.set_cons_succ]
              (refine takeW (i := 12) (dst := some 117) (v := ?_) rfl rfl (by kernel_rfl) (by kernel_rfl) (by kernel_rfl) (fun _ _ _ h => h) (Or.inl ⟨by rfl, ?_⟩) hHeld ?_; rotate_left; focus (intro w hSw; (try dsimp only at hSw); go_simp; (try with_reducible rfl); done))
              try simp only [Act.put, List.setIfInBounds_toArray, List.set_cons_zero, List.set_cons_succ]
              (refine takeW (i := 13) (dst := some 118) (v := ?_) rfl rfl (by kernel_rfl) (by kernel_rfl) (by kernel_rfl) (fun _ _ _ h => h) (Or.inl ⟨by rfl, ?_⟩) hHeld ?_; rotate_left; focus (intro w hSw; (try dsimp only at hSw); go_simp; (try with_reducible rfl); done))
              try simp only [Act.put, List.setIfInBounds_toArray, List.set_cons_zero, List.set_cons_succ]
              first | refine takeW (i := 14) (dst := some 119) (v := undef) rfl rfl (by kernel_rfl) (by kernel_rfl) (by kernel_rfl) (fun _ _ _ h => h) (Or.inr ⟨by rfl, rfl⟩) hHeld ?_ | (refine takeW (i := 14) (dst := some 119) (v := ?_) rfl rfl (by kernel_rfl) (by kernel_rfl) (by kernel_rfl) (fun _ _ _ h => h) (Or.inl ⟨by rfl, ?_⟩) hHeld ?_; rotate_left; focus (intro w hSw; (try dsimp only at hSw); go_simp; (try with_reducible rfl); done))
              try simp only [Act.put, List.setIfInBounds_toArray, List.set_cons_zero, List.set_cons_succ]
              first | refine takeW (i := 15) (dst := some 120) (v := undef) rfl rfl (by kernel_rfl) (by kernel_rfl) (by kernel_rfl) (fun _ _ _ h => h) (Or.inr ⟨by rfl, rfl⟩) hHeld ?_ | (refine takeW (i := 15) (dst := some 120) (v := ?_) rfl rfl (by kernel_rfl) (by kernel_rfl) (by kernel_rfl) (fun _ _ _ h => h) (Or.inl ⟨by rfl, ?_⟩) hHeld ?_; rotate_left; focus (intro w hSw; (try dsimp only at hSw); go_simp; (try with_reducible rfl); done))
              try simp only [Act.put, List.setIfInBounds_toArray, List.set_cons_zero, List.set_cons_succ]
              first | refine takeW (i := 16) (dst := some 121) (v := undef) rfl rfl (by kernel_rfl) (by kernel_rfl) (by kernel_rfl) (fun _ _ _ h => h) (Or.inr ⟨by rfl, rfl⟩) hHeld ?_ | (refine takeW (i := 16) (dst := some 121) (v := ?_) rfl rfl (by kernel_rfl) (by kernel_rfl) (by kernel_rfl) (fun _ _ _ h => h) (Or.inl ⟨by rfl, ?_⟩) hHeld ?_; rotate_left; focus (intro w hSw; (try dsimp only at hSw); go_simp; (try with_reducible rfl); done))
              try simp only [Act.put, List.setIfInBounds_toArray, List.set_cons_zero, List.set_cons_succ]
              first | refine takeW (i := 17) (dst := some 122) (v := undef) rfl rfl (by kernel_rfl) (by kernel_rfl) (by kernel_rfl) (fun _ _ _ h => h) (Or.inr ⟨by rfl, rfl⟩) hHeld ?_ | (refine takeW (i := 17) (dst := some 122) (v := ?_) rfl rfl (by kernel_rfl) (by kernel_rfl) (by kernel_rfl) (fun _ _ _ h => h) (Or.inl ⟨by rfl, ?_⟩) hHeld ?_; rotate_left; focus (intro w hSw; (try dsimp only at hSw); go_simp; (try with_reducible rfl); done))
              try simp only [Act.put, List.setIfInBounds_toArray, List.set_cons_zero, List.set_cons_succ]
              first | refine takeW (i := 18) (dst := some 123) (v := undef) rfl rfl (by kernel_rfl) (by kernel_rfl) (by kernel_rfl) (fun _ _ _ h => h) (Or.inr ⟨by rfl, rfl⟩) hHeld ?_ | (refine takeW (i := 18) (dst := some 123) (v := ?_) rfl rfl (by kernel_rfl) (by kernel_rfl) (by kernel_rfl) (fun _ _ _ h => h) (Or.inl ⟨by rfl, ?_⟩) hHeld ?_; rotate_left; focus (intro w hSw; (try dsimp only at hSw); go_simp; (try with_reducible rfl); done))
              try simp only [Act.put, List.setIfInBounds_toArray, List.set_cons_zero, List.set_cons_succ]
              first | refine takeW (i := 19) (dst := some 124) (v := undef) rfl rfl (by kernel_rfl) (by kernel_rfl) (by kernel_rfl) (fun _ _ _ h => h) (Or.inr ⟨by rfl, rfl⟩) hHeld ?_ | (refine takeW (i := 19) (dst := some 124) (v := ?_) rfl rfl (by kernel_rfl) (by kernel_rfl) (by kernel_rfl) (fun _ _ _ h => h) (Or.inl ⟨by rfl, ?_⟩) hHeld ?_; rotate_left; focus (intro w hSw; (try dsimp only at hSw); go_simp; (try with_reducible rfl); done))
              try simp only [Act.put, List.setIfInBounds_toArray, List.set_cons_zero, List.set_cons_succ]
              first | refine takeW (i := 20) (dst := some 125) (v := undef) rfl rfl (by kernel_rfl) (by kernel_rfl) (by kernel_rfl) (fun _ _ _ h => h) (Or.inr ⟨by rfl, rfl⟩) hHeld ?_ | (refine takeW (i := 20) (dst := some 125) (v := ?_) rfl rfl (by kernel_rfl) (by kernel_rfl) (by kernel_rfl) (fun _ _ _ h => h) (Or.inl ⟨by rfl, ?_⟩) hHeld ?_; rotate_left; focus (intro w hSw; (try dsimp only at hSw); go_simp; (try with_reducible rfl); done))
              try simp only [Act.put, List.setIfInBounds_toArray, List.set_cons_zero, List.set_cons_succ]
              first | refine takeW (i := 21) (dst := some 126) (v := undef) rfl rfl (by kernel_rfl) (by kernel_rfl) (by kernel_rfl) (fun _ _ _ h => h) (Or.inr ⟨by rfl, rfl⟩) hHeld ?_ | (refine takeW (i := 21) (dst := some 126) (v := ?_) rfl rfl (by kernel_rfl) (by kernel_rfl) (by kernel_rfl) (fun _ _ _ h => h) (Or.inl ⟨by rfl, ?_⟩) hHeld ?_; rotate_left; focus (intro w hSw; (try dsimp only at hSw); go_simp; (try with_reducible rfl); done))
              try simp only [Act.put, List.setIfInBounds_toArray, List.set_cons_zero, List.set_cons_succ]
              first | refine takeW (i := 22) (dst := some 127) (v := undef) rfl rfl (by kernel_rfl) (by kernel_rfl) (by kernel_rfl) (fun _ _ _ h => h) (Or.inr ⟨by rfl, rfl⟩) hHeld ?_ | (refine takeW (i := 22) (dst := some 127) (v := ?_) rfl rfl (by kernel_rfl) (by kernel_rfl) (by kernel_rfl) (fun _ _ _ h => h) (Or.inl ⟨by rfl, ?_⟩) hHeld ?_; rotate_left; focus (intro w hSw; (try dsimp only at hSw); go_simp; (try with_reducible rfl); done))
              try simp only [Act.put, List.setIfInBounds_toArray, List.set_cons_zero, List.set_cons_succ]
              (refine takeW (i := 23) (dst := some 128) (v := ?_) rfl rfl (by kernel_rfl) (by kernel_rfl) (by kernel_rfl) (fun _ _ _ h => h) (Or.inl ⟨by rfl, ?_⟩) hHeld ?_; rotate_left; focus (intro w hSw; (try dsimp only at hSw); go_simp; (try with_reducible rfl); done))
              try simp only [Act.put, List.setIfInBounds_toArray, List.set_cons_zero, List.set_cons_succ]
              (refine takeW (i := 24) (dst := some 129) (v := ?_) rfl rfl (by kernel_rfl) (by kernel_rfl) (by kernel_rfl) (fun _ _ _ h => h) (Or.inl ⟨by rfl, ?_⟩) hHeld ?_; rotate_left; focus (intro w hSw; (try dsimp only at hSw); go_simp; (try with_reducible rfl); done))
              try simp only [Act.put, List.setIfInBounds_toArray, List.set_cons_zero, List.set_cons_succ]
              first | refine takeW (i := 25) (dst := some 130) (v := undef) rfl rfl (by kernel_rfl) (by kernel_rfl) (by kernel_rfl) (fun _ _ _ h => h) (Or.inr ⟨by rfl, rfl⟩) hHeld ?_ | (refine takeW (i := 25) (dst := some 130) (v := ?_) rfl rfl (by kernel_rfl) (by kernel_rfl) (by kernel_rfl) (fun _ _ _ h => h) (Or.inl ⟨by rfl, ?_⟩) hHeld ?_; rotate_left; focus (intro w hSw; (try dsimp only at hSw); go_simp; (try with_reducible rfl); done))
              try simp only [Act.put, List.setIfInBounds_toArray, List.set_cons_zero, List.set_cons_succ]
              first | refine takeW (i := 26) (dst := some 131) (v := undef) rfl rfl (by kernel_rfl) (by kernel_rfl) (by kernel_rfl) (fun _ _ _ h => h) (Or.inr ⟨by rfl, rfl⟩) hHeld ?_ | (refine takeW (i := 26) (dst := some 131) (v := ?_) rfl rfl (by kernel_rfl) (by kernel_rfl) (by kernel_rfl) (fun _ _ _ h => h) (Or.inl ⟨by rfl, ?_⟩) hHeld ?_; rotate_left; focus (intro w hSw; (try dsimp only at hSw); go_simp; (try with_reducible rfl); done))
              try simp only [Act.put, List.setIfInBounds_toArray, List.set_cons_zero, List.set_cons_succ]
              first | refine takeW (i := 27) (dst := some 132) (v := undef) rfl rfl (by kernel_rfl) (by kernel_rfl) (by kernel_rfl) (fun _ _ _ h => h) (Or.inr ⟨by rfl, rfl⟩) hHeld ?_ | (refine takeW (i := 27) (dst := some 132) (v := ?_) rfl rfl (by kernel_rfl) (by kernel_rfl) (by kernel_rfl) (fun _ _ _ h => h) (Or.inl ⟨by rfl, ?_⟩) hHeld ?_; rotate_left; focus (intro w hSw; (try dsimp only at hSw); go_simp; (try with_reducible rfl); done))
              try simp only [Act.put, List.setIfInBounds_toArray, List.set_cons_zero, List.set_cons_succ]
              first | refine takeW (i := 28) (dst := some 133) (v := undef) rfl rfl (by kernel_rfl) (by kernel_rfl) (by kernel_rfl) (fun _ _ _ h => h) (Or.inr ⟨by rfl, rfl⟩) hHeld ?_ | (refine takeW (i := 28) (dst := some 133) (v := ?_) rfl rfl (by kernel_rfl) (by kernel_rfl) (by kernel_rfl) (fun _ _ _ h => h) (Or.inl ⟨by rfl, ?_⟩) hHeld ?_; rotate_left; focus (intro w hSw; (try dsimp only at hSw); go_simp; (try with_reducible rfl); done))
              try simp only [Act.put, List.setIfInBounds_toArray, List.set_cons_zero, List.set_cons_succ]
              refine wpAnyH_ready (rs := [29]) (by kernel_rfl) (by simp) ?_
              refine AllReadyH.cons (o := _) rfl (fun KK hK => ?_) AllReadyH.nil
              go_simp
              refine (CI.out _ HA4.out.cc).mono ?_
              rintro e y5 ⟨rfl, hy5⟩
              subst hy5
              refine hK.out _ _ hHeld (fun hHeld => ?_)
              clear hK KK
              try simp only [Act.put, List.setIfInBounds_toArray, List.set_cons_zero, List.set_cons_succ]
              (refine takeW (i := 30) (dst := some 135) (v := ?_) rfl rfl (by kernel_rfl) (by kernel_rfl) (by kernel_rfl) (fun _ _ _ h => h) (Or.inl ⟨by rfl, ?_⟩) hHeld ?_; rotate_left; focus (intro w hSw; (try dsimp only at hSw); go_simp; (try with_reducible rfl); done))
              try simp only [Act.put, List.setIfInBounds_toArray, List.set_cons_zero, List.set_cons_succ]
              (refine takeW (i := 31) (dst := some 4) (v := ?_) rfl rfl (by kernel_rfl) (by kernel_rfl) (by kernel_rfl) (fun _ _ _ h => h) (Or.inl ⟨by rfl, ?_⟩) hHeld ?_; rotate_left; focus (intro w hSw; (try dsimp only at hSw); go_simp; (try with_reducible rfl); done))
              try simp only [Act.put, List.setIfInBounds_toArray, List.set_cons_zero, List.set_cons_succ]
              refine wpAnyH_done (by kernel_rfl) ?_ _
              have HBE := hid HA4.out.bel
              clear hHeld
              go_wp2
              go_ret
              exact ⟨rfl, HBE.out⟩
end Go.Proofs.Ytccbheijfnodjaa
