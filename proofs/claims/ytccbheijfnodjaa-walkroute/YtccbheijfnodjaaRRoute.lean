/-
  The document's Route (layer 5): the walk.
-/
import Derived.Test.YtccbheijfnodjaaB25
import Derived.Test.YtccbheijfnodjaaB26
namespace Go.Proofs.Ytccbheijfnodjaa
open Go.RowKit Go.Lib

set_option maxHeartbeats 8000000 in
set_option maxRecDepth 100000 in
theorem rroute_any (n : Int) (a : Option Addr) (cap : Nat) (es : List (Int × Int)) (x y : Int) (ca : Option Addr) (cc : Nat) (away : List Int) (b : Bool) (w : World) (hN : es.length ≤ 1000000) (hA : away.length ≤ 1000000) (hE : EAt w a es) (hI : IAt w ca away) (hb : b = true ↔ RightG n es) :
    Calls Try.prog 21 #[.agg #[.int .i64 n, .slice a es.length cap], .int .i64 x, .int .i64 y, .slice ca away.length cc] w fun e w' => ∃ v, e = .returned v ∧ RouteTold n es x y away w w' v := by
  obtain ⟨i0, hi0, hz0, hz1, hz2⟩ := info_parts Try.info3
  obtain ⟨i1, hj, hy0, hy1, hy2⟩ := info_parts Try.info25
  obtain ⟨N, hNe⟩ := ex_eq es.length
  obtain ⟨M, hMe⟩ := ex_eq away.length
  obtain ⟨W, hW⟩ := ex_eq (w.alloc (.cells #[.int .i64 n, .slice a N cap] 24))
  have hbW : Below w.heap.size w W := by rw [hW]; exact (Below.refl _ _).alloc (Nat.le_refl _) _
  have hO : W.heap[w.heap.size]? = some (.cells #[.int .i64 n, .slice a N cap] 24 (0, 0)) := by rw [hW]; exact heap_alloc_new _ _
  have hBW : w.heap.size < W.heap.size := (Array.getElem?_eq_some_iff.1 hO).1
  have HGC : Hid (∀ X, Below W.heap.size W X → GC X w.heap.size n a N cap es ∧ IAt X ca away ∧ Below w.heap.size w X) := fun X hX => by
    have o := (hX.block _ hBW).trans hO
    have hbx : Below w.heap.size w X := hbW.trans (hX.mono (by omega))
    exact ⟨⟨cell_of_heap o 0, cell_of_heap o 1, hE.below hbx⟩, hI.below hbx, hbx⟩
  have CR : Hid (∀ X, Below W.heap.size W X → Calls Try.prog 35 #[.agg #[.int .i64 n, .slice a N cap]] X fun e w' => e = .returned (.bool b) ∧ Below X.heap.size X w') := fun X hX => by
    rw [hNe]; exact rright_any n a cap es b X hN (HGC.out X hX).1.at_ hb
  have CI : Hid (∀ X (z : Int) (d : Bool), IAt X ca away → d = decide (z ∈ away) → Calls Try.prog 26 #[.slice ca M cc, .int .i64 z] X fun e w' => e = .returned (.bool d) ∧ w' = X) := fun X z d h hd => by
    rw [hd, hMe]; exact in_any ca cc away z X hA h
  have CL : Hid (∀ X (a1 a2 : Option Addr) (c1 c2 : Nat) (xs ys : List Int), xs.length ≤ 1000000 → IAt X a1 xs → IAt X a2 ys → Calls Try.prog 43 #[.slice a1 xs.length c1, .slice a2 ys.length c2] X fun e w' => e = .returned (.bool (lexL xs ys)) ∧ Below X.heap.size X w') := fun X a1 a2 c1 c2 xs ys h1 h3 h4 => less_any a1 a2 c1 c2 xs ys X h1 h3 h4
  have HBB := hid hb
  have HNN := hid hNe
  have HW := hid hW
  rw [← hMe]
  rw [← hNe] at hN ⊢
  clear hNe hMe hW hbW hO hE hI hb hA
  go_enter Try.func21, Try.ntmps21
  go_wp2_with fail
  rw [← HW.out]
  refine (CR.out W (Below.refl _ _)).mono ?_
  rintro e w1 ⟨rfl, hb1⟩
  have HB1 := hid hb1
  obtain ⟨hg1, hi1, hbw1⟩ := HGC.out w1 hb1
  have HI1 := hid hi1
  have HBw1 := hid hbw1
  obtain ⟨c0, c1⟩ := hg1.cells
  clear CR hb1 hg1 hi1 hbw1 HW
  cases b with
  | false =>
    have HT : Hid (RouteTold n es x y away w w1 (.slice none 0 0)) := route_nil HBw1.out (fun h => by have := HBB.out.2 h.1; cases this)
    clear HBB
    go_wp2
    go_ret
    exact ⟨_, rfl, HT.out⟩
  | true =>
    have HRG := hid (HBB.out.1 rfl)
    have HT : Hid (¬ ((0 ≤ x ∧ x < n) ∧ (0 ≤ y ∧ y < n) ∧ x ∉ away ∧ y ∉ away) → RouteTold n es x y away w w1 (.slice none 0 0)) := fun h => route_nil HBw1.out (fun h' => h h'.2)
    clear HBB
    by_cases hin : (0 ≤ x ∧ x < n) ∧ (0 ≤ y ∧ y < n)
    · obtain ⟨⟨hx0, hxn⟩, hy0', hyn⟩ := hin
      have e1 : ¬ x < 0 := by omega
      have e2 : ¬ y < 0 := by omega
      have e3 : ¬ n ≤ x := by omega
      have e4 : ¬ n ≤ y := by omega
      by_cases hxa : x ∈ away
      · have C1 := hid (CI.out w1 x true HI1.out (decide_eq_true hxa).symm)
        have HX := hid (HT.out (fun h => h.2.2.1 hxa))
        clear hxa HT
        go_wp2_with fail
        refine C1.out.mono ?_
        rintro e w2 ⟨rfl, hw2⟩
        rw [hw2]
        go_wp2
        go_ret
        exact ⟨_, rfl, HX.out⟩
      · have C1 := hid (CI.out w1 x false HI1.out (decide_eq_false hxa).symm)
        by_cases hya : y ∈ away
        · have C2 := hid (CI.out w1 y true HI1.out (decide_eq_true hya).symm)
          have HX := hid (HT.out (fun h => h.2.2.2 hya))
          clear hxa hya HT
          go_wp2_with fail
          refine C1.out.mono ?_
          rintro e w2 ⟨rfl, hw2⟩
          rw [hw2]
          clear hw2
          go_wp2_with fail
          refine C2.out.mono ?_
          rintro e w2 ⟨rfl, hw2⟩
          rw [hw2]
          go_wp2
          go_ret
          exact ⟨_, rfl, HX.out⟩
        · have C2 := hid (CI.out w1 y false HI1.out (decide_eq_false hya).symm)
          have HXA := hid hxa
          obtain ⟨m, rfl⟩ : ∃ m : Nat, n = m := ⟨n.toNat, by omega⟩
          obtain ⟨p, rfl⟩ : ∃ p : Nat, x = p := ⟨x.toNat, by omega⟩
          obtain ⟨q, rfl⟩ : ∃ q : Nat, y = q := ⟨y.toNat, by omega⟩
          have hm1 : m ≤ 1000 := by have := HRG.out.2.1; omega
          have hpm : p < m := by omega
          have hqm : q < m := by omega
          have f1 : decide ((p : Int) < 0) = false := decide_eq_false (by omega)
          have f2 : decide ((q : Int) < 0) = false := decide_eq_false (by omega)
          have f3 : decide ((m : Int) ≤ (p : Int)) = false := decide_eq_false (by omega)
          have f4 : decide ((m : Int) ≤ (q : Int)) = false := decide_eq_false (by omega)
          have f5 : decide (m ≤ p) = false := decide_eq_false (by omega)
          have f6 : decide (m ≤ q) = false := decide_eq_false (by omega)
          obtain ⟨g1, hg1⟩ := ex_eq w1.heap.size
          obtain ⟨w2, hrun, hown, hgrow⟩ := run_make_full (P := Try.prog) w1 w1.heap.size 36 25 i1 (.slice none 0 0) 1 Try.underlying36 hj hy0 hy1 .i64 .i64 m (by rw [hy2]; omega) (by unfold maxLen; omega) (Nat.le_refl _)
          rw [← hg1] at hown hrun
          have hb2 : Below g1 w1 w2 := by rw [hg1]; exact Below.grown (Below.refl _ _) hgrow (Nat.le_refl _) (fun k hk => by cases hk)
          have hrw2 : RW w2 g1 m (fun k => g1 < k) (fun _ => []) := rw_made hown (Nat.lt_irrefl _)
          obtain ⟨W3, hW3⟩ := ex_eq (w2.alloc (.cells #[.int .i64 p] 3))
          have hg2 : g1 < w2.heap.size := hrw2.lt
          have hrw3 : RW W3 g1 m (fun k => g1 < k) (fun _ => []) := by rw [hW3]; exact hrw2.below (below_one _ _)
          have hI3 : IAt W3 (some ⟨w2.heap.size, 0, none⟩) [(p : Int)] := by rw [hW3]; exact iat_new w2 _ _ _ rfl
          obtain ⟨_, _, cz, fz, _⟩ := hrw3.at_ p hpm
          obtain ⟨W4, hW4⟩ := ex_eq (W3.setCell ⟨g1, p, none⟩ (.slice (some ⟨w2.heap.size, 0, none⟩) 1 1))
          have HST : Hid (RtSt w1 W4 g1 m es p away 1 (fun v => if v = p then [(p : Int)] else [])) := by
            refine ⟨?_, fun v hv => ?_, ?_⟩
            · rw [hW4]; exact hrw3.put hpm (L := [(p : Int)]) (sl_some (by simp)) hI3 (fun g' off e _ => by cases e; exact hg2)
            · have := best_init (n := m) (es := es) (a := (p : Int)) (away := away) (by omega) HXA.out (v : Int)
              by_cases e : v = p
              · subst e; simpa using this
              · rw [if_neg (by omega)] at this
                rw [if_neg e]; exact this
            · have h3 : Below g1 w1 W3 := by rw [hW3]; exact hb2.alloc (by omega) _
              rw [hW4]; exact h3.setCell (p := ⟨g1, p, none⟩) (Nat.le_refl _) _
          have HGX : Hid (∀ X, Below g1 w1 X → GC X w.heap.size m a N cap es ∧ IAt X ca away ∧ Below w.heap.size w X) := fun X hX => HGC.out X (HB1.out.trans (hX.mono (by rw [hg1]; exact HB1.out.size)))
          have HW3 := hid hW3
          have HW4 := hid hW4
          rw [hW3] at cz fz
          clear hown hgrow hrw2 hrw3 hI3 hW3 hW4 hxa hya HT HGC HBw1 HB1 hg1 hb2
          go_wp2_with fail
          refine C1.out.mono ?_
          rintro e w2' ⟨rfl, hw2⟩
          rw [hw2]
          clear hw2
          go_wp2_with fail
          refine C2.out.mono ?_
          rintro e w2' ⟨rfl, hw2⟩
          rw [hw2]
          clear hw2 C1 C2
          go_upto_region 5 with fail
          rw [← World.setCell_alloc_past _ _ _ _ hg2, ← HW3.out, ← HW4.out]
          clear HW3 HW4 cz fz hrun
          have HE2 : Hid ((dirs es).length = 2 * N) := by show _ = _; rw [dirs_len, HNN.out]
          obtain ⟨E2, hE2⟩ := ex_eq (2 * N)
          have r1 : (2 : Int) * (N : Int) = (E2 : Int) := by omega
          have r2 : IntKind.i64.wrap (E2 : Int) = (E2 : Int) := by rw [IntKind.wrap_i64]; omega
          have HEQ := hid hE2
          clear hE2
          go_wp2
          go_loopg [10] m (fun G i wz => ∃ (long : Nat) (B : Nat → List Int), 1 ≤ long ∧ long ≤ m ∧ m - long ≤ G ∧ i = .int .i64 long ∧ Hid (RtSt w1 wz g1 m es p away long B))
          case atStart => exact ⟨1, _, Nat.le_refl _, by omega, by omega, rfl, HST⟩
          case round =>
            obtain ⟨long, B, hl1, hlm, hG, rfl, hst⟩ := hrel
            obtain ⟨hgc, hia, hbw⟩ := HGX.out wr hst.out.bel
            obtain ⟨c0, c1⟩ := hgc.cells
            have HBW := hid hbw
            clear hgc hia hbw
            by_cases hlt : long < m
            · have q1 : (long : Int) < (m : Int) := by omega
              obtain ⟨g2, hg2'⟩ := ex_eq wr.heap.size
              obtain ⟨w4, hrun, hown, hgrow⟩ := run_make_full (P := Try.prog) wr wr.heap.size 36 25 i1 (.slice none 0 0) 1 Try.underlying36 hj hy0 hy1 .i64 .i64 m (by rw [hy2]; omega) (by unfold maxLen; omega) (Nat.le_refl _)
              have hb4 : Below wr.heap.size wr w4 := Below.grown (Below.refl _ _) hgrow (Nat.le_refl _) (fun k hk => by cases hk)
              have HIN : Hid (RtIn w1 w4 g1 g2 m es away long B 0 (fun _ => [])) := by
                rw [hg2']; exact hst.out.found hb4 (rw_made hown (Nat.lt_irrefl _))
              have HBE := hid hst.out.best
              rw [← hg2'] at hrun
              clear hown hgrow hb4 hst hg2'
              go_wp2
              clear hrun c0 c1 HBW
              go_loopg [12] E2 (fun G i wz => ∃ (t : Nat) (F : Nat → List Int), t ≤ E2 ∧ E2 - t ≤ G ∧ i = .int .i64 t ∧ Hid (RtIn w1 wz g1 g2 m es away long B t F))
              case atStart => exact ⟨0, _, Nat.zero_le _, by omega, rfl, HIN⟩
              case round =>
                obtain ⟨t, F, htE, hGt, rfl, hin⟩ := hrel
                obtain ⟨hgc, hia, hbw⟩ := HGX.out wr hin.out.bel
                obtain ⟨c0, c1⟩ := hgc.cells
                by_cases htl : t < E2
                · have q2 : (t : Int) < (E2 : Int) := by omega
                  obtain ⟨k, hk⟩ := ex_eq (t / 2)
                  have hkN' : k < N := by have := HEQ.out; omega
                  have hkN : k < es.length := by rw [← HNN.out]; exact hkN'
                  obtain ⟨ge, oe, hae, _, hce⟩ := hgc.at_ (by omega)
                  subst hae
                  obtain ⟨d0, d1⟩ := hce k hkN
                  have hok := (HRG.out.at k hkN).1
                  obtain ⟨u, hu⟩ : ∃ u : Nat, (u : Int) = es[k].1 := ⟨es[k].1.toNat, by omega⟩
                  obtain ⟨v, hv⟩ : ∃ v : Nat, (v : Int) = es[k].2 := ⟨es[k].2.toNat, by omega⟩
                  rw [← hu, ← hv] at hok
                  rw [← hu] at d0
                  rw [← hv] at d1
                  have hda := dirs_at hkN
                  rw [← hu, ← hv] at hda
                  have hek : es[k] = ((u : Int), (v : Int)) := by rw [hu, hv]
                  rw [hek] at hda
                  have q3 : (k : Int) < (N : Int) := by omega
                  have q4 : (t : Int).tdiv 2 = (k : Int) := by rw [hk]; rfl
                  have q5 : (0 : Int) ≤ (k : Int) := by omega
                  have q6 : IntKind.i64.wrap (k : Int) = (k : Int) := by rw [IntKind.wrap_i64]; omega
                  obtain ⟨c, hc⟩ := ex_eq (t % 2)
                  have q7 : (t : Int).tmod 2 = (c : Int) := by rw [hc]; rfl
                  have HIA := hid hia
                  have hc2 : c = 0 ∨ c = 1 := by omega
                  -- the ends of the pair
                  obtain ⟨xx, yy, hxm, hym, hdir, hxy⟩ : ∃ xx yy : Nat, xx < m ∧ yy < m ∧ (dirs es)[t]? = some ((xx : Int), (yy : Int)) ∧ ((c = 0 ∧ xx = u ∧ yy = v) ∨ (c = 1 ∧ xx = v ∧ yy = u)) := by
                    rcases hc2 with h | h
                    · refine ⟨u, v, by omega, by omega, ?_, Or.inl ⟨h, rfl, rfl⟩⟩
                      rw [show t = 2 * k by omega]; exact hda.1
                    · refine ⟨v, u, by omega, by omega, ?_, Or.inr ⟨h, rfl, rfl⟩⟩
                      rw [show t = 2 * k + 1 by omega]; exact hda.2
                  have HDIR := hid hdir
                  clear hu hv hda hek hce hok hk hc hc2 hdir hkN hgc hia hbw
                  rcases hxy with ⟨rfl, rfl, rfl⟩ | ⟨rfl, rfl, rfl⟩
                  · have q9 : (((0 : Nat) : Int) == 1) = false := by decide
                    obtain ⟨ax, cx, hx1, _, _, hIx, _⟩ := hin.out.rb.at_ xx hxm
                    obtain ⟨ay, cy, hy1', _, _, _, _⟩ := hin.out.rb.at_ yy hym
                    obtain ⟨af, cf, hf1, _, _, _, _⟩ := hin.out.rf.at_ yy hym
                    obtain ⟨lx, hlx⟩ := ex_eq (B xx).length
                    obtain ⟨ly, hly⟩ := ex_eq (B yy).length
                    rw [← hlx] at hx1
                    rw [← hly] at hy1'
                    have e5 : (xx : Int) < (m : Int) := by omega
                    have e6 : (yy : Int) < (m : Int) := by omega
                    have e7 : (0 : Int) ≤ (xx : Int) := by omega
                    have e8 : (0 : Int) ≤ (yy : Int) := by omega
                    by_cases hll : lx = long
                    · by_cases hly0 : ly = 0
                      · by_cases hyA : (yy : Int) ∈ away
                        · have CY := hid (CI.out wr yy true HIA.out (decide_eq_true hyA).symm)
                          have HNX := hid (hin.out.skip HDIR.out (fun h => h.2.2 hyA))
                          subst hll
                          subst hly0
                          clear hin hIx hlx hly hyA hf1
                          go_wp2_with fail
                          refine CY.out.mono ?_
                          rintro e w9 ⟨rfl, hw9⟩
                          rw [hw9]
                          clear hw9 CY
                          go_wp2
                          go_roundg (E2 - (t + 1))
                          case measure => omega
                          case rel => exact ⟨t + 1, F, by omega, Nat.le_refl _, by go_num, HNX⟩
                        · have CY := hid (CI.out wr yy false HIA.out (decide_eq_false hyA).symm)
                          have HCD : Hid ((B xx).length = long ∧ B yy = [] ∧ (yy : Int) ∉ away) := ⟨by rw [← hlx]; exact hll, List.length_eq_zero_iff.1 (by rw [← hly]; exact hly0), hyA⟩
                          have HLX : Hid (long = (B xx).length) := HCD.out.1.symm
                          subst hll
                          subst hly0
                          obtain ⟨gx, ox, hax, _, hcx⟩ := hIx (by rw [← HLX.out]; omega)
                          subst hax
                          have HOW : Hid ((wr.alloc (.cells #[] 3)).ownsRow wr.heap.size 3 1 (.slice (some ⟨wr.heap.size, 0, none⟩) 0 0) 0 []) := own_emptyI _ rfl
                          have HNW : Hid (∀ z, (some ⟨gx, ox, none⟩ : Option Addr) = some z → ∀ j u, ((B xx).map (Value.int .i64))[j]? = some u → (wr.alloc (.cells #[] 3)).cell? (z.add j) = some u) := fun z hz j u hu' => by
                            cases hz
                            rw [List.getElem?_map] at hu'
                            have hjl : j < (B xx).length := by
                              by_cases hh : j < (B xx).length
                              · exact hh
                              · rw [List.getElem?_eq_none (by omega)] at hu'; cases hu'
                            rw [List.getElem?_eq_getElem hjl] at hu'
                            cases hu'
                            rw [add_at]
                            exact cell_alloc_old (hcx j hjl) _
                          have HON : Hid (∀ z ∈ (B xx).map (Value.int .i64), z.oneCell' = true) := fun z hz => by obtain ⟨z', _, rfl⟩ := List.mem_map.1 hz; rfl
                          have HLN : Hid (((B xx).map (Value.int .i64)).length = lx * 1) := by show _ = _; rw [List.length_map, ← HLX.out, Nat.mul_one]
                          have H63 : Hid (0 + lx ≤ maxLen) := by show 0 + lx ≤ maxLen; unfold maxLen; omega
                          have HBS : Hid (wr.heap.size ≤ (wr.alloc (.cells #[] 3)).heap.size) := by show _ ≤ _; simp
                          have HXL : Hid (wr.cell? ⟨g1, xx, none⟩ = some (.slice (some ⟨gx, ox, none⟩) lx cx)) := hx1
                          have cxa : (wr.alloc (.cells #[] 3)).cell? ⟨g1, xx, none⟩ = some (.slice (some ⟨gx, ox, none⟩) lx cx) := cell_alloc_old hx1 _
                          clear hIx hcx hlx hly hyA hf1
                          go_wp2_with fail
                          refine CY.out.mono ?_
                          rintro e w9 ⟨rfl, hw9⟩
                          rw [hw9]
                          clear hw9 CY
                          go_wp2_with (at_builtin; refine wpList_append_any _ rfl _ _ 25 rfl wr.heap.size 3 i0 _ 1 8 Try.underlying25 hi0 hz0 hz1 hz2 rfl (by decide) _ _ _ rfl HOW.out (some ⟨gx, ox, none⟩) lx cx ((B xx).map (Value.int .i64)) rfl (fun h => by cases h) HLN.out HNW.out HON.out H63.out ?c4 HBS.out ?_)
                          case c4 => omega
                          intro v5 w5 hown5 hgrow5 _
                          have hb5 : Below wr.heap.size wr w5 := Below.grown (below_one _ _) hgrow5 (by simp) (fun j hj => (HOW.out.lt j hj).1)
                          have HOW5 : Hid ((w5.alloc (.cells #[.int .i64 yy] 3)).ownsRow wr.heap.size 3 1 v5 lx ((B xx).map (Value.int .i64))) := by
                            have h : w5.ownsRow wr.heap.size 3 1 v5 lx ((B xx).map (Value.int .i64)) := by simpa using hown5
                            exact h.alloc _
                          have HNW5 : Hid (∀ z, some (⟨w5.heap.size, 0, none⟩ : Addr) = some z → ∀ j u, [Value.int .i64 (yy : Int)][j]? = some u → (w5.alloc (.cells #[.int .i64 yy] 3)).cell? (z.add j) = some u) := news_one _
                          have HON5 : Hid (∀ z ∈ [Value.int .i64 (yy : Int)], z.oneCell' = true) := fun z hz => by simp at hz; rw [hz]; rfl
                          have H635 : Hid (lx + 1 ≤ maxLen) := by show lx + 1 ≤ maxLen; unfold maxLen; omega
                          have HBS5 : Hid (wr.heap.size ≤ (w5.alloc (.cells #[.int .i64 yy] 3)).heap.size) := by have := hb5.size; show wr.heap.size ≤ _; simp; omega
                          have HB5 := hid hb5
                          clear hown5 hgrow5 hb5 HOW HNW HON HLN H63 HBS cxa
                          go_wp2_with (at_builtin; refine wpList_append_any _ rfl _ _ 25 rfl wr.heap.size 3 i0 _ 1 8 Try.underlying25 hi0 hz0 hz1 hz2 rfl (by decide) _ _ _ rfl HOW5.out (some ⟨w5.heap.size, 0, none⟩) 1 1 [.int .i64 yy] rfl (fun h => by cases h) rfl HNW5.out HON5.out H635.out ?c5 HBS5.out ?_)
                          case c5 => omega
                          intro v6 w6 hown6 hgrow6 _
                          have hb6 : Below wr.heap.size wr w6 := Below.grown (HB5.out.alloc HB5.out.size _) hgrow6 HBS5.out (fun j hj => (HOW5.out.lt j hj).1)
                          obtain ⟨L6, hL6⟩ := ex_eq (B xx ++ [(yy : Int)])
                          have hl6 : L6.length = lx + 1 := by rw [hL6, List.length_append, ← HLX.out]; rfl
                          have hown6' : w6.ownsRow wr.heap.size 3 1 v6 L6.length (L6.map (Value.int .i64)) := by rw [hl6, hL6, List.map_append]; exact hown6
                          obtain ⟨a6, c6, hv6, hs6⟩ := sl_own hown6'
                          obtain ⟨a6', c6', hv6', hI6⟩ := iat_own hown6'
                          rw [hv6] at hv6'
                          simp only [Value.slice.injEq, true_and] at hv6'
                          obtain ⟨rfl, rfl⟩ := hv6'
                          have hge6 : ∀ g' off, a6 = some ⟨g', off, none⟩ → g2 < g' := fun g' off e => by
                            have h1 := own_ge (by rw [← hv6]; exact hown6') g' off e
                            have h2 := hin.out.rf.lt
                            omega
                          have HIN6 := hid (hin.out.on hb6)
                          rw [hl6] at hv6
                          subst hv6
                          have HS6 := hid hs6
                          have HI6 := hid hI6
                          have HGE := hid hge6
                          have HL6 := hid hL6
                          have Hl6 := hid hl6
                          clear hown6 hown6' hgrow6 hb6 hs6 hI6 hge6 hL6 hl6 HOW5 HNW5 HON5 H635 HBS5 HB5 hin hx1 hy1' c0 c1 d0 d1 HXL
                          -- what was found for it so far
                          have HTK : Hid (∀ X, RtIn w1 X g1 g2 m es away lx B t F → IAt X a6 L6 → (F yy = [] ∨ lexL L6 (F yy) = true) → RtIn w1 (X.setCell ⟨g2, yy, none⟩ (.slice a6 (lx + 1) c6)) g1 g2 m es away lx B (t + 1) (fun u => if u = yy then L6 else F u)) := fun X hX hIX hor => by
                            have h := hX.take hym HDIR.out HCD.out (by rw [← HL6.out]; exact hor) (ak := a6) (ck := c6) (by rw [← HL6.out]; exact HS6.out) (by rw [← HL6.out]; exact hIX) HGE.out
                            rw [← HL6.out, Hl6.out] at h
                            exact h
                          obtain ⟨af, cf, hf1, hff, _, hIf, _⟩ := HIN6.out.rf.at_ yy hym
                          obtain ⟨lf, hlf⟩ := ex_eq (F yy).length
                          have HLF := hid hlf
                          rw [← hlf] at hf1
                          by_cases hlf0 : lf = 0
                          · have HNX := hid (HTK.out w6 HIN6.out HI6.out (Or.inl (List.length_eq_zero_iff.1 (by rw [← hlf]; exact hlf0))))
                            subst hlf0
                            clear hlf hIf HTK
                            go_wp2
                            go_roundg (E2 - (t + 1))
                            case measure => omega
                            case rel => exact ⟨t + 1, _, by omega, Nat.le_refl _, by go_num, HNX⟩
                          · have q8 : ((lf : Int) == 0) = false := beq_eq_false_iff_ne.2 (by omega)
                            obtain ⟨dd, hdd⟩ := ex_eq (lexL L6 (F yy))
                            have CLL : Hid (Calls Try.prog 43 #[.slice a6 (lx + 1) c6, .slice af lf cf] w6 fun e w' => e = .returned (.bool dd) ∧ Below w6.heap.size w6 w') := by
                              have h := CL.out w6 a6 af c6 cf L6 (F yy) (by rw [Hl6.out]; omega) HI6.out hIf
                              rw [Hl6.out, ← hlf, ← hdd] at h
                              exact h
                            have HDD := hid hdd
                            have hFne : F yy ≠ [] := fun e => hlf0 (by rw [hlf, e]; rfl)
                            have HFN := hid hFne
                            clear hIf hdd hFne hlf
                            go_wp2_with fail
                            refine CLL.out.mono ?_
                            rintro e w7 ⟨rfl, hb7⟩
                            have HIN7 := hid (HIN6.out.on hb7)
                            have HI7 := hid (HI6.out.below hb7)
                            obtain ⟨_, _, hf2, hff2, _⟩ := HIN7.out.rf.at_ yy hym
                            clear hb7 CLL
                            cases dd with
                            | true =>
                              have HNX := hid (HTK.out w7 HIN7.out HI7.out (Or.inr HDD.out.symm))
                              clear HTK
                              go_wp2
                              go_roundg (E2 - (t + 1))
                              case measure => omega
                              case rel => exact ⟨t + 1, _, by omega, Nat.le_refl _, by go_num, HNX⟩
                            | false =>
                              have HNX := hid (HIN7.out.keep HDIR.out HFN.out (by rw [← HL6.out]; exact HDD.out.symm))
                              clear HTK
                              go_wp2
                              go_roundg (E2 - (t + 1))
                              case measure => omega
                              case rel => exact ⟨t + 1, F, by omega, Nat.le_refl _, by go_num, HNX⟩
                      · have HNX := hid (hin.out.skip HDIR.out (fun h => hly0 (by rw [hly, h.2.1]; rfl)))
                        have q8 : (0 : Int) < (ly : Int) := by omega
                        subst hll
                        clear hin hIx hlx hly hf1
                        go_wp2
                        go_roundg (E2 - (t + 1))
                        case measure => omega
                        case rel => exact ⟨t + 1, F, by omega, Nat.le_refl _, by go_num, HNX⟩
                    · have HNX := hid (hin.out.skip HDIR.out (fun h => hll (by rw [hlx]; exact h.1)))
                      have q8 : ((lx : Int) == (long : Int)) = false := beq_eq_false_iff_ne.2 (by omega)
                      clear hin hIx hlx hly hf1
                      go_wp2
                      go_roundg (E2 - (t + 1))
                      case measure => omega
                      case rel => exact ⟨t + 1, F, by omega, Nat.le_refl _, by go_num, HNX⟩
                  · have q9 : (((1 : Nat) : Int) == 1) = true := by decide
                    obtain ⟨ax, cx, hx1, _, _, hIx, _⟩ := hin.out.rb.at_ xx hxm
                    obtain ⟨ay, cy, hy1', _, _, _, _⟩ := hin.out.rb.at_ yy hym
                    obtain ⟨af, cf, hf1, _, _, _, _⟩ := hin.out.rf.at_ yy hym
                    obtain ⟨lx, hlx⟩ := ex_eq (B xx).length
                    obtain ⟨ly, hly⟩ := ex_eq (B yy).length
                    rw [← hlx] at hx1
                    rw [← hly] at hy1'
                    have e5 : (xx : Int) < (m : Int) := by omega
                    have e6 : (yy : Int) < (m : Int) := by omega
                    have e7 : (0 : Int) ≤ (xx : Int) := by omega
                    have e8 : (0 : Int) ≤ (yy : Int) := by omega
                    by_cases hll : lx = long
                    · by_cases hly0 : ly = 0
                      · by_cases hyA : (yy : Int) ∈ away
                        · have CY := hid (CI.out wr yy true HIA.out (decide_eq_true hyA).symm)
                          have HNX := hid (hin.out.skip HDIR.out (fun h => h.2.2 hyA))
                          subst hll
                          subst hly0
                          clear hin hIx hlx hly hyA hf1
                          go_wp2_with fail
                          refine CY.out.mono ?_
                          rintro e w9 ⟨rfl, hw9⟩
                          rw [hw9]
                          clear hw9 CY
                          go_wp2
                          go_roundg (E2 - (t + 1))
                          case measure => omega
                          case rel => exact ⟨t + 1, F, by omega, Nat.le_refl _, by go_num, HNX⟩
                        · have CY := hid (CI.out wr yy false HIA.out (decide_eq_false hyA).symm)
                          have HCD : Hid ((B xx).length = long ∧ B yy = [] ∧ (yy : Int) ∉ away) := ⟨by rw [← hlx]; exact hll, List.length_eq_zero_iff.1 (by rw [← hly]; exact hly0), hyA⟩
                          have HLX : Hid (long = (B xx).length) := HCD.out.1.symm
                          subst hll
                          subst hly0
                          obtain ⟨gx, ox, hax, _, hcx⟩ := hIx (by rw [← HLX.out]; omega)
                          subst hax
                          have HOW : Hid ((wr.alloc (.cells #[] 3)).ownsRow wr.heap.size 3 1 (.slice (some ⟨wr.heap.size, 0, none⟩) 0 0) 0 []) := own_emptyI _ rfl
                          have HNW : Hid (∀ z, (some ⟨gx, ox, none⟩ : Option Addr) = some z → ∀ j u, ((B xx).map (Value.int .i64))[j]? = some u → (wr.alloc (.cells #[] 3)).cell? (z.add j) = some u) := fun z hz j u hu' => by
                            cases hz
                            rw [List.getElem?_map] at hu'
                            have hjl : j < (B xx).length := by
                              by_cases hh : j < (B xx).length
                              · exact hh
                              · rw [List.getElem?_eq_none (by omega)] at hu'; cases hu'
                            rw [List.getElem?_eq_getElem hjl] at hu'
                            cases hu'
                            rw [add_at]
                            exact cell_alloc_old (hcx j hjl) _
                          have HON : Hid (∀ z ∈ (B xx).map (Value.int .i64), z.oneCell' = true) := fun z hz => by obtain ⟨z', _, rfl⟩ := List.mem_map.1 hz; rfl
                          have HLN : Hid (((B xx).map (Value.int .i64)).length = lx * 1) := by show _ = _; rw [List.length_map, ← HLX.out, Nat.mul_one]
                          have H63 : Hid (0 + lx ≤ maxLen) := by show 0 + lx ≤ maxLen; unfold maxLen; omega
                          have HBS : Hid (wr.heap.size ≤ (wr.alloc (.cells #[] 3)).heap.size) := by show _ ≤ _; simp
                          have HXL : Hid (wr.cell? ⟨g1, xx, none⟩ = some (.slice (some ⟨gx, ox, none⟩) lx cx)) := hx1
                          have cxa : (wr.alloc (.cells #[] 3)).cell? ⟨g1, xx, none⟩ = some (.slice (some ⟨gx, ox, none⟩) lx cx) := cell_alloc_old hx1 _
                          clear hIx hcx hlx hly hyA hf1
                          go_wp2_with fail
                          refine CY.out.mono ?_
                          rintro e w9 ⟨rfl, hw9⟩
                          rw [hw9]
                          clear hw9 CY
                          go_wp2_with (at_builtin; refine wpList_append_any _ rfl _ _ 25 rfl wr.heap.size 3 i0 _ 1 8 Try.underlying25 hi0 hz0 hz1 hz2 rfl (by decide) _ _ _ rfl HOW.out (some ⟨gx, ox, none⟩) lx cx ((B xx).map (Value.int .i64)) rfl (fun h => by cases h) HLN.out HNW.out HON.out H63.out ?c4 HBS.out ?_)
                          case c4 => omega
                          intro v5 w5 hown5 hgrow5 _
                          have hb5 : Below wr.heap.size wr w5 := Below.grown (below_one _ _) hgrow5 (by simp) (fun j hj => (HOW.out.lt j hj).1)
                          have HOW5 : Hid ((w5.alloc (.cells #[.int .i64 yy] 3)).ownsRow wr.heap.size 3 1 v5 lx ((B xx).map (Value.int .i64))) := by
                            have h : w5.ownsRow wr.heap.size 3 1 v5 lx ((B xx).map (Value.int .i64)) := by simpa using hown5
                            exact h.alloc _
                          have HNW5 : Hid (∀ z, some (⟨w5.heap.size, 0, none⟩ : Addr) = some z → ∀ j u, [Value.int .i64 (yy : Int)][j]? = some u → (w5.alloc (.cells #[.int .i64 yy] 3)).cell? (z.add j) = some u) := news_one _
                          have HON5 : Hid (∀ z ∈ [Value.int .i64 (yy : Int)], z.oneCell' = true) := fun z hz => by simp at hz; rw [hz]; rfl
                          have H635 : Hid (lx + 1 ≤ maxLen) := by show lx + 1 ≤ maxLen; unfold maxLen; omega
                          have HBS5 : Hid (wr.heap.size ≤ (w5.alloc (.cells #[.int .i64 yy] 3)).heap.size) := by have := hb5.size; show wr.heap.size ≤ _; simp; omega
                          have HB5 := hid hb5
                          clear hown5 hgrow5 hb5 HOW HNW HON HLN H63 HBS cxa
                          go_wp2_with (at_builtin; refine wpList_append_any _ rfl _ _ 25 rfl wr.heap.size 3 i0 _ 1 8 Try.underlying25 hi0 hz0 hz1 hz2 rfl (by decide) _ _ _ rfl HOW5.out (some ⟨w5.heap.size, 0, none⟩) 1 1 [.int .i64 yy] rfl (fun h => by cases h) rfl HNW5.out HON5.out H635.out ?c5 HBS5.out ?_)
                          case c5 => omega
                          intro v6 w6 hown6 hgrow6 _
                          have hb6 : Below wr.heap.size wr w6 := Below.grown (HB5.out.alloc HB5.out.size _) hgrow6 HBS5.out (fun j hj => (HOW5.out.lt j hj).1)
                          obtain ⟨L6, hL6⟩ := ex_eq (B xx ++ [(yy : Int)])
                          have hl6 : L6.length = lx + 1 := by rw [hL6, List.length_append, ← HLX.out]; rfl
                          have hown6' : w6.ownsRow wr.heap.size 3 1 v6 L6.length (L6.map (Value.int .i64)) := by rw [hl6, hL6, List.map_append]; exact hown6
                          obtain ⟨a6, c6, hv6, hs6⟩ := sl_own hown6'
                          obtain ⟨a6', c6', hv6', hI6⟩ := iat_own hown6'
                          rw [hv6] at hv6'
                          simp only [Value.slice.injEq, true_and] at hv6'
                          obtain ⟨rfl, rfl⟩ := hv6'
                          have hge6 : ∀ g' off, a6 = some ⟨g', off, none⟩ → g2 < g' := fun g' off e => by
                            have h1 := own_ge (by rw [← hv6]; exact hown6') g' off e
                            have h2 := hin.out.rf.lt
                            omega
                          have HIN6 := hid (hin.out.on hb6)
                          rw [hl6] at hv6
                          subst hv6
                          have HS6 := hid hs6
                          have HI6 := hid hI6
                          have HGE := hid hge6
                          have HL6 := hid hL6
                          have Hl6 := hid hl6
                          clear hown6 hown6' hgrow6 hb6 hs6 hI6 hge6 hL6 hl6 HOW5 HNW5 HON5 H635 HBS5 HB5 hin hx1 hy1' c0 c1 d0 d1 HXL
                          -- what was found for it so far
                          have HTK : Hid (∀ X, RtIn w1 X g1 g2 m es away lx B t F → IAt X a6 L6 → (F yy = [] ∨ lexL L6 (F yy) = true) → RtIn w1 (X.setCell ⟨g2, yy, none⟩ (.slice a6 (lx + 1) c6)) g1 g2 m es away lx B (t + 1) (fun u => if u = yy then L6 else F u)) := fun X hX hIX hor => by
                            have h := hX.take hym HDIR.out HCD.out (by rw [← HL6.out]; exact hor) (ak := a6) (ck := c6) (by rw [← HL6.out]; exact HS6.out) (by rw [← HL6.out]; exact hIX) HGE.out
                            rw [← HL6.out, Hl6.out] at h
                            exact h
                          obtain ⟨af, cf, hf1, hff, _, hIf, _⟩ := HIN6.out.rf.at_ yy hym
                          obtain ⟨lf, hlf⟩ := ex_eq (F yy).length
                          have HLF := hid hlf
                          rw [← hlf] at hf1
                          by_cases hlf0 : lf = 0
                          · have HNX := hid (HTK.out w6 HIN6.out HI6.out (Or.inl (List.length_eq_zero_iff.1 (by rw [← hlf]; exact hlf0))))
                            subst hlf0
                            clear hlf hIf HTK
                            go_wp2
                            go_roundg (E2 - (t + 1))
                            case measure => omega
                            case rel => exact ⟨t + 1, _, by omega, Nat.le_refl _, by go_num, HNX⟩
                          · have q8 : ((lf : Int) == 0) = false := beq_eq_false_iff_ne.2 (by omega)
                            obtain ⟨dd, hdd⟩ := ex_eq (lexL L6 (F yy))
                            have CLL : Hid (Calls Try.prog 43 #[.slice a6 (lx + 1) c6, .slice af lf cf] w6 fun e w' => e = .returned (.bool dd) ∧ Below w6.heap.size w6 w') := by
                              have h := CL.out w6 a6 af c6 cf L6 (F yy) (by rw [Hl6.out]; omega) HI6.out hIf
                              rw [Hl6.out, ← hlf, ← hdd] at h
                              exact h
                            have HDD := hid hdd
                            have hFne : F yy ≠ [] := fun e => hlf0 (by rw [hlf, e]; rfl)
                            have HFN := hid hFne
                            clear hIf hdd hFne hlf
                            go_wp2_with fail
                            refine CLL.out.mono ?_
                            rintro e w7 ⟨rfl, hb7⟩
                            have HIN7 := hid (HIN6.out.on hb7)
                            have HI7 := hid (HI6.out.below hb7)
                            obtain ⟨_, _, hf2, hff2, _⟩ := HIN7.out.rf.at_ yy hym
                            clear hb7 CLL
                            cases dd with
                            | true =>
                              have HNX := hid (HTK.out w7 HIN7.out HI7.out (Or.inr HDD.out.symm))
                              clear HTK
                              go_wp2
                              go_roundg (E2 - (t + 1))
                              case measure => omega
                              case rel => exact ⟨t + 1, _, by omega, Nat.le_refl _, by go_num, HNX⟩
                            | false =>
                              have HNX := hid (HIN7.out.keep HDIR.out HFN.out (by rw [← HL6.out]; exact HDD.out.symm))
                              clear HTK
                              go_wp2
                              go_roundg (E2 - (t + 1))
                              case measure => omega
                              case rel => exact ⟨t + 1, F, by omega, Nat.le_refl _, by go_num, HNX⟩
                      · have HNX := hid (hin.out.skip HDIR.out (fun h => hly0 (by rw [hly, h.2.1]; rfl)))
                        have q8 : (0 : Int) < (ly : Int) := by omega
                        subst hll
                        clear hin hIx hlx hly hf1
                        go_wp2
                        go_roundg (E2 - (t + 1))
                        case measure => omega
                        case rel => exact ⟨t + 1, F, by omega, Nat.le_refl _, by go_num, HNX⟩
                    · have HNX := hid (hin.out.skip HDIR.out (fun h => hll (by rw [hlx]; exact h.1)))
                      have q8 : ((lx : Int) == (long : Int)) = false := beq_eq_false_iff_ne.2 (by omega)
                      clear hin hIx hlx hly hf1
                      go_wp2
                      go_roundg (E2 - (t + 1))
                      case measure => omega
                      case rel => exact ⟨t + 1, F, by omega, Nat.le_refl _, by go_num, HNX⟩
                · obtain rfl : t = E2 := by omega
                  have HFD : Hid (∀ v : Nat, v < m → FoundBy (fun z => B z.toNat) long away (dirs es) v (F v)) := fun v hv => by
                    have h := hin.out.fd v hv
                    rw [List.take_of_length_le (by rw [HE2.out, ← HEQ.out]; exact Nat.le_refl _)] at h
                    exact h
                  have HMG := hid hin.out.merge
                  have q2 : ¬ (t : Int) < (t : Int) := by omega
                  clear hin hgc hia hbw
                  go_wp2
                  clear c0 c1
                  go_loopg [16] m (fun G i wz => ∃ k : Nat, k ≤ m ∧ m - k ≤ G ∧ i = .int .i64 k ∧ Hid (RtMg w1 wz g1 g2 m B F k))
                  case atStart => exact ⟨0, Nat.zero_le _, by omega, rfl, HMG⟩
                  case round =>
                    obtain ⟨k, hk, hGk, rfl, hmg⟩ := hrel
                    obtain ⟨hgc, _, _⟩ := HGX.out wr hmg.out.bel
                    obtain ⟨c0, c1⟩ := hgc.cells
                    clear hgc
                    by_cases hkm : k < m
                    · have q3 : (k : Int) < (m : Int) := by omega
                      have q4 : (0 : Int) ≤ (k : Int) := by omega
                      by_cases hf : F k = []
                      · obtain ⟨ak, ck, hc1, _⟩ := hmg.out.rf.at_ k hkm
                        rw [hf] at hc1
                        have HNX := hid (hmg.out.skip hf)
                        clear hmg hf
                        go_wp2
                        go_roundg (m - (k + 1))
                        case measure => omega
                        case rel => exact ⟨k + 1, by omega, Nat.le_refl _, by go_num, HNX⟩
                      · obtain ⟨ak, ck, hc1, hnx⟩ := hmg.out.take hkm hf
                        obtain ⟨_, _, hc2, hf2, _⟩ := hmg.out.rb.at_ k hkm
                        obtain ⟨lf, hlf⟩ := ex_eq (F k).length
                        have hlf0 : 0 < lf := by rw [hlf]; exact List.length_pos_iff.2 hf
                        have q5 : (0 : Int) < (lf : Int) := by omega
                        rw [← hlf] at hc1 hnx
                        have HNX := hid hnx
                        clear hmg hf hnx hlf
                        go_wp2
                        go_roundg (m - (k + 1))
                        case measure => omega
                        case rel => exact ⟨k + 1, by omega, Nat.le_refl _, by go_num, HNX⟩
                    · obtain rfl : k = m := by omega
                      have HNX := hid (hmg.out.done HRG.out hl1 HBE.out HFD.out)
                      clear hmg
                      go_wp2
                      go_roundg (k - (long + 1))
                      case measure => omega
                      case rel => exact ⟨long + 1, _, by omega, by omega, Nat.le_refl _, by go_num, HNX⟩
            · obtain rfl : long = m := by omega
              obtain ⟨ak, ck, cy, _, hsl, hIy, _⟩ := hst.out.rw_.at_ q hqm
              have HT : Hid (RouteTold long es p q away w wr (.slice ak (B q).length ck)) := ⟨ak, ck, B q, rfl, Or.inl ⟨HRG.out, best_all (hst.out.best q hqm) (Nat.le_refl _)⟩, hsl, hIy, HBW.out⟩
              have q1 : (q : Int) < (long : Int) := by omega
              clear hst hsl hIy
              go_wp2
              go_ret
              exact ⟨_, rfl, HT.out⟩
    · have HX := hid (HT.out (fun h => hin ⟨h.1, h.2.1⟩))
      have hway : x < 0 ∨ (¬ x < 0 ∧ y < 0) ∨ (¬ x < 0 ∧ ¬ y < 0 ∧ n ≤ x) ∨ (¬ x < 0 ∧ ¬ y < 0 ∧ ¬ n ≤ x ∧ n ≤ y) := by omega
      clear HT hin
      rcases hway with v1 | ⟨v1, v2⟩ | ⟨v1, v2, v3⟩ | ⟨v1, v2, v3, v4⟩
      all_goals
        go_wp2
        go_ret
        exact ⟨_, rfl, HX.out⟩
end Go.Proofs.Ytccbheijfnodjaa
