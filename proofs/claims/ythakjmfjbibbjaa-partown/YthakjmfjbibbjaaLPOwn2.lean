/-
  carcanetlaw04.PartOwn answers true: the walk.
-/
import Derived.Test.YthakjmfjbibbjaaB14
namespace Go.Proofs.Ythakjmfjbibbjaa
open Go.RowKit Go.Lib

set_option maxHeartbeats 4000000 in
set_option maxRecDepth 100000 in
theorem partOwn_law (n : Int) (a : Option Addr) (N cap : Nat) (l : List (Int × Int)) (x : Int) (w : World) (hl : N = l.length) (hE : EAt w a l) :
    Calls Try.prog 9 #[.int .i64 n, .slice a N cap, .int .i64 x] w fun e w' => e = .returned (.bool true) ∧ Below w.heap.size w w' := by
  have HO := hid partOps
  have HL := hid hl
  obtain ⟨i0, hi, hz0, hz1, hz2⟩ := info_parts Try.info3
  obtain ⟨i1, hj, hy0, hy1, hy2⟩ := info_parts Try.info42
  obtain ⟨b0, hb0⟩ := ex_eq w.heap.size
  have HB0 := hid hb0
  have HEB : Hid (∀ X, Below b0 w X → EAt X a l) := fun X h => hE.below (by rw [← hb0]; exact h)
  obtain ⟨p0, hp0, hp60⟩ := rnd_of n (m := 30) (by omega)
  obtain ⟨m, hm⟩ := ex_eq (p0 + 1)
  have hm1 : 1 + (p0 : Int) = (m : Int) := by omega
  have hm2 : m ≤ 30 := by omega
  have hm3 : 0 < m := by omega
  have hp1 : (bits .and .i64 n 65535).tmod 30 = (p0 : Int) := hp0
  have hp2 : (0 : Int) ≤ (p0 : Int) := by omega
  have hp3 : (p0 : Int) < 30 := by omega
  have h00 : b0 ≤ w.heap.size := by omega
  clear hl hE hb0 hp0 hm
  go_enter Try.func9, Try.ntmps9
  go_wp2_with fail
  refine (pshown_any HO.out w).mono ?_
  rintro e w1 ⟨rfl, hb1⟩
  rw [← HB0.out] at hb1
  have hs1 : b0 ≤ w1.heap.size := Nat.le_trans h00 hb1.size
  go_wp2_with fail
  clear hp1 hp2 hp3 hp60 hm1
  refine (HO.out.new m w1).mono ?_
  rintro e w2 ⟨p, rfl, m1, S1, hmm1, hP1, hS1, hb2⟩
  obtain rfl : m1 = m := by omega
  have HT : Hid (∃ f S, POne PAp w w2 b0 p m1 f S) := ⟨_, S1, hP1, fun k hk => by have := hS1 k hk; omega, hb1.trans (hb2.mono hs1)⟩
  clear hmm1 hP1 hS1 hb2 hb1
  have q4 : ¬ (m1 : Int) = 0 := by omega
  have q6 : ¬ m1 = 0 := by omega
  go_wp2
  go_loopg [9] 30 (fun G i wz => ∃ k : Nat, k ≤ 30 ∧ 30 - k ≤ G ∧ i = .int .i64 k ∧ Hid (∃ f S, POne PAp w wz b0 p m1 f S))
  case atStart => exact ⟨0, Nat.zero_le _, by omega, rfl, HT⟩
  case round =>
    obtain ⟨k, hk, hG, rfl, hT⟩ := hrel
    obtain ⟨f, S, hTw⟩ := hT.out
    go_upto_region 7 with fail
    go_cut [30] from 23 to 29 (fun c wx => c = .bool (decide (k < N ∧ k < 30)) ∧ wx = wr)
    case first =>
      have hway : ((k : Int) < (N : Int) ∧ (k : Int) < 30) ∨ ¬ (k : Int) < (N : Int) ∨ ((k : Int) < (N : Int) ∧ ¬ (k : Int) < 30) := by omega
      clear hTw hT
      rcases hway with ⟨v1, v2⟩ | v1 | ⟨v1, v2⟩
      all_goals
        go_wp2_with fail
        go_meet
      all_goals first | exact ⟨congrArg Value.bool (decide_eq_decide.2 (by omega)), rfl⟩ | exact ⟨congrArg Value.bool (decide_eq_false (p := k < N ∧ k < 30) (by omega)).symm, rfl⟩ | exact ⟨congrArg Value.bool (decide_eq_true (p := k < N ∧ k < 30) (by omega)).symm, rfl⟩
    case rest =>
      obtain ⟨rfl, hwc⟩ := hcut
      rw [hwc]
      clear hwc
      by_cases hgo : k < N ∧ k < 30
      · rw [decide_eq_true hgo]
        obtain ⟨hlt, hk6⟩ := hgo
        have hkr : k < l.length := by rw [← HL.out]; exact hlt
        obtain ⟨gl, off, rfl, hgl, d0, d1⟩ := (HEB.out _ hTw.bel).at2 hkr
        obtain ⟨x1, hp, hpm⟩ := rnd_of l[k].1 hm3
        obtain ⟨y1, hq, hqm⟩ := rnd_of l[k].2 hm3
        obtain ⟨e1, he1⟩ := ex_eq l[k].1
        obtain ⟨e2, he2⟩ := ex_eq l[k].2
        rw [← he1] at d0 hp
        rw [← he2] at d1 hq
        have HC : Hid (∀ X, Below b0 w X → X.cell? ⟨gl, off + k * 2, none⟩ = some (.int .i64 e1) ∧ X.cell? ⟨gl, off + k * 2 + 1, none⟩ = some (.int .i64 e2)) := fun X hX => by
          obtain ⟨g', off', ha', _, z0, z1⟩ := (HEB.out X hX).at2 hkr
          cases ha'
          rw [he1, he2]; exact ⟨z0, z1⟩
        have q1 : (k : Int) < (N : Int) := by omega
        have q2 : (k : Int) < 30 := by omega
        have q5 : (0 : Int) ≤ (k : Int) := by omega
        obtain ⟨r1, hr1⟩ := boolR_of (joinI m1 f x1 y1)
        have HR1 := hid hr1
        have hS := hid2 (show wr.drew.cell? ⟨gl, off + k * 2, none⟩ = some (.int .i64 e1) from d0) (show wr.drew.cell? ⟨gl, off + k * 2 + 1, none⟩ = some (.int .i64 e2) from d1)
        have HTd : Hid (POne PAp w wr.drew b0 p m1 f S) := hTw.beside HO.out (KeptBut.of_whole (fun _ => False) ((Below.refl _ _).drew)) (fun _ _ e => e) (fun _ e => e.elim) h00
        clear he1 he2 hr1 hTw hT hgl
        go_wp2_with fail
        go_region_held3 (fun X => X.cell? ⟨gl, off + k * 2, none⟩ = some (.int .i64 e1) ∧ X.cell? ⟨gl, off + k * 2 + 1, none⟩ = some (.int .i64 e2)) (first | exact hS | exact hS7)
          (first | (go_at_call 15; refine (HO.out.join _ p m1 f S x1 y1 r1 HTd.out.pa HR1.out).mono ?_; rintro e w7 ⟨rfl, hN7⟩; obtain ⟨S7, hT7, _, _⟩ := HTd.out.next hN7 h00; have hS7 := HC.out w7 hT7.bel))
        all_goals
          have HNX : Hid (∃ f S, POne PAp w w7 b0 p m1 f S) := ⟨_, S7, hT7⟩
          clear hT7 hN7 hS7 hS HTd d0 d1
          go_wp2
          go_roundg (30 - (k + 1))
          case measure => omega
          case rel => exact ⟨k + 1, by omega, Nat.le_refl _, by go_num, HNX⟩
      · rw [decide_eq_false hgo]
        have HT1 := hid hTw
        have HPT := hid (HO.out.own hTw.pa).1
        clear hgo hTw hT HEB
        go_wp2_with fail
        refine (pclasses_own wr p m1 f S HT1.out.pa).mono ?_
        rintro e w7 ⟨v7, rfl, h7⟩
        obtain ⟨blk, cap7, gs, rfl, hst0⟩ := own_start (x := x) HT1.out h7 hm3 h00
        obtain ⟨b1, hb1e⟩ := ex_eq wr.heap.size
        obtain ⟨s, hs⟩ := ex_eq w7.heap.size
        obtain ⟨W0, hW0⟩ := ex_eq (w7.alloc (.cells #[] 42))
        obtain ⟨C, hC⟩ := ex_eq (classesF m1 f).length
        rw [← hb1e, ← hs, ← hW0] at hst0
        have HST := hid hst0
        have HCC := hid hC
        have HSS := hid hs
        have HWW := hid hW0
        have hCm : C ≤ m1 := by rw [hC, classesF_len]; exact reps_len _ _
        rw [← hC]
        clear hst0 h7 hC hs hW0 hb1e HT1
        go_wp2
        rw [← HWW.out, ← HSS.out]
        clear HWW HSS
        go_loopg [11, 12] C (fun G v i wz => ∃ t : Nat, t ≤ C ∧ C - t ≤ G ∧ i = .int .i64 t ∧ Hid (OwnSt w wz b0 b1 s p m1 f S blk gs x t 0 t v))
        case atStart => exact ⟨0, Nat.zero_le _, by omega, rfl, HST⟩
        case round =>
          obtain ⟨t, htC, hGt, rfl, hst⟩ := hrel
          by_cases htl : t < C
          · have htc : t < (classesF m1 f).length := by rw [← HCC.out]; exact htl
            obtain ⟨L, hL⟩ := ex_eq (classesF m1 f)[t]
            obtain ⟨R, hR⟩ := ex_eq L.length
            have HRL := hid hR
            have HLL := hid hL
            have hRm : R ≤ m1 := by
              rw [hR, hL]
              obtain ⟨i, _, e⟩ := List.mem_map.1 (List.getElem_mem htc)
              rw [← e]; exact class_len _ _ _
            obtain ⟨⟨ck, c1⟩, _, _, _, hrw⟩ := hst.out.fr.row t htc
            rw [← hL, ← hR] at c1 hrw
            obtain ⟨us, hus⟩ := hst.out.was
            have HUS := hid hus
            have HOW1 : Hid ((wr.alloc (.cells #[] 3)).ownsRow wr.heap.size 3 1 (.slice (some ⟨wr.heap.size, 0, none⟩) 0 0) 0 []) := own_emptyI _ rfl
            have HNW1 : Hid (∀ q, some (⟨gs t, 0, none⟩ : Addr) = some q → ∀ j u, (L.map (Value.int .i64))[j]? = some u → (wr.alloc (.cells #[] 3)).cell? (q.add j) = some u) := fun q hq j u hu => by
              cases hq
              rw [List.getElem?_map] at hu
              have hjl : j < L.length := by
                by_cases h : j < L.length
                · exact h
                · rw [List.getElem?_eq_none (by omega)] at hu; cases hu
              rw [List.getElem?_eq_getElem hjl] at hu
              cases hu
              rw [add_at, Nat.zero_add]
              refine cell_alloc_old ?_ _
              rw [(hrw.2 j (by omega)).1]
              unfold cO
              rw [if_neg (by omega), List.getElem?_eq_getElem htc, ← hL]
              simp [hjl]
            have HON1 : Hid (∀ v ∈ L.map (Value.int .i64), v.oneCell' = true) := fun v hv => by obtain ⟨z, _, rfl⟩ := List.mem_map.1 hv; rfl
            have HLN1 : Hid ((L.map (Value.int .i64)).length = R * 1) := by show _ = _; rw [List.length_map, hR, Nat.mul_one]
            have H631 : Hid (0 + R ≤ maxLen) := by show 0 + R ≤ maxLen; unfold maxLen; omega
            have HBS1 : Hid (wr.heap.size ≤ (wr.alloc (.cells #[] 3)).heap.size) := by show _ ≤ _; simp
            have c2 : (wr.alloc (.cells #[] 3)).cell? ⟨blk, t, none⟩ = some (.slice (some ⟨gs t, 0, none⟩) R ck) := cell_alloc_old c1 _
            have q1 : (t : Int) < (C : Int) := by omega
            have q2 : (0 : Int) ≤ (t : Int) := by omega
            have hRC : R ≤ 30 := by omega
            clear hL hR hus hrw c1
            go_wp2_with (at_builtin; refine wpList_append_any _ rfl _ _ 42 rfl wr.heap.size 3 i0 _ 1 8 Try.underlying42 hi hz0 hz1 hz2 rfl (by decide) _ _ _ rfl HOW1.out (some ⟨gs t, 0, none⟩) R ck (L.map (Value.int .i64)) rfl (fun h => by cases h) HLN1.out HNW1.out HON1.out H631.out ?c4 HBS1.out ?_)
            case c4 => omega
            intro v4 w4 hown4 hgrow4 _
            have hb4 : Below wr.heap.size wr w4 := Below.grown ((Below.refl _ _).alloc (Nat.le_refl _) _) hgrow4 (by simp) (fun j hj => (HOW1.out.lt j hj).1)
            have hown5 : w4.ownsRow wr.heap.size 3 1 v4 L.length (L.map (Value.int .i64)) := by rw [← HRL.out]; exact hown4
            obtain ⟨ar, cr, hv4, _⟩ := iat_own hown5
            subst hv4
            rw [← HRL.out]
            have hU4 := HUS.out.below hb4
            have hlen : ((classesF m1 f).take t).length = t := by rw [List.length_take]; omega
            have HOW : Hid ((w4.alloc (.cells #[.slice ar R cr] 42)).ownsRow s 42 1 u11 t us) := by
              have := hU4.1
              rw [hlen] at this
              exact this.alloc _
            have HNW : Hid (∀ p, some (⟨w4.heap.size, 0, none⟩ : Addr) = some p → ∀ j u, [Value.slice ar R cr][j]? = some u → (w4.alloc (.cells #[.slice ar R cr] 42)).cell? (p.add j) = some u) := news_one _
            have HON : Hid (∀ v ∈ [Value.slice ar R cr], v.oneCell' = true) := fun v hv => by simp at hv; rw [hv]; rfl
            have H63 : Hid (t + 1 ≤ maxLen) := by show t + 1 ≤ maxLen; unfold maxLen; omega
            have HBS : Hid (s ≤ (w4.alloc (.cells #[.slice ar R cr] 42)).heap.size) := by
              have h1 := hst.out.sz
              have h2 := hb4.size
              show s ≤ _; simp; omega
            have HST6 : Hid (∀ v6 w6, w6.ownsRow s 42 1 v6 (t + 1) (us ++ [.slice ar R cr]) → (w4.alloc (.cells #[.slice ar R cr] 42)).grownBy w6 u11.ownBlock → (v6.ownBlock = u11.ownBlock ∨ v6.ownBlock = some (w4.alloc (.cells #[.slice ar R cr] 42)).heap.size) → OwnSt w w6 b0 b1 s p m1 f S blk gs x t 0 (t + 1) v6) := fun v6 w6 h1 h2 h3 => by
              rw [HRL.out] at h1
              exact hst.out.copy HUS.out htc HLL.out h00 hb4 hown5 h1 h2 h3
            clear hown4 hown5 hgrow4 hb4 hU4 hlen hst HUS HOW1 HNW1 HON1 HLN1 H631 HBS1 c2
            go_wp2_with (at_builtin; refine wpList_append_any _ rfl _ _ 33 rfl s 42 i1 _ 1 24 Try.underlying33 hj hy0 hy1 hy2 rfl (by decide) _ _ _ rfl HOW.out (some ⟨w4.heap.size, 0, none⟩) 1 1 [.slice ar R cr] rfl (fun h => by cases h) rfl HNW.out HON.out H63.out ?c5 HBS.out ?_)
            case c5 => omega
            intro v6 w6 hown6 hgrow6 hat6
            have HS6 := hid (HST6.out v6 w6 hown6 hgrow6 (hat6.imp id (fun h => by rw [h]; simp)))
            clear hown6 hgrow6 hat6 HST6 HOW HNW HON H63 HBS
            go_wp2
            go_loopg [13] R (fun G i wz => ∃ u : Nat, u ≤ R ∧ R - u ≤ G ∧ i = .int .i64 u ∧ Hid (OwnSt w wz b0 b1 s p m1 f S blk gs x t u (t + 1) v6))
            case atStart => exact ⟨0, Nat.zero_le _, by omega, rfl, HS6⟩
            case round =>
              obtain ⟨u, huR, hGu, rfl, hs2⟩ := hrel
              obtain ⟨⟨ck2, c1⟩, _, _, _, hrw⟩ := hs2.out.fr.row t htc
              rw [← HLL.out, ← HRL.out] at c1 hrw
              by_cases hul : u < R
              · obtain ⟨cu, fu⟩ := hrw.2 u hul
                have q3 : (u : Int) < (R : Int) := by omega
                have HP6 := hid (hs2.out.put htc (by rw [← HLL.out, ← HRL.out]; exact hul) h00)
                clear hs2 hrw
                go_wp2
                go_roundg (R - (u + 1))
                case measure => omega
                case rel => exact ⟨u + 1, by omega, Nat.le_refl _, by go_num, HP6⟩
              · obtain rfl : u = R := by omega
                have HN6 := hid (hs2.out.next htc (by rw [← HLL.out]; exact HRL.out))
                clear hs2 hrw
                go_wp2
                go_roundg (C - (t + 1))
                case measure => omega
                case rel => exact ⟨t + 1, by omega, Nat.le_refl _, by go_num, HN6⟩
          · obtain rfl : t = C := by omega
            obtain ⟨us, hus⟩ := hst.out.was
            have HP := hid hst.out.pa
            have HSL := hid hst.out.sl
            have hle := hst.out.le
            rw [HCC.out, List.take_length] at hus
            obtain ⟨aw, cw, hvw, _, _⟩ := hus.at
            subst hvw
            have HUS := hid hus
            have HBD : Hid ((classesF m1 f).length ≤ 1000000 ∧ ∀ L ∈ classesF m1 f, L.length ≤ 1000000) := by
              unfold classesF
              refine ⟨by rw [List.length_map]; have := reps_len m1 f; omega, fun L hL => ?_⟩
              obtain ⟨i, _, rfl⟩ := List.mem_map.1 hL
              have := class_len m1 f i
              omega
            clear hst hus
            go_wp2_with fail
            refine (HO.out.classes wr p m1 f S HP.out.pa).mono ?_
            rintro e w8 ⟨v8, rfl, S8, a8, c8, rfl, hI8, hP8, hE8, hK8⟩
            have hb8 : Below b0 w w8 := HP.out.bel.trans (hK8.below (Nat.le_trans h00 HP.out.bel.size) (fun k _ e => HP.out.ge k e))
            have hus8 := HUS.out.kept hK8 (fun k hA _ e => by have := HSL.out k e; have hA' : s ≤ k := hA; omega)
            obtain ⟨aw', cw', hvw', _, hLw⟩ := hus8.at
            cases hvw'
            have CR := hid (sameRows_any a8 aw c8 cw (classesF m1 f) (classesF m1 f) true w8 HBD.out.1 HBD.out.2 hI8.at hLw ⟨fun _ => rfl, fun _ => rfl⟩)
            have HB8 := hid hb8
            clear hI8 hP8 hE8 hK8 hus8 hLw hb8 HUS HBD
            go_wp2_with fail
            refine CR.out.mono ?_
            rintro e w9 ⟨rfl, hb9⟩
            have HB9 : Hid (Below b0 w w9) := HB8.out.trans (hb9.mono (Nat.le_trans h00 HB8.out.size))
            clear hb9 CR
            go_wp2
            go_ret
            exact ⟨rfl, by rw [← HB0.out]; exact HB9.out⟩
end Go.Proofs.Ythakjmfjbibbjaa
