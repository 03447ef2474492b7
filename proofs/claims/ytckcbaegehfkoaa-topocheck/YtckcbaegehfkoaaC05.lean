/-
  The document's Sorted, walked.
  The document's Has, In: are two vertices neighbours; does a number stand in a row?
-/
import Derived.Test.YtckcbaegehfkoaaC04
import Derived.Laws.CopyOwn
import Derived.Test.YtckcbaegehfkoaaC02
namespace Go.Proofs.Ytckcbaegehfkoaa
open Go.RowKit Go.Lib

theorem own_emptyI {w : World} (o : Obj) (ho : o = .cells #[] 3 (0, 0)) : (w.alloc o).ownsRow w.heap.size 3 1 (.slice (some ⟨w.heap.size, 0, none⟩) 0 0) 0 [] := by
  subst ho
  exact ⟨rfl, Or.inr ⟨w.heap.size, 0, #[], rfl, Nat.le_refl _, heap_alloc_new _ _, Nat.le_refl _, Nat.zero_le _, rfl, rfl⟩⟩
theorem own_form {w : World} {base : Nat} {e : TypeId} {v : Value} {xs : List Int} (h : w.ownsRow base e 1 v xs.length (xs.map (Value.int .i64))) : ∃ a cap, v = .slice a xs.length cap ∧ IAt w a xs := iat_own h
theorem up_at {xs : List Int} (h : Up xs) {i j : Nat} (hij : i ≤ j) (hj : j < xs.length) : xs[i]'(by omega) ≤ xs[j] := by
  by_cases e : i = j
  · subst e; exact Int.le_refl _
  · exact List.pairwise_iff_getElem.1 h i j (by omega) hj (by omega)

theorem cells_one {w : World} {b : Nat} {x : Value} {T : TypeId} {fr : Nat × Nat} (h : w.heap[b]? = some (.cells #[x] T fr)) : ∀ j v, [x][j]? = some v → w.cell? ((⟨b, 0, none⟩ : Addr).add j) = some v := by
  intro j v hj
  rw [add_at, Nat.zero_add, cell_of_heap h]
  simpa using hj
/-- The cells behind the copy and the store. -/
theorem spl_list {acc : List Int} {x : Int} {m : Nat} {cur : List Value} (hm : m ≤ acc.length) (hl : acc.length + 1 ≤ cur.length) (hc : cur.take (acc.length + 1) = (acc ++ [0]).map (Value.int .i64)) :
    ((splice cur (m + 1) ((acc.drop m).map (Value.int .i64))).set m (.int .i64 x)).take (acc.length + 1) = (acc.take m ++ x :: acc.drop m).map (Value.int .i64) := by
  have hcj : ∀ j (h : j < acc.length), cur[j]? = some (.int .i64 acc[j]) := fun j h => by
    have h1 : (cur.take (acc.length + 1))[j]? = some (.int .i64 acc[j]) := by
      rw [hc, List.getElem?_map, List.getElem?_append_left h, List.getElem?_eq_getElem h]; rfl
    rwa [List.getElem?_take_of_lt (by omega)] at h1
  apply List.ext_getElem?
  intro j
  by_cases hj : j < acc.length + 1
  · rw [List.getElem?_take_of_lt hj, List.getElem?_map]
    unfold splice
    rcases Nat.lt_trichotomy j m with h | h | h
    · rw [List.getElem?_set_ne (by omega), List.getElem?_append_left (by rw [List.length_take]; omega), List.getElem?_take_of_lt (by omega), hcj j (by omega), List.getElem?_append_left (by rw [List.length_take]; omega), List.getElem?_take_of_lt h, List.getElem?_eq_getElem (by omega)]
      rfl
    · subst h
      rw [List.getElem?_set_self (by simp [List.length_append, List.length_take]; omega), List.getElem?_append_right (by rw [List.length_take]; omega)]
      simp [List.length_take, Nat.min_eq_left hm]
    · rw [List.getElem?_set_ne (by omega), List.getElem?_append_right (by rw [List.length_take]; omega), List.getElem?_append_left (by simp [List.length_take]; omega), List.getElem?_map, List.getElem?_append_right (by rw [List.length_take]; omega)]
      have e : j - (List.take m acc).length = (j - (List.take (m + 1) cur).length) + 1 := by rw [List.length_take, List.length_take]; omega
      rw [e, List.getElem?_cons_succ]
  · rw [List.getElem?_take_eq_none (by omega), List.getElem?_eq_none (by simp [List.length_take]; omega)]

set_option maxHeartbeats 4000000 in
set_option maxRecDepth 1000000 in
theorem sorted_any (a : Option Addr) (cap : Nat) (xs : List Int) (w : World) (hN : xs.length ≤ 1000000) (h : IAt w a xs) :
    Calls Try.prog 29 #[.slice a xs.length cap] w fun e w' => ∃ v, e = .returned v ∧ w'.ownsRow w.heap.size 3 1 v (srt [] xs).length ((srt [] xs).map (Value.int .i64)) ∧ Below w.heap.size w w' := by
  obtain ⟨i0, hi, hz0, hz1, hz2⟩ := info_parts Try.info3
  have HI : Hid (IAt w a xs) := h
  obtain ⟨N, hNe⟩ := ex_eq xs.length
  have HN : Hid (N = xs.length) := hNe
  rw [← hNe] at hN ⊢
  clear h hNe
  have HOE : Hid ((w.alloc (.cells #[] 3)).ownsRow w.heap.size 3 1 (.slice (some ⟨w.heap.size, 0, none⟩) 0 0) 0 []) := own_emptyI _ rfl
  have hbE : Below w.heap.size w (w.alloc (.cells #[] 3)) := (Below.refl _ _).alloc (Nat.le_refl _) _
  go_enter Try.func29, Try.ntmps29
  go_wp2
  go_loopg [3, 4] N (fun G v i wr => ∃ k : Nat, k ≤ N ∧ N - k ≤ G ∧ i = .int .i64 k ∧ Hid (wr.ownsRow w.heap.size 3 1 v (srt [] (xs.take k)).length ((srt [] (xs.take k)).map (Value.int .i64))) ∧ Below w.heap.size w wr)
  case atStart => exact ⟨0, Nat.zero_le _, by omega, rfl, HOE, hbE⟩
  case round =>
    obtain ⟨k, hk, hG, rfl, hown, hbr⟩ := hrel
    by_cases hlt : k < N
    · have hkr : k < xs.length := by rw [← HN.out]; exact hlt
      obtain ⟨gl, ol, rfl, hgl, hcl⟩ := HI.out (by omega)
      have dx := (hbr.cell (p := ⟨gl, ol + k, none⟩) hgl).trans (hcl k hkr)
      obtain ⟨x, hx⟩ := ex_eq xs[k]
      rw [← hx] at dx
      have HX : Hid (srt [] (xs.take (k + 1)) = ins x (srt [] (xs.take k))) := by
        show _ = _
        rw [List.take_succ_eq_append_getElem hkr, srt_snoc, hx]
      obtain ⟨acc, hacc⟩ := ex_eq (srt [] (xs.take k))
      have HUP : Hid (Up acc) := by
        show Up acc
        rw [hacc]; exact srt_up (by unfold Up; simp)
      rw [← hacc] at hown HX
      have hlen : acc.length = k := by rw [hacc, srt_len, List.length_take]; simp; omega
      obtain ⟨ao, co, hv, hIa⟩ := own_form hown.out
      rw [hlen] at hv
      have HIA : Hid (IAt wr ao acc) := hIa
      have HOW : Hid (wr.ownsRow w.heap.size 3 1 u3 acc.length (acc.map (Value.int .i64))) := hown
      subst hv
      have HL : Hid (acc.length = k) := hlen
      have q1 : (k : Int) < (N : Int) := by omega
      clear hown hIa hacc hx hcl hlen
      go_wp2
      obtain ⟨W, hW⟩ := ex_eq wr
      subst hW
      go_loopg [5] k (fun G2 at5 wz => ∃ m : Nat, m ≤ k ∧ m ≤ G2 ∧ at5 = .int .i64 m ∧ Hid (∀ j (h : j < acc.length), m ≤ j → x < acc[j]) ∧ ∃ q, wz = W.drewN q)
      case atStart => exact ⟨k, Nat.le_refl _, Nat.le_refl _, rfl, fun j h hj => absurd h (by rw [HL.out]; omega), 0, rfl⟩
      case round =>
        obtain ⟨m, hm, hm2, rfl, hgt, q, hw⟩ := hrel
        subst hw
        have HOWD : Hid ((W.drewN q).drew.ownsRow w.heap.size 3 1 (.slice ao k co) acc.length (acc.map (Value.int .i64))) := HOW.out
        have HOI : Hid (∀ m', m' = m → (∀ j (h : j < acc.length), j < m' → acc[j] ≤ x) → ins x acc = acc.take m' ++ x :: acc.drop m') := fun m' e h => by
          subst e
          exact ins_at (by rw [HL.out]; omega) h hgt.out
        rcases Nat.eq_zero_or_pos m with hm0 | hm0
        · have HIX : Hid (ins x acc = acc.take m ++ x :: acc.drop m) := HOI.out m rfl (fun j _ h => absurd h (by omega))
          have hd : decide ((0 : Int) < (m : Int)) = false := decide_eq_false (by omega)
          have hd2 : ¬ (0 : Int) < (m : Int) := by omega
          have hd3 : decide (0 < m) = false := decide_eq_false (by omega)
          clear HOI hm0
          go_wp2
          go_quiet (fail)
          go_wp2_with (at_builtin; refine wpList_append_own _ rfl _ _ 25 rfl w.heap.size 3 i0 _ 1 8 Try.underlying25 hi hz0 hz1 hz2 rfl (by decide) _ _ _ rfl ((show (W.drewN _).ownsRow w.heap.size 3 1 (.slice ao k co) acc.length (acc.map (Value.int .i64)) from HOW.out).alloc _) _ 1 1 [.int .i64 0] rfl rfl ?c1 ?c2 ?c3 ?c4 ?c5 ?_)
          case c1 => exact cells_one (heap_alloc_new _ _)
          case c2 => intro u hu; simp at hu; subst hu; rfl
          case c3 => rw [HL.out]; unfold maxLen; omega
          case c4 => rw [HL.out]; omega
          case c5 => have := hbr.size; simp; omega
          intro v' w4 hown4 hgrow _
          have hb4 : Below w.heap.size w w4 := Below.grown ((below_drewN hbr _).alloc hbr.size _) hgrow (by have := hbr.size; simp; omega) (fun j hj => (HOW.out.lt j hj).1)
          have HT : Hid (∃ (g cap4 : Nat) (cur : List Value), v' = .slice (some ⟨g, 0, none⟩) (k + 1) cap4 ∧ w.heap.size ≤ g ∧ k + 1 ≤ cap4 ∧ cap4 ≤ maxLen ∧ w4.heap[g]? = some (.cells cur.toArray 3 (0, 0)) ∧ cur.length = cap4 ∧ cur.take (acc.length + 1) = (acc ++ [0]).map (Value.int .i64)) := by
            rcases hown4.2 with ⟨_, h0⟩ | ⟨g, cap4, cur, hv, hge, hg, hc1, hc2, hsz, htk⟩
            · omega
            · refine ⟨g, cap4, cur.toList, by rw [hv, HL.out], hge, by rw [← HL.out]; exact hc1, hc2, by simpa using hg, by simpa using hsz, ?_⟩
              rw [Nat.mul_one] at htk
              rw [htk]; simp
          clear hown4 hgrow
          obtain ⟨g, cap4, cur, rfl, hge, hc1, hc2, hg4, hcl, htk⟩ := HT.out
          have HTK : Hid (cur.take (acc.length + 1) = (acc ++ [0]).map (Value.int .i64)) := htk
          have HG4 : Hid (w4.heap[g]? = some (.cells cur.toArray 3 (0, 0))) := hg4
          clear htk hg4 HT
          have q4 : (k : Int) + 1 ≤ (cap4 : Int) := by omega
          obtain ⟨cs, hcs⟩ := ex_eq ((acc.drop m).map (Value.int .i64))
          have HCS : Hid (cs = (acc.drop m).map (Value.int .i64)) := hcs
          have hcsl : cs.length = k - m := by rw [hcs, List.length_map, List.length_drop, HL.out]
          have HSRC : Hid (∀ j v, cs[j]? = some v → w4.cell? ((⟨g, m, none⟩ : Addr).add j) = some v) := fun j v hj => by
            have hjl : j < cs.length := (List.getElem?_eq_some_iff.1 hj).1
            rw [add_at, cell_of_heap HG4.out]
            rw [HCS.out, List.getElem?_map, List.getElem?_drop] at hj
            have h2 : (cur.take (acc.length + 1))[m + j]? = some v := by
              rw [HTK.out, List.getElem?_map, List.getElem?_append_left (by rw [HL.out]; omega)]; exact hj
            rw [List.getElem?_take_of_lt (by rw [HL.out]; omega)] at h2
            simpa using h2
          have HONE : Hid (∀ v ∈ cs, v.oneCell' = true) := fun v hv => by
            rw [HCS.out] at hv
            simp only [List.mem_map] at hv
            obtain ⟨z, _, rfl⟩ := hv
            rfl
          clear hcs
          have j1 : (0 : Int) ≤ (m : Int) + 1 := by omega
          have j2 : (m : Int) + 1 ≤ (k : Int) + 1 := by omega
          have j3 : (0 : Int) ≤ (m : Int) := by omega
          have j4 : (m : Int) ≤ (k : Int) + 1 := by omega
          have j5 : IntKind.i64.wrap ((m : Int) + 1) = (m : Int) + 1 := by rw [IntKind.wrap_i64]; omega
          have j6 : (k : Int) + 1 ≤ (cap4 : Int) := by omega
          have j7 : (m : Int) ≤ (cap4 : Int) := by omega
          have HSZ : Hid ((Try.prog.info? 3).map (·.size) = some 1) := by
            show (Try.prog.info? 3).map (·.size) = some 1
            rw [hi]; simp [hz1]
          have HNN : Hid (cs.length = Nat.min (k + 1 - m) (k - m)) := by
            show cs.length = Nat.min (k + 1 - m) (k - m)
            rw [hcsl]; exact (Nat.min_eq_right (by omega)).symm
          have HGD : Hid (w4.drew.heap[g]? = some (.cells cur.toArray 3 (0, 0))) := HG4.out
          obtain ⟨AA, hAA⟩ : ∃ AA : Option Addr, (if cap4 = m + 1 then some ⟨g, 0, none⟩ else some ⟨g, m + 1, none⟩) = AA := ⟨_, rfl⟩
          have HPOS : Hid (0 < cs.length → AA = some ⟨g, m + 1, none⟩ ∧ ∃ ad, (some ⟨g, m, none⟩ : Option Addr) = some ad ∧ ∀ j v, cs[j]? = some v → w4.drew.cell? (ad.add j) = some v) := fun h0 => ⟨by rw [← hAA]; exact if_neg (by omega), _, rfl, HSRC.out⟩
          have HFIT : Hid (m + 1 + cs.length ≤ cur.length) := by
            show m + 1 + cs.length ≤ cur.length
            omega
          have HBD : Hid (Below w.heap.size w w4.drew) := hb4.drew
          go_wp2_with fail
          go_region_law (refine step_copy_splice rfl (.tmp 37) (.tmp 40) 25 25 rfl 3 Try.underlying25 HSZ.out AA (some ⟨g, m, none⟩) (k - m) (cap4 - (m + 1)) (k + 1 - m) (cap4 - m) (by simp [Act.eval, Act.put]) (by simp [Act.eval, Act.put]) g (m + 1) cur 3 HGD.out cs HNN.out HPOS.out HFIT.out HONE.out w.heap.size w HBD.out hge ?_; intro w5 HG5 hB5)
          have HC5 := cell_of_heap HG5.out m
          have hC5 : ∃ u, w5.cell? ⟨g, m, none⟩ = some u := by
            have hl5 := length_splice cur (m + 1) cs (by omega)
            rw [HC5]
            exact ⟨_, Array.getElem?_eq_getElem (by simp [hl5]; omega)⟩
          obtain ⟨u, hu⟩ := hC5
          have hf5 := frozen_of_heap HG5.out m
          have dx5 := (hB5.cell (p := ⟨gl, ol + k, none⟩) hgl).trans ((hbr.cell (p := ⟨gl, ol + k, none⟩) hgl).symm.trans dx)
          have HRES : Hid ((w5.setCell ⟨g, m, none⟩ (.int .i64 x)).ownsRow w.heap.size 3 1 (.slice (some ⟨g, 0, none⟩) (k + 1) cap4) (srt [] (xs.take (k + 1))).length ((srt [] (xs.take (k + 1))).map (Value.int .i64))) := by
            have hl5 := length_splice cur (m + 1) cs (by omega)
            have hh := heap_setCell_same w5 g m _ _ (.int .i64 x) HG5.out
            have hlen1 : (srt [] (xs.take (k + 1))).length = k + 1 := by rw [HX.out, ins_len, HL.out]
            refine ⟨by simp, Or.inr ⟨g, cap4, _, by rw [hlen1], hge, hh, by rw [hlen1]; exact hc1, hc2, by simp [hl5, hcl], ?_⟩⟩
            rw [hlen1, Nat.mul_one, HX.out, HIX.out, ← HL.out]
            have := spl_list (x := x) (m := m) (cur := cur) (by rw [HL.out]; omega) (by rw [HL.out]; omega) HTK.out
            rw [← this, HCS.out]
            simp
          have hb6 : Below w.heap.size w (w5.setCell ⟨g, m, none⟩ (.int .i64 x)) := hB5.setCell (p := ⟨g, m, none⟩) hge _
          clear HC5 HG4 HG5 HTK HCS HSRC HONE
          go_wp2
          go_roundg (N - (k + 1))
          case measure => omega
          case rel => exact ⟨k + 1, by omega, Nat.le_refl _, by go_num, HRES, hb6⟩
        · obtain ⟨p, rfl⟩ : ∃ p, m = p + 1 := ⟨m - 1, by omega⟩
          have hpr : p < acc.length := by rw [HL.out]; omega
          obtain ⟨ga, oa, rfl, hga, hca⟩ := HIA.out (by omega)
          have dp := hca p hpr
          obtain ⟨y, hy⟩ := ex_eq acc[p]
          rw [← hy] at dp
          have HY : Hid (y = acc[p]) := hy
          have q2 : (p : Int) < (k : Int) := by omega
          clear hca hy
          by_cases hyx : x < y
          · have HG2 : Hid (∀ j (h : j < acc.length), p ≤ j → x < acc[j]) := fun j h hj => by
              by_cases e : j = p
              · subst e; rw [← HY.out]; exact hyx
              · exact hgt.out j h (by omega)
            clear HOI
            go_wp2
            go_quiet (fail)
            go_wp2
            go_roundg p
            case measure => omega
            case rel => exact ⟨p, by omega, Nat.le_refl _, by go_num, HG2, _, rfl⟩
          · have HIX : Hid (ins x acc = acc.take (p + 1) ++ x :: acc.drop (p + 1)) := HOI.out (p + 1) rfl (fun j h hj => by
              have := up_at HUP.out (i := j) (j := p) (by omega) hpr
              rw [← HY.out] at this
              omega)
            have hyx2 : y ≤ x := by omega
            clear HOI
            go_wp2
            go_quiet (fail)
            go_wp2_with (at_builtin; refine wpList_append_own _ rfl _ _ 25 rfl w.heap.size 3 i0 _ 1 8 Try.underlying25 hi hz0 hz1 hz2 rfl (by decide) _ _ _ rfl ((show (W.drewN _).ownsRow w.heap.size 3 1 (.slice (some ⟨ga, oa, none⟩) k co) acc.length (acc.map (Value.int .i64)) from HOW.out).alloc _) _ 1 1 [.int .i64 0] rfl rfl ?c1 ?c2 ?c3 ?c4 ?c5 ?_)
            case c1 => exact cells_one (heap_alloc_new _ _)
            case c2 => intro u hu; simp at hu; subst hu; rfl
            case c3 => rw [HL.out]; unfold maxLen; omega
            case c4 => rw [HL.out]; omega
            case c5 => have := hbr.size; simp; omega
            intro v' w4 hown4 hgrow _
            have hb4 : Below w.heap.size w w4 := Below.grown ((below_drewN hbr _).alloc hbr.size _) hgrow (by have := hbr.size; simp; omega) (fun j hj => (HOW.out.lt j hj).1)
            have HT : Hid (∃ (g cap4 : Nat) (cur : List Value), v' = .slice (some ⟨g, 0, none⟩) (k + 1) cap4 ∧ w.heap.size ≤ g ∧ k + 1 ≤ cap4 ∧ cap4 ≤ maxLen ∧ w4.heap[g]? = some (.cells cur.toArray 3 (0, 0)) ∧ cur.length = cap4 ∧ cur.take (acc.length + 1) = (acc ++ [0]).map (Value.int .i64)) := by
              rcases hown4.2 with ⟨_, h0⟩ | ⟨g, cap4, cur, hv, hge, hg, hc1, hc2, hsz, htk⟩
              · omega
              · refine ⟨g, cap4, cur.toList, by rw [hv, HL.out], hge, by rw [← HL.out]; exact hc1, hc2, by simpa using hg, by simpa using hsz, ?_⟩
                rw [Nat.mul_one] at htk
                rw [htk]; simp
            clear hown4 hgrow
            obtain ⟨g, cap4, cur, rfl, hge, hc1, hc2, hg4, hcl, htk⟩ := HT.out
            have HTK : Hid (cur.take (acc.length + 1) = (acc ++ [0]).map (Value.int .i64)) := htk
            have HG4 : Hid (w4.heap[g]? = some (.cells cur.toArray 3 (0, 0))) := hg4
            clear htk hg4 HT
            have q4 : (k : Int) + 1 ≤ (cap4 : Int) := by omega
            obtain ⟨cs, hcs⟩ := ex_eq ((acc.drop (p + 1)).map (Value.int .i64))
            have HCS : Hid (cs = (acc.drop (p + 1)).map (Value.int .i64)) := hcs
            have hcsl : cs.length = k - (p + 1) := by rw [hcs, List.length_map, List.length_drop, HL.out]
            have HSRC : Hid (∀ j v, cs[j]? = some v → w4.cell? ((⟨g, (p + 1), none⟩ : Addr).add j) = some v) := fun j v hj => by
              have hjl : j < cs.length := (List.getElem?_eq_some_iff.1 hj).1
              rw [add_at, cell_of_heap HG4.out]
              rw [HCS.out, List.getElem?_map, List.getElem?_drop] at hj
              have h2 : (cur.take (acc.length + 1))[(p + 1) + j]? = some v := by
                rw [HTK.out, List.getElem?_map, List.getElem?_append_left (by rw [HL.out]; omega)]; exact hj
              rw [List.getElem?_take_of_lt (by rw [HL.out]; omega)] at h2
              simpa using h2
            have HONE : Hid (∀ v ∈ cs, v.oneCell' = true) := fun v hv => by
              rw [HCS.out] at hv
              simp only [List.mem_map] at hv
              obtain ⟨z, _, rfl⟩ := hv
              rfl
            clear hcs
            have j1 : (0 : Int) ≤ ((p : Int) + 1) + 1 := by omega
            have j2 : ((p : Int) + 1) + 1 ≤ (k : Int) + 1 := by omega
            have j3 : (0 : Int) ≤ ((p : Int) + 1) := by omega
            have j4 : ((p : Int) + 1) ≤ (k : Int) + 1 := by omega
            have j5 : IntKind.i64.wrap (((p : Int) + 1) + 1) = ((p : Int) + 1) + 1 := by rw [IntKind.wrap_i64]; omega
            have j8 : ((p : Int) + 1 + 1).toNat = p + 1 + 1 := by omega
            have j9 : ((p : Int) + 1).toNat = p + 1 := by omega
            have j10 : ¬ cap4 = p + 1 := by omega
            have j6 : (k : Int) + 1 ≤ (cap4 : Int) := by omega
            have j7 : ((p : Int) + 1) ≤ (cap4 : Int) := by omega
            have HSZ : Hid ((Try.prog.info? 3).map (·.size) = some 1) := by
              show (Try.prog.info? 3).map (·.size) = some 1
              rw [hi]; simp [hz1]
            have HNN : Hid (cs.length = Nat.min (k + 1 - (p + 1)) (k - (p + 1))) := by
              show cs.length = Nat.min (k + 1 - (p + 1)) (k - (p + 1))
              rw [hcsl]; exact (Nat.min_eq_right (by omega)).symm
            have HGD : Hid (w4.drew.heap[g]? = some (.cells cur.toArray 3 (0, 0))) := HG4.out
            obtain ⟨AA, hAA⟩ : ∃ AA : Option Addr, (if cap4 = (p + 1) + 1 then some ⟨g, 0, none⟩ else some ⟨g, (p + 1) + 1, none⟩) = AA := ⟨_, rfl⟩
            have HPOS : Hid (0 < cs.length → AA = some ⟨g, (p + 1) + 1, none⟩ ∧ ∃ ad, (some ⟨g, (p + 1), none⟩ : Option Addr) = some ad ∧ ∀ j v, cs[j]? = some v → w4.drew.cell? (ad.add j) = some v) := fun h0 => ⟨by rw [← hAA]; exact if_neg (by omega), _, rfl, HSRC.out⟩
            have HFIT : Hid ((p + 1) + 1 + cs.length ≤ cur.length) := by
              show (p + 1) + 1 + cs.length ≤ cur.length
              omega
            have HBD : Hid (Below w.heap.size w w4.drew) := hb4.drew
            go_wp2_with fail
            go_region_law (refine step_copy_splice rfl (.tmp 37) (.tmp 40) 25 25 rfl 3 Try.underlying25 HSZ.out AA (some ⟨g, (p + 1), none⟩) (k - (p + 1)) (cap4 - ((p + 1) + 1)) (k + 1 - (p + 1)) (cap4 - (p + 1)) (by simp [Act.eval, Act.put]) (by simp [Act.eval, Act.put]) g ((p + 1) + 1) cur 3 HGD.out cs HNN.out HPOS.out HFIT.out HONE.out w.heap.size w HBD.out hge ?_; intro w5 HG5 hB5)
            have HC5 := cell_of_heap HG5.out (p + 1)
            have hC5 : ∃ u, w5.cell? ⟨g, (p + 1), none⟩ = some u := by
              have hl5 := length_splice cur ((p + 1) + 1) cs (by omega)
              rw [HC5]
              exact ⟨_, Array.getElem?_eq_getElem (by simp [hl5]; omega)⟩
            obtain ⟨u, hu⟩ := hC5
            have hf5 := frozen_of_heap HG5.out (p + 1)
            have dx5 := (hB5.cell (p := ⟨gl, ol + k, none⟩) hgl).trans ((hbr.cell (p := ⟨gl, ol + k, none⟩) hgl).symm.trans dx)
            have HRES : Hid ((w5.setCell ⟨g, (p + 1), none⟩ (.int .i64 x)).ownsRow w.heap.size 3 1 (.slice (some ⟨g, 0, none⟩) (k + 1) cap4) (srt [] (xs.take (k + 1))).length ((srt [] (xs.take (k + 1))).map (Value.int .i64))) := by
              have hl5 := length_splice cur ((p + 1) + 1) cs (by omega)
              have hh := heap_setCell_same w5 g (p + 1) _ _ (.int .i64 x) HG5.out
              have hlen1 : (srt [] (xs.take (k + 1))).length = k + 1 := by rw [HX.out, ins_len, HL.out]
              refine ⟨by simp, Or.inr ⟨g, cap4, _, by rw [hlen1], hge, hh, by rw [hlen1]; exact hc1, hc2, by simp [hl5, hcl], ?_⟩⟩
              rw [hlen1, Nat.mul_one, HX.out, HIX.out, ← HL.out]
              have := spl_list (x := x) (m := (p + 1)) (cur := cur) (by rw [HL.out]; omega) (by rw [HL.out]; omega) HTK.out
              rw [← this, HCS.out]
              simp
            have hb6 : Below w.heap.size w (w5.setCell ⟨g, (p + 1), none⟩ (.int .i64 x)) := hB5.setCell (p := ⟨g, (p + 1), none⟩) hge _
            clear HC5 HG4 HG5 HTK HCS HSRC HONE
            go_wp2
            go_roundg (N - (k + 1))
            case measure => omega
            case rel => exact ⟨k + 1, by omega, Nat.le_refl _, by go_num, HRES, hb6⟩
    · obtain rfl : k = N := by omega
      rw [HN.out, List.take_length] at hown
      go_wp2
      go_ret
      exact ⟨_, rfl, hown.out, hbr⟩
end Go.Proofs.Ytckcbaegehfkoaa
namespace Go.Proofs.Ytckcbaegehfkoaa
open Go.RowKit Go.Lib

def HasE (es : List (Int × Int)) (x y : Int) (k : Nat) : Prop := ∃ j, ∃ h : j < es.length, j < k ∧ ((es[j].1 = x ∧ es[j].2 = y) ∨ (es[j].1 = y ∧ es[j].2 = x))
theorem hasE_all {es : List (Int × Int)} {x y : Int} : HasE es x y es.length ↔ (x, y) ∈ es ∨ (y, x) ∈ es := by
  constructor
  · rintro ⟨j, h, _, ⟨h1, h2⟩ | ⟨h1, h2⟩⟩
    · left; rw [← h1, ← h2]; exact List.getElem_mem _
    · right; rw [← h1, ← h2]; exact List.getElem_mem _
  · rintro (h | h)
    · obtain ⟨j, hj, e⟩ := List.getElem_of_mem h
      exact ⟨j, hj, hj, Or.inl (by rw [e]; exact ⟨rfl, rfl⟩)⟩
    · obtain ⟨j, hj, e⟩ := List.getElem_of_mem h
      exact ⟨j, hj, hj, Or.inr (by rw [e]; exact ⟨rfl, rfl⟩)⟩

set_option maxHeartbeats 2000000 in
set_option maxRecDepth 100000 in
theorem rhas_any (n : Int) (a : Option Addr) (cap : Nat) (es : List (Int × Int)) (x y : Int) (b r : Bool) (w : World) (hN : es.length ≤ 1000000) (hE : EAt w a es) (hb : b = true ↔ RightG n es) (hr : r = true ↔ (RightG n es ∧ ((x, y) ∈ es ∨ (y, x) ∈ es))) :
    Calls Try.prog 75 #[.agg #[.int .i64 n, .slice a es.length cap], .int .i64 x, .int .i64 y] w fun e w' => e = .returned (.bool r) ∧ Below w.heap.size w w' := by
  obtain ⟨N, hNe⟩ : ∃ N, N = es.length := ⟨_, rfl⟩
  have HRI : Hid (∀ W, EAt W a es → Calls Try.prog 45 #[.agg #[.int .i64 n, .slice a N cap]] W fun e w' => e = .returned (.bool b) ∧ Below W.heap.size W w') := fun W h => by rw [hNe]; exact rright_any n a cap es b W hN h hb
  rw [← hNe] at hN ⊢
  have HN : Hid (N = es.length) := hNe
  have HE : Hid (EAt w a es) := hE
  have HB : Hid (b = true ↔ RightG n es) := hb
  have HR : Hid (r = true ↔ (RightG n es ∧ ((x, y) ∈ es ∨ (y, x) ∈ es))) := hr
  clear hNe hE hb hr
  have hbA : Below w.heap.size w (w.alloc (.cells #[.int .i64 n, .slice a N cap] 30)) := (Below.refl _ _).alloc (Nat.le_refl _) _
  have HOA : Hid ((w.alloc (.cells #[.int .i64 n, .slice a N cap] 30)).heap[w.heap.size]? = some (.cells #[.int .i64 n, .slice a N cap] 30)) := heap_alloc_new _ _
  have hsA : (w.alloc (.cells #[.int .i64 n, .slice a N cap] 30)).heap.size = w.heap.size + 1 := by simp
  go_enter Try.func75, Try.ntmps75
  go_wp2_with fail
  refine (HRI.out _ (HE.out.below hbA)).mono ?_
  rintro e w1 ⟨rfl, hb1⟩
  rw [hsA] at hb1
  have hbw : Below w.heap.size w w1 := hbA.trans (hb1.mono (by omega))
  have o1 := (hb1.block w.heap.size (by omega)).trans HOA.out
  have HE1 : Hid (EAt w1 a es) := HE.out.below hbw
  have hs1 := hb1.size
  rw [hsA] at hs1
  have c1 : w1.cell? ⟨w.heap.size, 1, none⟩ = some (.slice a N cap) := cell_of_heap o1 1
  clear hb1 hbA hsA HRI HOA o1
  cases b with
  | false =>
    obtain rfl : r = false := b_false HR.out (fun h => absurd (HB.out.2 h.1) (by simp))
    clear HR HB
    go_wp2
    go_ret
    exact ⟨rfl, hbw⟩
  | true =>
    have HRG : Hid (RightG n es) := HB.out.1 rfl
    have HR2 : Hid (r = true ↔ HasE es x y es.length) := by
      show r = true ↔ _
      rw [HR.out, hasE_all]
      exact ⟨fun h => h.2, fun h => ⟨HRG.out, h⟩⟩
    clear HR HB
    go_wp2
    go_loopw [7] (fun i wr => ∃ k : Nat, k ≤ N ∧ i = .int .i64 k ∧ Hid (¬ HasE es x y k) ∧ wr = w1) (fun i _ => N - (RowKit.intOf i).toNat)
    case atStart => exact ⟨0, Nat.zero_le _, rfl, fun ⟨j, _, h, _⟩ => absurd h (by omega), rfl⟩
    case round =>
      obtain ⟨k, hk, rfl, hno, hw⟩ := hrel
      subst hw
      by_cases hlt : k < N
      · have hkr : k < es.length := by rw [← HN.out]; exact hlt
        obtain ⟨g, off, rfl, hg, hcs⟩ := HE1.out (by omega)
        obtain ⟨d0, d1⟩ := hcs k hkr
        obtain ⟨e1, he1⟩ := ex_eq es[k].1
        obtain ⟨e2, he2⟩ := ex_eq es[k].2
        rw [← he1] at d0
        rw [← he2] at d1
        have HES : Hid (e1 = es[k].1 ∧ e2 = es[k].2) := ⟨he1, he2⟩
        have q1 : (k : Int) < (N : Int) := by omega
        clear hcs he1 he2
        by_cases hy : (e1 = x ∧ e2 = y) ∨ (e1 = y ∧ e2 = x)
        · obtain rfl : r = true := HR2.out.2 ⟨k, hkr, hkr, by rw [← HES.out.1, ← HES.out.2]; exact hy⟩
          clear HR2
          go_wp2
          all_goals (first | (go_ret; exact ⟨rfl, hbw⟩) | skip)
          all_goals (exfalso; simp_all)
        · have HNX : Hid (¬ HasE es x y (k + 1)) := fun ⟨j, hj, hlt, h⟩ => by
            by_cases e : j < k
            · exact hno.out ⟨j, hj, e, h⟩
            · obtain rfl : j = k := by omega
              rw [← HES.out.1, ← HES.out.2] at h
              exact hy h
          have hyb : ((e1 == x && e2 == y) || (e1 == y && e2 == x)) = false := by
            rw [Bool.eq_false_iff]
            intro h
            simp only [Bool.or_eq_true, Bool.and_eq_true, beq_iff_eq] at h
            exact hy h
          cases h1 : (e1 == x) <;> cases h2 : (e2 == y) <;> cases h3 : (e1 == y) <;> cases h4 : (e2 == x)
          all_goals rw [h1, h2, h3, h4] at hyb
          all_goals first | (simp at hyb; done) | skip
          all_goals
            clear hy hyb
            go_wp2
            go_roundw
            case rel => exact ⟨k + 1, by omega, by go_num, HNX, by first | rfl | trivial⟩
            case measure => simp [RowKit.intOf]; omega
      · obtain rfl : k = N := by omega
        obtain rfl : r = false := b_false HR2.out (fun h => hno.out (by rw [HN.out]; exact h))
        clear HR2
        go_wp2
        go_ret
        exact ⟨rfl, hbw⟩

set_option maxHeartbeats 1000000 in
theorem in_any (a : Option Addr) (cap : Nat) (xs : List Int) (x : Int) (w : World) (hN : xs.length ≤ 1000000) (h : IAt w a xs) :
    Calls Try.prog 61 #[.slice a xs.length cap, .int .i64 x] w fun e w' => e = .returned (.bool (decide (x ∈ xs))) ∧ w' = w := by
  have H1 : Hid (IAt w a xs) := h
  obtain ⟨r, hr⟩ := ex_eq (decide (x ∈ xs))
  have HR : Hid (r = true ↔ x ∈ xs) := by
    show r = true ↔ x ∈ xs
    rw [hr, decide_eq_true_eq]
  rw [← hr]
  obtain ⟨N, hNe⟩ := ex_eq xs.length
  have HN : Hid (N = xs.length) := hNe
  rw [← hNe] at hN ⊢
  clear h hr hNe
  go_enter Try.func61, Try.ntmps61
  go_wp2
  go_loopw [5] (fun i wr => ∃ k : Nat, k ≤ N ∧ i = .int .i64 k ∧ Hid (x ∉ xs.take k) ∧ wr = w) (fun i _ => N - (RowKit.intOf i).toNat)
  case atStart => exact ⟨0, Nat.zero_le _, rfl, (by simp : x ∉ xs.take 0), rfl⟩
  case round =>
    obtain ⟨k, hk, rfl, hno, hw⟩ := hrel
    subst hw
    by_cases hlt : k < N
    · have hkr : k < xs.length := by rw [← HN.out]; exact hlt
      obtain ⟨g, off, rfl, hg, hc⟩ := H1.out (by omega)
      have d := hc k hkr
      obtain ⟨y, hy⟩ := ex_eq xs[k]
      rw [← hy] at d
      have HY : Hid (y = xs[k]) := hy
      have q1 : (k : Int) < (N : Int) := by omega
      clear hc hy
      by_cases hyx : y = x
      · obtain rfl : r = true := HR.out.2 (by rw [← hyx, HY.out]; exact List.getElem_mem _)
        subst hyx
        clear HR
        go_wp2
        go_ret
        exact ⟨rfl, rfl⟩
      · have hq : (y == x) = false := beq_eq_false_iff_ne.2 hyx
        have HNX : Hid (x ∉ xs.take (k + 1)) := by
          show x ∉ xs.take (k + 1)
          rw [List.take_succ_eq_append_getElem hkr, List.mem_append]
          rintro (h | h)
          · exact hno.out h
          · simp at h; exact hyx (by rw [HY.out]; exact h.symm)
        clear hyx
        go_wp2
        go_roundw
        case rel => exact ⟨k + 1, by omega, by go_num, HNX, by first | rfl | trivial⟩
        case measure => simp [RowKit.intOf]; omega
    · obtain rfl : k = N := by omega
      obtain rfl : r = false := b_false HR.out (fun h => hno.out (by rw [HN.out, List.take_length]; exact h))
      clear HR
      go_wp2
      go_ret
      exact ⟨rfl, rfl⟩
end Go.Proofs.Ytckcbaegehfkoaa
