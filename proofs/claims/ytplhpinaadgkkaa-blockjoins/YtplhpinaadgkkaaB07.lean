/-
  The document's Sorted, walked.
  The document's Near: the neighbours of a vertex.
  The document's Has, In: are two vertices neighbours; does a number stand in a row?
-/
import Derived.Test.YtplhpinaadgkkaaB06
import Derived.Laws.CopyOwn
import Derived.Test.YtplhpinaadgkkaaB05
namespace Go.Proofs.Ytplhpinaadgkkaa
open Go.RowKit Go.Lib

theorem own_emptyI {w : World} (o : Obj) (ho : o = .cells #[] 3 (0, 0)) : (w.alloc o).ownsRow w.heap.size 3 1 (.slice (some ⟨w.heap.size, 0, none⟩) 0 0) 0 [] := by
  subst ho
  exact ⟨rfl, Or.inr ⟨w.heap.size, 0, #[], rfl, Nat.le_refl _, heap_alloc_new _ _, Nat.le_refl _, Nat.zero_le _, rfl, rfl⟩⟩
theorem own_form {w : World} {base : Nat} {e : TypeId} {v : Value} {xs : List Int} (h : w.ownsRow base e 1 v xs.length (xs.map (Value.int .i64))) : ∃ a cap, v = .slice a xs.length cap ∧ IAt w a xs := iat_own h
theorem up_at {xs : List Int} (h : Up xs) {i j : Nat} (hij : i ≤ j) (hj : j < xs.length) : xs[i]'(by omega) ≤ xs[j] := by
  by_cases e : i = j
  · subst e; exact Int.le_refl _
  · exact List.pairwise_iff_getElem.1 h i j (by omega) hj (by omega)

theorem cells_one {w : World} {b : Nat} {x : Value} {T : TypeId} {fr : Nat × Nat} (h : w.heap[b]? = some (.cells #[x] T fr)) : ∀ j v, [x][j]? = some v → w.cell? ((⟨b, 0, none⟩ : Addr).add j) = some v := by
  intro j v hj
  rw [add_at, Nat.zero_add, cell_of_heap h]
  simpa using hj
/-- The cells behind the copy and the store. -/
theorem spl_list {acc : List Int} {x : Int} {m : Nat} {cur : List Value} (hm : m ≤ acc.length) (hl : acc.length + 1 ≤ cur.length) (hc : cur.take (acc.length + 1) = (acc ++ [0]).map (Value.int .i64)) :
    ((splice cur (m + 1) ((acc.drop m).map (Value.int .i64))).set m (.int .i64 x)).take (acc.length + 1) = (acc.take m ++ x :: acc.drop m).map (Value.int .i64) := by
  have hcj : ∀ j (h : j < acc.length), cur[j]? = some (.int .i64 acc[j]) := fun j h => by
    have h1 : (cur.take (acc.length + 1))[j]? = some (.int .i64 acc[j]) := by
      rw [hc, List.getElem?_map, List.getElem?_append_left h, List.getElem?_eq_getElem h]; rfl
    rwa [List.getElem?_take_of_lt (by omega)] at h1
  apply List.ext_getElem?
  intro j
  by_cases hj : j < acc.length + 1
  · rw [List.getElem?_take_of_lt hj, List.getElem?_map]
    unfold splice
    rcases Nat.lt_trichotomy j m with h | h | h
    · rw [List.getElem?_set_ne (by omega), List.getElem?_append_left (by rw [List.length_take]; omega), List.getElem?_take_of_lt (by omega), hcj j (by omega), List.getElem?_append_left (by rw [List.length_take]; omega), List.getElem?_take_of_lt h, List.getElem?_eq_getElem (by omega)]
      rfl
    · subst h
      rw [List.getElem?_set_self (by simp [List.length_append, List.length_take]; omega), List.getElem?_append_right (by rw [List.length_take]; omega)]
      simp [List.length_take, Nat.min_eq_left hm]
    · rw [List.getElem?_set_ne (by omega), List.getElem?_append_right (by rw [List.length_take]; omega), List.getElem?_append_left (by simp [List.length_take]; omega), List.getElem?_map, List.getElem?_append_right (by rw [List.length_take]; omega)]
      have e : j - (List.take m acc).length = (j - (List.take (m + 1) cur).length) + 1 := by rw [List.length_take, List.length_take]; omega
      rw [e, List.getElem?_cons_succ]
  · rw [List.getElem?_take_eq_none (by omega), List.getElem?_eq_none (by simp [List.length_take]; omega)]

set_option maxHeartbeats 4000000 in
set_option maxRecDepth 1000000 in
theorem sorted_any (a : Option Addr) (cap : Nat) (xs : List Int) (w : World) (hN : xs.length ≤ 1000000) (h : IAt w a xs) :
    Calls Try.prog 33 #[.slice a xs.length cap] w fun e w' => ∃ v, e = .returned v ∧ w'.ownsRow w.heap.size 3 1 v (srt [] xs).length ((srt [] xs).map (Value.int .i64)) ∧ Below w.heap.size w w' := by
  obtain ⟨i0, hi, hz0, hz1, hz2⟩ := info_parts Try.info3
  have HI : Hid (IAt w a xs) := h
  obtain ⟨N, hNe⟩ := ex_eq xs.length
  have HN : Hid (N = xs.length) := hNe
  rw [← hNe] at hN ⊢
  clear h hNe
  have HOE : Hid ((w.alloc (.cells #[] 3)).ownsRow w.heap.size 3 1 (.slice (some ⟨w.heap.size, 0, none⟩) 0 0) 0 []) := own_emptyI _ rfl
  have hbE : Below w.heap.size w (w.alloc (.cells #[] 3)) := (Below.refl _ _).alloc (Nat.le_refl _) _
  go_enter Try.func33, Try.ntmps33
  go_wp2
  go_loopg [3, 4] N (fun G v i wr => ∃ k : Nat, k ≤ N ∧ N - k ≤ G ∧ i = .int .i64 k ∧ Hid (wr.ownsRow w.heap.size 3 1 v (srt [] (xs.take k)).length ((srt [] (xs.take k)).map (Value.int .i64))) ∧ Below w.heap.size w wr)
  case atStart => exact ⟨0, Nat.zero_le _, by omega, rfl, HOE, hbE⟩
  case round =>
    obtain ⟨k, hk, hG, rfl, hown, hbr⟩ := hrel
    by_cases hlt : k < N
    · have hkr : k < xs.length := by rw [← HN.out]; exact hlt
      obtain ⟨gl, ol, rfl, hgl, hcl⟩ := HI.out (by omega)
      have dx := (hbr.cell (p := ⟨gl, ol + k, none⟩) hgl).trans (hcl k hkr)
      obtain ⟨x, hx⟩ := ex_eq xs[k]
      rw [← hx] at dx
      have HX : Hid (srt [] (xs.take (k + 1)) = ins x (srt [] (xs.take k))) := by
        show _ = _
        rw [List.take_succ_eq_append_getElem hkr, srt_snoc, hx]
      obtain ⟨acc, hacc⟩ := ex_eq (srt [] (xs.take k))
      have HUP : Hid (Up acc) := by
        show Up acc
        rw [hacc]; exact srt_up (by unfold Up; simp)
      rw [← hacc] at hown HX
      have hlen : acc.length = k := by rw [hacc, srt_len, List.length_take]; simp; omega
      obtain ⟨ao, co, hv, hIa⟩ := own_form hown.out
      rw [hlen] at hv
      have HIA : Hid (IAt wr ao acc) := hIa
      have HOW : Hid (wr.ownsRow w.heap.size 3 1 u3 acc.length (acc.map (Value.int .i64))) := hown
      subst hv
      have HL : Hid (acc.length = k) := hlen
      have q1 : (k : Int) < (N : Int) := by omega
      clear hown hIa hacc hx hcl hlen
      go_wp2
      obtain ⟨W, hW⟩ := ex_eq wr
      subst hW
      go_loopg [5] k (fun G2 at5 wz => ∃ m : Nat, m ≤ k ∧ m ≤ G2 ∧ at5 = .int .i64 m ∧ Hid (∀ j (h : j < acc.length), m ≤ j → x < acc[j]) ∧ ∃ q, wz = W.drewN q)
      case atStart => exact ⟨k, Nat.le_refl _, Nat.le_refl _, rfl, fun j h hj => absurd h (by rw [HL.out]; omega), 0, rfl⟩
      case round =>
        obtain ⟨m, hm, hm2, rfl, hgt, q, hw⟩ := hrel
        subst hw
        have HOWD : Hid ((W.drewN q).drew.ownsRow w.heap.size 3 1 (.slice ao k co) acc.length (acc.map (Value.int .i64))) := HOW.out
        have HOI : Hid (∀ m', m' = m → (∀ j (h : j < acc.length), j < m' → acc[j] ≤ x) → ins x acc = acc.take m' ++ x :: acc.drop m') := fun m' e h => by
          subst e
          exact ins_at (by rw [HL.out]; omega) h hgt.out
        rcases Nat.eq_zero_or_pos m with hm0 | hm0
        · have HIX : Hid (ins x acc = acc.take m ++ x :: acc.drop m) := HOI.out m rfl (fun j _ h => absurd h (by omega))
          have hd : decide ((0 : Int) < (m : Int)) = false := decide_eq_false (by omega)
          have hd2 : ¬ (0 : Int) < (m : Int) := by omega
          have hd3 : decide (0 < m) = false := decide_eq_false (by omega)
          clear HOI hm0
          go_wp2
          go_quiet (fail)
          go_wp2_with (at_builtin; refine wpList_append_own _ rfl _ _ 28 rfl w.heap.size 3 i0 _ 1 8 Try.underlying28 hi hz0 hz1 hz2 rfl (by decide) _ _ _ rfl ((show (W.drewN _).ownsRow w.heap.size 3 1 (.slice ao k co) acc.length (acc.map (Value.int .i64)) from HOW.out).alloc _) _ 1 1 [.int .i64 0] rfl rfl ?c1 ?c2 ?c3 ?c4 ?c5 ?_)
          case c1 => exact cells_one (heap_alloc_new _ _)
          case c2 => intro u hu; simp at hu; subst hu; rfl
          case c3 => rw [HL.out]; unfold maxLen; omega
          case c4 => rw [HL.out]; omega
          case c5 => have := hbr.size; simp; omega
          intro v' w4 hown4 hgrow _
          have hb4 : Below w.heap.size w w4 := Below.grown ((below_drewN hbr _).alloc hbr.size _) hgrow (by have := hbr.size; simp; omega) (fun j hj => (HOW.out.lt j hj).1)
          have HT : Hid (∃ (g cap4 : Nat) (cur : List Value), v' = .slice (some ⟨g, 0, none⟩) (k + 1) cap4 ∧ w.heap.size ≤ g ∧ k + 1 ≤ cap4 ∧ cap4 ≤ maxLen ∧ w4.heap[g]? = some (.cells cur.toArray 3 (0, 0)) ∧ cur.length = cap4 ∧ cur.take (acc.length + 1) = (acc ++ [0]).map (Value.int .i64)) := by
            rcases hown4.2 with ⟨_, h0⟩ | ⟨g, cap4, cur, hv, hge, hg, hc1, hc2, hsz, htk⟩
            · omega
            · refine ⟨g, cap4, cur.toList, by rw [hv, HL.out], hge, by rw [← HL.out]; exact hc1, hc2, by simpa using hg, by simpa using hsz, ?_⟩
              rw [Nat.mul_one] at htk
              rw [htk]; simp
          clear hown4 hgrow
          obtain ⟨g, cap4, cur, rfl, hge, hc1, hc2, hg4, hcl, htk⟩ := HT.out
          have HTK : Hid (cur.take (acc.length + 1) = (acc ++ [0]).map (Value.int .i64)) := htk
          have HG4 : Hid (w4.heap[g]? = some (.cells cur.toArray 3 (0, 0))) := hg4
          clear htk hg4 HT
          have q4 : (k : Int) + 1 ≤ (cap4 : Int) := by omega
          obtain ⟨cs, hcs⟩ := ex_eq ((acc.drop m).map (Value.int .i64))
          have HCS : Hid (cs = (acc.drop m).map (Value.int .i64)) := hcs
          have hcsl : cs.length = k - m := by rw [hcs, List.length_map, List.length_drop, HL.out]
          have HSRC : Hid (∀ j v, cs[j]? = some v → w4.cell? ((⟨g, m, none⟩ : Addr).add j) = some v) := fun j v hj => by
            have hjl : j < cs.length := (List.getElem?_eq_some_iff.1 hj).1
            rw [add_at, cell_of_heap HG4.out]
            rw [HCS.out, List.getElem?_map, List.getElem?_drop] at hj
            have h2 : (cur.take (acc.length + 1))[m + j]? = some v := by
              rw [HTK.out, List.getElem?_map, List.getElem?_append_left (by rw [HL.out]; omega)]; exact hj
            rw [List.getElem?_take_of_lt (by rw [HL.out]; omega)] at h2
            simpa using h2
          have HONE : Hid (∀ v ∈ cs, v.oneCell' = true) := fun v hv => by
            rw [HCS.out] at hv
            simp only [List.mem_map] at hv
            obtain ⟨z, _, rfl⟩ := hv
            rfl
          clear hcs
          have j1 : (0 : Int) ≤ (m : Int) + 1 := by omega
          have j2 : (m : Int) + 1 ≤ (k : Int) + 1 := by omega
          have j3 : (0 : Int) ≤ (m : Int) := by omega
          have j4 : (m : Int) ≤ (k : Int) + 1 := by omega
          have j5 : IntKind.i64.wrap ((m : Int) + 1) = (m : Int) + 1 := by rw [IntKind.wrap_i64]; omega
          have j6 : (k : Int) + 1 ≤ (cap4 : Int) := by omega
          have j7 : (m : Int) ≤ (cap4 : Int) := by omega
          have HSZ : Hid ((Try.prog.info? 3).map (·.size) = some 1) := by
            show (Try.prog.info? 3).map (·.size) = some 1
            rw [hi]; simp [hz1]
          have HNN : Hid (cs.length = Nat.min (k + 1 - m) (k - m)) := by
            show cs.length = Nat.min (k + 1 - m) (k - m)
            rw [hcsl]; exact (Nat.min_eq_right (by omega)).symm
          have HGD : Hid (w4.drew.heap[g]? = some (.cells cur.toArray 3 (0, 0))) := HG4.out
          obtain ⟨AA, hAA⟩ : ∃ AA : Option Addr, (if cap4 = m + 1 then some ⟨g, 0, none⟩ else some ⟨g, m + 1, none⟩) = AA := ⟨_, rfl⟩
          have HPOS : Hid (0 < cs.length → AA = some ⟨g, m + 1, none⟩ ∧ ∃ ad, (some ⟨g, m, none⟩ : Option Addr) = some ad ∧ ∀ j v, cs[j]? = some v → w4.drew.cell? (ad.add j) = some v) := fun h0 => ⟨by rw [← hAA]; exact if_neg (by omega), _, rfl, HSRC.out⟩
          have HFIT : Hid (m + 1 + cs.length ≤ cur.length) := by
            show m + 1 + cs.length ≤ cur.length
            omega
          have HBD : Hid (Below w.heap.size w w4.drew) := hb4.drew
          go_wp2_with fail
          go_region_law (refine step_copy_splice rfl (.tmp 37) (.tmp 40) 28 28 rfl 3 Try.underlying28 HSZ.out AA (some ⟨g, m, none⟩) (k - m) (cap4 - (m + 1)) (k + 1 - m) (cap4 - m) (by simp [Act.eval, Act.put]) (by simp [Act.eval, Act.put]) g (m + 1) cur 3 HGD.out cs HNN.out HPOS.out HFIT.out HONE.out w.heap.size w HBD.out hge ?_; intro w5 HG5 hB5)
          have HC5 := cell_of_heap HG5.out m
          have hC5 : ∃ u, w5.cell? ⟨g, m, none⟩ = some u := by
            have hl5 := length_splice cur (m + 1) cs (by omega)
            rw [HC5]
            exact ⟨_, Array.getElem?_eq_getElem (by simp [hl5]; omega)⟩
          obtain ⟨u, hu⟩ := hC5
          have hf5 := frozen_of_heap HG5.out m
          have dx5 := (hB5.cell (p := ⟨gl, ol + k, none⟩) hgl).trans ((hbr.cell (p := ⟨gl, ol + k, none⟩) hgl).symm.trans dx)
          have HRES : Hid ((w5.setCell ⟨g, m, none⟩ (.int .i64 x)).ownsRow w.heap.size 3 1 (.slice (some ⟨g, 0, none⟩) (k + 1) cap4) (srt [] (xs.take (k + 1))).length ((srt [] (xs.take (k + 1))).map (Value.int .i64))) := by
            have hl5 := length_splice cur (m + 1) cs (by omega)
            have hh := heap_setCell_same w5 g m _ _ (.int .i64 x) HG5.out
            have hlen1 : (srt [] (xs.take (k + 1))).length = k + 1 := by rw [HX.out, ins_len, HL.out]
            refine ⟨by simp, Or.inr ⟨g, cap4, _, by rw [hlen1], hge, hh, by rw [hlen1]; exact hc1, hc2, by simp [hl5, hcl], ?_⟩⟩
            rw [hlen1, Nat.mul_one, HX.out, HIX.out, ← HL.out]
            have := spl_list (x := x) (m := m) (cur := cur) (by rw [HL.out]; omega) (by rw [HL.out]; omega) HTK.out
            rw [← this, HCS.out]
            simp
          have hb6 : Below w.heap.size w (w5.setCell ⟨g, m, none⟩ (.int .i64 x)) := hB5.setCell (p := ⟨g, m, none⟩) hge _
          clear HC5 HG4 HG5 HTK HCS HSRC HONE
          go_wp2
          go_roundg (N - (k + 1))
          case measure => omega
          case rel => exact ⟨k + 1, by omega, Nat.le_refl _, by go_num, HRES, hb6⟩
        · obtain ⟨p, rfl⟩ : ∃ p, m = p + 1 := ⟨m - 1, by omega⟩
          have hpr : p < acc.length := by rw [HL.out]; omega
          obtain ⟨ga, oa, rfl, hga, hca⟩ := HIA.out (by omega)
          have dp := hca p hpr
          obtain ⟨y, hy⟩ := ex_eq acc[p]
          rw [← hy] at dp
          have HY : Hid (y = acc[p]) := hy
          have q2 : (p : Int) < (k : Int) := by omega
          clear hca hy
          by_cases hyx : x < y
          · have HG2 : Hid (∀ j (h : j < acc.length), p ≤ j → x < acc[j]) := fun j h hj => by
              by_cases e : j = p
              · subst e; rw [← HY.out]; exact hyx
              · exact hgt.out j h (by omega)
            clear HOI
            go_wp2
            go_quiet (fail)
            go_wp2
            go_roundg p
            case measure => omega
            case rel => exact ⟨p, by omega, Nat.le_refl _, by go_num, HG2, _, rfl⟩
          · have HIX : Hid (ins x acc = acc.take (p + 1) ++ x :: acc.drop (p + 1)) := HOI.out (p + 1) rfl (fun j h hj => by
              have := up_at HUP.out (i := j) (j := p) (by omega) hpr
              rw [← HY.out] at this
              omega)
            have hyx2 : y ≤ x := by omega
            clear HOI
            go_wp2
            go_quiet (fail)
            go_wp2_with (at_builtin; refine wpList_append_own _ rfl _ _ 28 rfl w.heap.size 3 i0 _ 1 8 Try.underlying28 hi hz0 hz1 hz2 rfl (by decide) _ _ _ rfl ((show (W.drewN _).ownsRow w.heap.size 3 1 (.slice (some ⟨ga, oa, none⟩) k co) acc.length (acc.map (Value.int .i64)) from HOW.out).alloc _) _ 1 1 [.int .i64 0] rfl rfl ?c1 ?c2 ?c3 ?c4 ?c5 ?_)
            case c1 => exact cells_one (heap_alloc_new _ _)
            case c2 => intro u hu; simp at hu; subst hu; rfl
            case c3 => rw [HL.out]; unfold maxLen; omega
            case c4 => rw [HL.out]; omega
            case c5 => have := hbr.size; simp; omega
            intro v' w4 hown4 hgrow _
            have hb4 : Below w.heap.size w w4 := Below.grown ((below_drewN hbr _).alloc hbr.size _) hgrow (by have := hbr.size; simp; omega) (fun j hj => (HOW.out.lt j hj).1)
            have HT : Hid (∃ (g cap4 : Nat) (cur : List Value), v' = .slice (some ⟨g, 0, none⟩) (k + 1) cap4 ∧ w.heap.size ≤ g ∧ k + 1 ≤ cap4 ∧ cap4 ≤ maxLen ∧ w4.heap[g]? = some (.cells cur.toArray 3 (0, 0)) ∧ cur.length = cap4 ∧ cur.take (acc.length + 1) = (acc ++ [0]).map (Value.int .i64)) := by
              rcases hown4.2 with ⟨_, h0⟩ | ⟨g, cap4, cur, hv, hge, hg, hc1, hc2, hsz, htk⟩
              · omega
              · refine ⟨g, cap4, cur.toList, by rw [hv, HL.out], hge, by rw [← HL.out]; exact hc1, hc2, by simpa using hg, by simpa using hsz, ?_⟩
                rw [Nat.mul_one] at htk
                rw [htk]; simp
            clear hown4 hgrow
            obtain ⟨g, cap4, cur, rfl, hge, hc1, hc2, hg4, hcl, htk⟩ := HT.out
            have HTK : Hid (cur.take (acc.length + 1) = (acc ++ [0]).map (Value.int .i64)) := htk
            have HG4 : Hid (w4.heap[g]? = some (.cells cur.toArray 3 (0, 0))) := hg4
            clear htk hg4 HT
            have q4 : (k : Int) + 1 ≤ (cap4 : Int) := by omega
            obtain ⟨cs, hcs⟩ := ex_eq ((acc.drop (p + 1)).map (Value.int .i64))
            have HCS : Hid (cs = (acc.drop (p + 1)).map (Value.int .i64)) := hcs
            have hcsl : cs.length = k - (p + 1) := by rw [hcs, List.length_map, List.length_drop, HL.out]
            have HSRC : Hid (∀ j v, cs[j]? = some v → w4.cell? ((⟨g, (p + 1), none⟩ : Addr).add j) = some v) := fun j v hj => by
              have hjl : j < cs.length := (List.getElem?_eq_some_iff.1 hj).1
              rw [add_at, cell_of_heap HG4.out]
              rw [HCS.out, List.getElem?_map, List.getElem?_drop] at hj
              have h2 : (cur.take (acc.length + 1))[(p + 1) + j]? = some v := by
                rw [HTK.out, List.getElem?_map, List.getElem?_append_left (by rw [HL.out]; omega)]; exact hj
              rw [List.getElem?_take_of_lt (by rw [HL.out]; omega)] at h2
              simpa using h2
            have HONE : Hid (∀ v ∈ cs, v.oneCell' = true) := fun v hv => by
              rw [HCS.out] at hv
              simp only [List.mem_map] at hv
              obtain ⟨z, _, rfl⟩ := hv
              rfl
            clear hcs
            have j1 : (0 : Int) ≤ ((p : Int) + 1) + 1 := by omega
            have j2 : ((p : Int) + 1) + 1 ≤ (k : Int) + 1 := by omega
            have j3 : (0 : Int) ≤ ((p : Int) + 1) := by omega
            have j4 : ((p : Int) + 1) ≤ (k : Int) + 1 := by omega
            have j5 : IntKind.i64.wrap (((p : Int) + 1) + 1) = ((p : Int) + 1) + 1 := by rw [IntKind.wrap_i64]; omega
            have j8 : ((p : Int) + 1 + 1).toNat = p + 1 + 1 := by omega
            have j9 : ((p : Int) + 1).toNat = p + 1 := by omega
            have j10 : ¬ cap4 = p + 1 := by omega
            have j6 : (k : Int) + 1 ≤ (cap4 : Int) := by omega
            have j7 : ((p : Int) + 1) ≤ (cap4 : Int) := by omega
            have HSZ : Hid ((Try.prog.info? 3).map (·.size) = some 1) := by
              show (Try.prog.info? 3).map (·.size) = some 1
              rw [hi]; simp [hz1]
            have HNN : Hid (cs.length = Nat.min (k + 1 - (p + 1)) (k - (p + 1))) := by
              show cs.length = Nat.min (k + 1 - (p + 1)) (k - (p + 1))
              rw [hcsl]; exact (Nat.min_eq_right (by omega)).symm
            have HGD : Hid (w4.drew.heap[g]? = some (.cells cur.toArray 3 (0, 0))) := HG4.out
            obtain ⟨AA, hAA⟩ : ∃ AA : Option Addr, (if cap4 = (p + 1) + 1 then some ⟨g, 0, none⟩ else some ⟨g, (p + 1) + 1, none⟩) = AA := ⟨_, rfl⟩
            have HPOS : Hid (0 < cs.length → AA = some ⟨g, (p + 1) + 1, none⟩ ∧ ∃ ad, (some ⟨g, (p + 1), none⟩ : Option Addr) = some ad ∧ ∀ j v, cs[j]? = some v → w4.drew.cell? (ad.add j) = some v) := fun h0 => ⟨by rw [← hAA]; exact if_neg (by omega), _, rfl, HSRC.out⟩
            have HFIT : Hid ((p + 1) + 1 + cs.length ≤ cur.length) := by
              show (p + 1) + 1 + cs.length ≤ cur.length
              omega
            have HBD : Hid (Below w.heap.size w w4.drew) := hb4.drew
            go_wp2_with fail
            go_region_law (refine step_copy_splice rfl (.tmp 37) (.tmp 40) 28 28 rfl 3 Try.underlying28 HSZ.out AA (some ⟨g, (p + 1), none⟩) (k - (p + 1)) (cap4 - ((p + 1) + 1)) (k + 1 - (p + 1)) (cap4 - (p + 1)) (by simp [Act.eval, Act.put]) (by simp [Act.eval, Act.put]) g ((p + 1) + 1) cur 3 HGD.out cs HNN.out HPOS.out HFIT.out HONE.out w.heap.size w HBD.out hge ?_; intro w5 HG5 hB5)
            have HC5 := cell_of_heap HG5.out (p + 1)
            have hC5 : ∃ u, w5.cell? ⟨g, (p + 1), none⟩ = some u := by
              have hl5 := length_splice cur ((p + 1) + 1) cs (by omega)
              rw [HC5]
              exact ⟨_, Array.getElem?_eq_getElem (by simp [hl5]; omega)⟩
            obtain ⟨u, hu⟩ := hC5
            have hf5 := frozen_of_heap HG5.out (p + 1)
            have dx5 := (hB5.cell (p := ⟨gl, ol + k, none⟩) hgl).trans ((hbr.cell (p := ⟨gl, ol + k, none⟩) hgl).symm.trans dx)
            have HRES : Hid ((w5.setCell ⟨g, (p + 1), none⟩ (.int .i64 x)).ownsRow w.heap.size 3 1 (.slice (some ⟨g, 0, none⟩) (k + 1) cap4) (srt [] (xs.take (k + 1))).length ((srt [] (xs.take (k + 1))).map (Value.int .i64))) := by
              have hl5 := length_splice cur ((p + 1) + 1) cs (by omega)
              have hh := heap_setCell_same w5 g (p + 1) _ _ (.int .i64 x) HG5.out
              have hlen1 : (srt [] (xs.take (k + 1))).length = k + 1 := by rw [HX.out, ins_len, HL.out]
              refine ⟨by simp, Or.inr ⟨g, cap4, _, by rw [hlen1], hge, hh, by rw [hlen1]; exact hc1, hc2, by simp [hl5, hcl], ?_⟩⟩
              rw [hlen1, Nat.mul_one, HX.out, HIX.out, ← HL.out]
              have := spl_list (x := x) (m := (p + 1)) (cur := cur) (by rw [HL.out]; omega) (by rw [HL.out]; omega) HTK.out
              rw [← this, HCS.out]
              simp
            have hb6 : Below w.heap.size w (w5.setCell ⟨g, (p + 1), none⟩ (.int .i64 x)) := hB5.setCell (p := ⟨g, (p + 1), none⟩) hge _
            clear HC5 HG4 HG5 HTK HCS HSRC HONE
            go_wp2
            go_roundg (N - (k + 1))
            case measure => omega
            case rel => exact ⟨k + 1, by omega, Nat.le_refl _, by go_num, HRES, hb6⟩
    · obtain rfl : k = N := by omega
      rw [HN.out, List.take_length] at hown
      go_wp2
      go_ret
      exact ⟨_, rfl, hown.out, hbr⟩
end Go.Proofs.Ytplhpinaadgkkaa
namespace Go.Proofs.Ytplhpinaadgkkaa
open Go.RowKit Go.Lib

theorem up_lt {xs : List Int} (h : xs.Pairwise (· < ·)) : Up xs := by
  unfold Up
  exact h.imp (fun h => by omega)
/-- A rising row that is put in order stays as it is. -/
theorem ins_last {x : Int} {ys : List Int} (h : ∀ y ∈ ys, y ≤ x) : ins x ys = ys ++ [x] := by
  induction ys with
  | nil => rfl
  | cons y ys ih =>
    unfold ins
    rw [if_pos (h y (by simp)), ih (fun z hz => h z (by simp [hz]))]
    rfl
theorem srt_same {acc xs : List Int} (h : Up (acc ++ xs)) : srt acc xs = acc ++ xs := by
  induction xs generalizing acc with
  | nil => simp [srt]
  | cons x xs ih =>
    show srt (ins x acc) xs = _
    unfold Up at h
    have h1 : ∀ y ∈ acc, y ≤ x := fun y hy => (List.pairwise_append.1 h).2.2 y hy x (by simp)
    rw [ins_last h1, ih (by unfold Up; rw [List.append_assoc]; exact h), List.append_assoc]
    rfl

set_option maxHeartbeats 2000000 in
set_option maxRecDepth 100000 in
theorem rnear_own (n : Int) (a : Option Addr) (cap : Nat) (es : List (Int × Int)) (x : Int) (b : Bool) (L : List Int) (w : World) (hN : es.length ≤ 1000000) (hE : EAt w a es) (hb : b = true ↔ RightG n es) (hL : L = if b = true then nbL x es else []) :
    Calls Try.prog 65 #[.agg #[.int .i64 n, .slice a es.length cap], .int .i64 x] w fun e w' => ∃ v, e = .returned v ∧ w'.ownsRow w.heap.size 3 1 v L.length (L.map (Value.int .i64)) ∧ Below w.heap.size w w' := by
  obtain ⟨i0, hi, hz0, hz1, hz2⟩ := info_parts Try.info3
  obtain ⟨N, hNe⟩ : ∃ N, N = es.length := ⟨_, rfl⟩
  have HRI : Hid (∀ W, EAt W a es → Calls Try.prog 17 #[.agg #[.int .i64 n, .slice a N cap]] W fun e w' => e = .returned (.bool b) ∧ Below W.heap.size W w') := fun W h => by rw [hNe]; exact rright_any n a cap es b W hN h hb
  rw [← hNe] at hN ⊢
  have HN : Hid (N = es.length) := hNe
  have HE : Hid (EAt w a es) := hE
  have HB : Hid (b = true ↔ RightG n es) := hb
  have HL : Hid (L = if b = true then nbL x es else []) := hL
  clear hNe hE hb hL
  obtain ⟨W0, hW0, hsz, o1, o2, hB0⟩ := new_two w (.cells #[.int .i64 n, .slice a N cap] 26) (.cells #[] 3)
  have HW0 : Hid (W0 = (w.alloc (.cells #[.int .i64 n, .slice a N cap] 26)).alloc (.cells #[] 3)) := hW0
  have HO1 : Hid (W0.heap[w.heap.size]? = some (.cells #[.int .i64 n, .slice a N cap] 26)) := o1
  have HOW : Hid (W0.ownsRow (w.heap.size + 1) 3 1 (.slice (some ⟨w.heap.size + 1, 0, none⟩) 0 0) 0 []) := ⟨rfl, Or.inr ⟨w.heap.size + 1, 0, #[], rfl, Nat.le_refl _, o2, Nat.le_refl _, Nat.zero_le _, rfl, rfl⟩⟩
  clear hW0 o1 o2
  go_enter Try.func65, Try.ntmps65
  go_wp2_with fail
  rw [← HW0.out]
  refine (HRI.out _ (HE.out.below hB0)).mono ?_
  rintro e w1 ⟨rfl, hb1⟩
  have hbw : Below w.heap.size w w1 := hB0.trans (hb1.mono (by omega))
  have hs1 := hb1.size
  rw [hsz] at hs1
  have p1 : w1.heap[w.heap.size]? = some (.cells #[.int .i64 n, .slice a N cap] 26) := (hb1.block w.heap.size (by omega)).trans HO1.out
  have c1 : w1.cell? ⟨w.heap.size, 1, none⟩ = some (.slice a N cap) := cell_of_heap p1 1
  have HE1 : Hid (EAt w1 a es) := HE.out.below hbw
  have HO : Hid (w1.ownsRow (w.heap.size + 1) 3 1 (.slice (some ⟨w.heap.size + 1, 0, none⟩) 0 0) 0 []) := own_below HOW.out hb1
  have HP1 : Hid (w1.heap[w.heap.size]? = some (.cells #[.int .i64 n, .slice a N cap] 26)) := p1
  clear hb1 HRI HO1 HOW HW0 hB0 p1
  cases b with
  | false =>
    obtain rfl : L = [] := HL.out
    go_wp2
    go_ret
    exact ⟨_, rfl, own_lower HO.out (Nat.le_succ _), hbw⟩
  | true =>
    have HRG : Hid (RightG n es) := HB.out.1 rfl
    have HL2 : Hid (L = nbL x es) := HL.out
    clear HB HL
    go_wp2
    go_loopw [5, 6] (fun v i wr => ∃ k : Nat, k ≤ N ∧ i = .int .i64 k ∧ Hid (wr.ownsRow (w.heap.size + 1) 3 1 v (nbL x (es.take k)).length ((nbL x (es.take k)).map (Value.int .i64))) ∧ Below (w.heap.size + 1) w1 wr) (fun _ i _ => N - (RowKit.intOf i).toNat)
    case atStart => exact ⟨0, Nat.zero_le _, rfl, HO, Below.refl _ _⟩
    case round =>
      obtain ⟨k, hk, rfl, hown, hbr⟩ := hrel
      have hsr := hbr.size
      have c1r : wr.cell? ⟨w.heap.size, 1, none⟩ = some (.slice a N cap) := (hbr.cell (p := ⟨w.heap.size, 1, none⟩) (by simp)).trans c1
      by_cases hlt : k < N
      · have hkr : k < es.length := by rw [← HN.out]; exact hlt
        obtain ⟨g, off, rfl, hg, hcs⟩ := HE.out (by omega)
        have hbwr : Below w.heap.size w wr := hbw.trans (hbr.mono (by omega))
        have d0 := (hbwr.cell (p := ⟨g, off + k * 2, none⟩) hg).trans (hcs k hkr).1
        have d1 := (hbwr.cell (p := ⟨g, off + k * 2 + 1, none⟩) hg).trans (hcs k hkr).2
        obtain ⟨e1, he1⟩ := ex_eq es[k].1
        obtain ⟨e2, he2⟩ := ex_eq es[k].2
        rw [← he1] at d0
        rw [← he2] at d1
        have hin := (HRG.out.at k hkr).1
        rw [← he1, ← he2] at hin
        have HNX : Hid (nbL x (es.take (k + 1)) = nbL x (es.take k) ++ other x (e1, e2)) := by
          show nbL x (es.take (k + 1)) = _
          rw [nbL_take hkr, he1, he2]
        have q1 : (k : Int) < (N : Int) := by omega
        have hlen : (nbL x (es.take k)).length ≤ k := Nat.le_trans (nbL_len _ _) (by rw [List.length_take]; omega)
        obtain ⟨P, hP⟩ := ex_eq (nbL x (es.take k))
        rw [← hP] at hown HNX hlen
        obtain ⟨i1, i2, i3⟩ := hin
        clear hcs he1 he2 hP
        have HD : Hid (∀ W, Below (w.heap.size + 1) wr W → W.cell? ⟨w.heap.size, 1, none⟩ = some (.slice (some ⟨g, off, none⟩) N cap) ∧ W.cell? ⟨g, off + k * 2 + 1, none⟩ = some (.int .i64 e2) ∧ W.cell? ⟨g, off + k * 2, none⟩ = some (.int .i64 e1)) := fun W h => ⟨(h.cell (p := ⟨w.heap.size, 1, none⟩) (by simp)).trans c1r, (h.cell (p := ⟨g, off + k * 2 + 1, none⟩) (by simp; omega)).trans d1, (h.cell (p := ⟨g, off + k * 2, none⟩) (by simp; omega)).trans d0⟩
        by_cases t1 : e1 = x
        · subst t1
          have HO2 : Hid (nbL e1 (es.take (k + 1)) = P ++ [e2]) := by
            show nbL e1 (es.take (k + 1)) = _
            rw [HNX.out]; unfold other; rw [if_pos rfl]
          have t2 : (e2 == e1) = false := beq_eq_false_iff_ne.2 (by omega)
          go_wp2_with (at_builtin; refine wpList_append_own _ rfl _ _ 28 rfl (w.heap.size + 1) 3 i0 _ 1 8 Try.underlying28 hi hz0 hz1 hz2 rfl (by decide) _ _ _ rfl (hown.out.alloc _) _ 1 1 [.int .i64 e2] rfl rfl ?c1 ?c2 ?c3 ?c4 ?c5 ?_)
          case c1 => exact cells_one (heap_alloc_new _ _)
          case c2 => intro u hu; simp at hu; subst hu; rfl
          case c3 => unfold maxLen; omega
          case c4 => omega
          case c5 => simp; omega
          intro v' w4 hown4 hgrow _
          have hb4 : Below (w.heap.size + 1) wr w4 := Below.grown ((Below.refl _ _).alloc (by omega) _) hgrow (by simp; omega) (fun j hj => (hown.out.lt j hj).1)
          have HO4 : Hid (w4.ownsRow (w.heap.size + 1) 3 1 v' (nbL e1 (es.take (k + 1))).length ((nbL e1 (es.take (k + 1))).map (Value.int .i64))) := by
            show w4.ownsRow (w.heap.size + 1) 3 1 v' (nbL e1 (es.take (k + 1))).length ((nbL e1 (es.take (k + 1))).map (Value.int .i64))
            rw [HO2.out, List.length_append, List.map_append]; exact hown4
          obtain ⟨f1, f2, f3⟩ := HD.out w4 hb4
          have hb5 := hbr.trans hb4
          clear hown4 hgrow hown hb4
          go_wp2
          go_roundw
          case rel => exact ⟨k + 1, by omega, by go_num, HO4, hb5⟩
          case measure => simp [RowKit.intOf]; omega
        · have t1b : (e1 == x) = false := beq_eq_false_iff_ne.2 t1
          by_cases t2 : e2 = x
          · subst t2
            have HO2 : Hid (nbL e2 (es.take (k + 1)) = P ++ [e1]) := by
              show nbL e2 (es.take (k + 1)) = _
              rw [HNX.out]; unfold other; rw [if_neg t1, if_pos rfl]
            clear t1
            go_wp2_with (at_builtin; refine wpList_append_own _ rfl _ _ 28 rfl (w.heap.size + 1) 3 i0 _ 1 8 Try.underlying28 hi hz0 hz1 hz2 rfl (by decide) _ _ _ rfl (hown.out.alloc _) _ 1 1 [.int .i64 e1] rfl rfl ?c1 ?c2 ?c3 ?c4 ?c5 ?_)
            case c1 => exact cells_one (heap_alloc_new _ _)
            case c2 => intro u hu; simp at hu; subst hu; rfl
            case c3 => unfold maxLen; omega
            case c4 => omega
            case c5 => simp; omega
            intro v' w4 hown4 hgrow _
            have hb4 : Below (w.heap.size + 1) wr w4 := Below.grown ((Below.refl _ _).alloc (by omega) _) hgrow (by simp; omega) (fun j hj => (hown.out.lt j hj).1)
            have HO4 : Hid (w4.ownsRow (w.heap.size + 1) 3 1 v' (nbL e2 (es.take (k + 1))).length ((nbL e2 (es.take (k + 1))).map (Value.int .i64))) := by
              show w4.ownsRow (w.heap.size + 1) 3 1 v' (nbL e2 (es.take (k + 1))).length ((nbL e2 (es.take (k + 1))).map (Value.int .i64))
              rw [HO2.out, List.length_append, List.map_append]; exact hown4
            have hb5 := hbr.trans hb4
            clear hown4 hgrow hown hb4
            go_wp2
            go_roundw
            case rel => exact ⟨k + 1, by omega, by go_num, HO4, hb5⟩
            case measure => simp [RowKit.intOf]; omega
          · have t2b : (e2 == x) = false := beq_eq_false_iff_ne.2 t2
            have HO4 : Hid (wr.ownsRow (w.heap.size + 1) 3 1 u5 (nbL x (es.take (k + 1))).length ((nbL x (es.take (k + 1))).map (Value.int .i64))) := by
              show wr.ownsRow (w.heap.size + 1) 3 1 u5 (nbL x (es.take (k + 1))).length ((nbL x (es.take (k + 1))).map (Value.int .i64))
              rw [HNX.out]; unfold other; rw [if_neg t1, if_neg t2, List.append_nil]; exact hown.out
            clear t1 t2
            go_wp2
            go_roundw
            case rel => exact ⟨k + 1, by omega, by go_num, HO4, hbr⟩
            case measure => simp [RowKit.intOf]; omega
      · obtain rfl : k = N := by omega
        have htk : es.take k = es := by rw [HN.out, List.take_length]
        rw [htk, ← HL2.out] at hown
        obtain ⟨av, cv, rfl, hIv⟩ := iat_own hown.out
        have HLN : Hid (L.length ≤ 1000000) := by
          show L.length ≤ 1000000
          rw [HL2.out]; exact Nat.le_trans (nbL_len _ _) (by rw [← HN.out]; exact hN)
        have HS := sorted_any av cv L wr HLN.out hIv
        have hsr2 : srt [] L = L := by
          have := srt_same (acc := []) (xs := L) (by rw [List.nil_append, HL2.out]; exact up_lt (nbL_rises HRG.out))
          simpa using this
        rw [hsr2] at HS
        have HSS : Hid (Calls Try.prog 33 #[.slice av L.length cv] wr fun e w' => ∃ v, e = .returned v ∧ w'.ownsRow wr.heap.size 3 1 v L.length (L.map (Value.int .i64)) ∧ Below wr.heap.size wr w') := HS
        clear HS hIv hown hsr2 htk hi hz0 hz1 hz2
        go_wp2_with fail
        refine HSS.out.mono ?_
        rintro e w5 ⟨v5, rfl, hown5, hb5⟩
        have HO5 : Hid (w5.ownsRow wr.heap.size 3 1 v5 L.length (L.map (Value.int .i64))) := hown5
        have hbf : Below w.heap.size w w5 := (hbw.trans (hbr.mono (by omega))).trans (hb5.mono (by omega))
        clear hown5 HSS
        go_wp2
        go_ret
        exact ⟨v5, rfl, own_lower HO5.out (Nat.le_trans (Nat.le_trans hbw.size hbr.size) (Nat.le_refl _)), hbf⟩
end Go.Proofs.Ytplhpinaadgkkaa
namespace Go.Proofs.Ytplhpinaadgkkaa
open Go.RowKit Go.Lib

set_option maxHeartbeats 1000000 in
theorem in_any (a : Option Addr) (cap : Nat) (xs : List Int) (x : Int) (w : World) (hN : xs.length ≤ 1000000) (h : IAt w a xs) :
    Calls Try.prog 18 #[.slice a xs.length cap, .int .i64 x] w fun e w' => e = .returned (.bool (decide (x ∈ xs))) ∧ w' = w := by
  have H1 : Hid (IAt w a xs) := h
  obtain ⟨r, hr⟩ := ex_eq (decide (x ∈ xs))
  have HR : Hid (r = true ↔ x ∈ xs) := by
    show r = true ↔ x ∈ xs
    rw [hr, decide_eq_true_eq]
  rw [← hr]
  obtain ⟨N, hNe⟩ := ex_eq xs.length
  have HN : Hid (N = xs.length) := hNe
  rw [← hNe] at hN ⊢
  clear h hr hNe
  go_enter Try.func18, Try.ntmps18
  go_wp2
  go_loopw [5] (fun i wr => ∃ k : Nat, k ≤ N ∧ i = .int .i64 k ∧ Hid (x ∉ xs.take k) ∧ wr = w) (fun i _ => N - (RowKit.intOf i).toNat)
  case atStart => exact ⟨0, Nat.zero_le _, rfl, (by simp : x ∉ xs.take 0), rfl⟩
  case round =>
    obtain ⟨k, hk, rfl, hno, hw⟩ := hrel
    subst hw
    by_cases hlt : k < N
    · have hkr : k < xs.length := by rw [← HN.out]; exact hlt
      obtain ⟨g, off, rfl, hg, hc⟩ := H1.out (by omega)
      have d := hc k hkr
      obtain ⟨y, hy⟩ := ex_eq xs[k]
      rw [← hy] at d
      have HY : Hid (y = xs[k]) := hy
      have q1 : (k : Int) < (N : Int) := by omega
      clear hc hy
      by_cases hyx : y = x
      · obtain rfl : r = true := HR.out.2 (by rw [← hyx, HY.out]; exact List.getElem_mem _)
        subst hyx
        clear HR
        go_wp2
        go_ret
        exact ⟨rfl, rfl⟩
      · have hq : (y == x) = false := beq_eq_false_iff_ne.2 hyx
        have HNX : Hid (x ∉ xs.take (k + 1)) := by
          show x ∉ xs.take (k + 1)
          rw [List.take_succ_eq_append_getElem hkr, List.mem_append]
          rintro (h | h)
          · exact hno.out h
          · simp at h; exact hyx (by rw [HY.out]; exact h.symm)
        clear hyx
        go_wp2
        go_roundw
        case rel => exact ⟨k + 1, by omega, by go_num, HNX, by first | rfl | trivial⟩
        case measure => simp [RowKit.intOf]; omega
    · obtain rfl : k = N := by omega
      obtain rfl : r = false := b_false HR.out (fun h => hno.out (by rw [HN.out, List.take_length]; exact h))
      clear HR
      go_wp2
      go_ret
      exact ⟨rfl, rfl⟩
end Go.Proofs.Ytplhpinaadgkkaa
