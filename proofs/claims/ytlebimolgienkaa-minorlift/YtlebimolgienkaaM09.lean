/-
  The document's Sorted, walked.
  The document's Has, In: are two vertices neighbours; does a number stand in a row?
  The document's Normal, by rows: what stands above each vertex.
-/
import Derived.Test.YtlebimolgienkaaM08
import Derived.Laws.CopyOwn
import Derived.Test.YtlebimolgienkaaM05
import Derived.BigQuiet
import Derived.Test.YtlebimolgienkaaM04
import Derived.Test.YtlebimolgienkaaM02
import Derived.Deep.OwnRows
import Derived.Deep.AppendLies
import Derived.Deep.RegionLaw
namespace Go.Proofs.Ytlebimolgienkaa
open Go.RowKit Go.Lib

theorem own_emptyI {w : World} (o : Obj) (ho : o = .cells #[] 3 (0, 0)) : (w.alloc o).ownsRow w.heap.size 3 1 (.slice (some ⟨w.heap.size, 0, none⟩) 0 0) 0 [] := by
  subst ho
  exact ⟨rfl, Or.inr ⟨w.heap.size, 0, #[], rfl, Nat.le_refl _, heap_alloc_new _ _, Nat.le_refl _, Nat.zero_le _, rfl, rfl⟩⟩
theorem own_form {w : World} {base : Nat} {e : TypeId} {v : Value} {xs : List Int} (h : w.ownsRow base e 1 v xs.length (xs.map (Value.int .i64))) : ∃ a cap, v = .slice a xs.length cap ∧ IAt w a xs := iat_own h
theorem up_at {xs : List Int} (h : Up xs) {i j : Nat} (hij : i ≤ j) (hj : j < xs.length) : xs[i]'(by omega) ≤ xs[j] := by
  by_cases e : i = j
  · subst e; exact Int.le_refl _
  · exact List.pairwise_iff_getElem.1 h i j (by omega) hj (by omega)

theorem cells_one {w : World} {b : Nat} {x : Value} {T : TypeId} {fr : Nat × Nat} (h : w.heap[b]? = some (.cells #[x] T fr)) : ∀ j v, [x][j]? = some v → w.cell? ((⟨b, 0, none⟩ : Addr).add j) = some v := by
  intro j v hj
  rw [add_at, Nat.zero_add, cell_of_heap h]
  simpa using hj
/-- The cells behind the copy and the store. -/
theorem spl_list {acc : List Int} {x : Int} {m : Nat} {cur : List Value} (hm : m ≤ acc.length) (hl : acc.length + 1 ≤ cur.length) (hc : cur.take (acc.length + 1) = (acc ++ [0]).map (Value.int .i64)) :
    ((splice cur (m + 1) ((acc.drop m).map (Value.int .i64))).set m (.int .i64 x)).take (acc.length + 1) = (acc.take m ++ x :: acc.drop m).map (Value.int .i64) := by
  have hcj : ∀ j (h : j < acc.length), cur[j]? = some (.int .i64 acc[j]) := fun j h => by
    have h1 : (cur.take (acc.length + 1))[j]? = some (.int .i64 acc[j]) := by
      rw [hc, List.getElem?_map, List.getElem?_append_left h, List.getElem?_eq_getElem h]; rfl
    rwa [List.getElem?_take_of_lt (by omega)] at h1
  apply List.ext_getElem?
  intro j
  by_cases hj : j < acc.length + 1
  · rw [List.getElem?_take_of_lt hj, List.getElem?_map]
    unfold splice
    rcases Nat.lt_trichotomy j m with h | h | h
    · rw [List.getElem?_set_ne (by omega), List.getElem?_append_left (by rw [List.length_take]; omega), List.getElem?_take_of_lt (by omega), hcj j (by omega), List.getElem?_append_left (by rw [List.length_take]; omega), List.getElem?_take_of_lt h, List.getElem?_eq_getElem (by omega)]
      rfl
    · subst h
      rw [List.getElem?_set_self (by simp [List.length_append, List.length_take]; omega), List.getElem?_append_right (by rw [List.length_take]; omega)]
      simp [List.length_take, Nat.min_eq_left hm]
    · rw [List.getElem?_set_ne (by omega), List.getElem?_append_right (by rw [List.length_take]; omega), List.getElem?_append_left (by simp [List.length_take]; omega), List.getElem?_map, List.getElem?_append_right (by rw [List.length_take]; omega)]
      have e : j - (List.take m acc).length = (j - (List.take (m + 1) cur).length) + 1 := by rw [List.length_take, List.length_take]; omega
      rw [e, List.getElem?_cons_succ]
  · rw [List.getElem?_take_eq_none (by omega), List.getElem?_eq_none (by simp [List.length_take]; omega)]

set_option maxHeartbeats 4000000 in
set_option maxRecDepth 1000000 in
theorem sorted_any (a : Option Addr) (cap : Nat) (xs : List Int) (w : World) (hN : xs.length ≤ 1000000) (h : IAt w a xs) :
    Calls Try.prog 45 #[.slice a xs.length cap] w fun e w' => ∃ v, e = .returned v ∧ w'.ownsRow w.heap.size 3 1 v (srt [] xs).length ((srt [] xs).map (Value.int .i64)) ∧ Below w.heap.size w w' := by
  obtain ⟨i0, hi, hz0, hz1, hz2⟩ := info_parts Try.info3
  have HI : Hid (IAt w a xs) := h
  obtain ⟨N, hNe⟩ := ex_eq xs.length
  have HN : Hid (N = xs.length) := hNe
  rw [← hNe] at hN ⊢
  clear h hNe
  have HOE : Hid ((w.alloc (.cells #[] 3)).ownsRow w.heap.size 3 1 (.slice (some ⟨w.heap.size, 0, none⟩) 0 0) 0 []) := own_emptyI _ rfl
  have hbE : Below w.heap.size w (w.alloc (.cells #[] 3)) := (Below.refl _ _).alloc (Nat.le_refl _) _
  go_enter Try.func45, Try.ntmps45
  go_wp2
  go_loopg [3, 4] N (fun G v i wr => ∃ k : Nat, k ≤ N ∧ N - k ≤ G ∧ i = .int .i64 k ∧ Hid (wr.ownsRow w.heap.size 3 1 v (srt [] (xs.take k)).length ((srt [] (xs.take k)).map (Value.int .i64))) ∧ Below w.heap.size w wr)
  case atStart => exact ⟨0, Nat.zero_le _, by omega, rfl, HOE, hbE⟩
  case round =>
    obtain ⟨k, hk, hG, rfl, hown, hbr⟩ := hrel
    by_cases hlt : k < N
    · have hkr : k < xs.length := by rw [← HN.out]; exact hlt
      obtain ⟨gl, ol, rfl, hgl, hcl⟩ := HI.out (by omega)
      have dx := (hbr.cell (p := ⟨gl, ol + k, none⟩) hgl).trans (hcl k hkr)
      obtain ⟨x, hx⟩ := ex_eq xs[k]
      rw [← hx] at dx
      have HX : Hid (srt [] (xs.take (k + 1)) = ins x (srt [] (xs.take k))) := by
        show _ = _
        rw [List.take_succ_eq_append_getElem hkr, srt_snoc, hx]
      obtain ⟨acc, hacc⟩ := ex_eq (srt [] (xs.take k))
      have HUP : Hid (Up acc) := by
        show Up acc
        rw [hacc]; exact srt_up (by unfold Up; simp)
      rw [← hacc] at hown HX
      have hlen : acc.length = k := by rw [hacc, srt_len, List.length_take]; simp; omega
      obtain ⟨ao, co, hv, hIa⟩ := own_form hown.out
      rw [hlen] at hv
      have HIA : Hid (IAt wr ao acc) := hIa
      have HOW : Hid (wr.ownsRow w.heap.size 3 1 u3 acc.length (acc.map (Value.int .i64))) := hown
      subst hv
      have HL : Hid (acc.length = k) := hlen
      have q1 : (k : Int) < (N : Int) := by omega
      clear hown hIa hacc hx hcl hlen
      go_wp2
      obtain ⟨W, hW⟩ := ex_eq wr
      subst hW
      go_loopg [5] k (fun G2 at5 wz => ∃ m : Nat, m ≤ k ∧ m ≤ G2 ∧ at5 = .int .i64 m ∧ Hid (∀ j (h : j < acc.length), m ≤ j → x < acc[j]) ∧ ∃ q, wz = W.drewN q)
      case atStart => exact ⟨k, Nat.le_refl _, Nat.le_refl _, rfl, fun j h hj => absurd h (by rw [HL.out]; omega), 0, rfl⟩
      case round =>
        obtain ⟨m, hm, hm2, rfl, hgt, q, hw⟩ := hrel
        subst hw
        have HOWD : Hid ((W.drewN q).drew.ownsRow w.heap.size 3 1 (.slice ao k co) acc.length (acc.map (Value.int .i64))) := HOW.out
        have HOI : Hid (∀ m', m' = m → (∀ j (h : j < acc.length), j < m' → acc[j] ≤ x) → ins x acc = acc.take m' ++ x :: acc.drop m') := fun m' e h => by
          subst e
          exact ins_at (by rw [HL.out]; omega) h hgt.out
        rcases Nat.eq_zero_or_pos m with hm0 | hm0
        · have HIX : Hid (ins x acc = acc.take m ++ x :: acc.drop m) := HOI.out m rfl (fun j _ h => absurd h (by omega))
          have hd : decide ((0 : Int) < (m : Int)) = false := decide_eq_false (by omega)
          have hd2 : ¬ (0 : Int) < (m : Int) := by omega
          have hd3 : decide (0 < m) = false := decide_eq_false (by omega)
          clear HOI hm0
          go_wp2
          go_quiet (fail)
          go_wp2_with (at_builtin; refine wpList_append_own _ rfl _ _ 28 rfl w.heap.size 3 i0 _ 1 8 Try.underlying28 hi hz0 hz1 hz2 rfl (by decide) _ _ _ rfl ((show (W.drewN _).ownsRow w.heap.size 3 1 (.slice ao k co) acc.length (acc.map (Value.int .i64)) from HOW.out).alloc _) _ 1 1 [.int .i64 0] rfl rfl ?c1 ?c2 ?c3 ?c4 ?c5 ?_)
          case c1 => exact cells_one (heap_alloc_new _ _)
          case c2 => intro u hu; simp at hu; subst hu; rfl
          case c3 => rw [HL.out]; unfold maxLen; omega
          case c4 => rw [HL.out]; omega
          case c5 => have := hbr.size; simp; omega
          intro v' w4 hown4 hgrow _
          have hb4 : Below w.heap.size w w4 := Below.grown ((below_drewN hbr _).alloc hbr.size _) hgrow (by have := hbr.size; simp; omega) (fun j hj => (HOW.out.lt j hj).1)
          have HT : Hid (∃ (g cap4 : Nat) (cur : List Value), v' = .slice (some ⟨g, 0, none⟩) (k + 1) cap4 ∧ w.heap.size ≤ g ∧ k + 1 ≤ cap4 ∧ cap4 ≤ maxLen ∧ w4.heap[g]? = some (.cells cur.toArray 3 (0, 0)) ∧ cur.length = cap4 ∧ cur.take (acc.length + 1) = (acc ++ [0]).map (Value.int .i64)) := by
            rcases hown4.2 with ⟨_, h0⟩ | ⟨g, cap4, cur, hv, hge, hg, hc1, hc2, hsz, htk⟩
            · omega
            · refine ⟨g, cap4, cur.toList, by rw [hv, HL.out], hge, by rw [← HL.out]; exact hc1, hc2, by simpa using hg, by simpa using hsz, ?_⟩
              rw [Nat.mul_one] at htk
              rw [htk]; simp
          clear hown4 hgrow
          obtain ⟨g, cap4, cur, rfl, hge, hc1, hc2, hg4, hcl, htk⟩ := HT.out
          have HTK : Hid (cur.take (acc.length + 1) = (acc ++ [0]).map (Value.int .i64)) := htk
          have HG4 : Hid (w4.heap[g]? = some (.cells cur.toArray 3 (0, 0))) := hg4
          clear htk hg4 HT
          have q4 : (k : Int) + 1 ≤ (cap4 : Int) := by omega
          obtain ⟨cs, hcs⟩ := ex_eq ((acc.drop m).map (Value.int .i64))
          have HCS : Hid (cs = (acc.drop m).map (Value.int .i64)) := hcs
          have hcsl : cs.length = k - m := by rw [hcs, List.length_map, List.length_drop, HL.out]
          have HSRC : Hid (∀ j v, cs[j]? = some v → w4.cell? ((⟨g, m, none⟩ : Addr).add j) = some v) := fun j v hj => by
            have hjl : j < cs.length := (List.getElem?_eq_some_iff.1 hj).1
            rw [add_at, cell_of_heap HG4.out]
            rw [HCS.out, List.getElem?_map, List.getElem?_drop] at hj
            have h2 : (cur.take (acc.length + 1))[m + j]? = some v := by
              rw [HTK.out, List.getElem?_map, List.getElem?_append_left (by rw [HL.out]; omega)]; exact hj
            rw [List.getElem?_take_of_lt (by rw [HL.out]; omega)] at h2
            simpa using h2
          have HONE : Hid (∀ v ∈ cs, v.oneCell' = true) := fun v hv => by
            rw [HCS.out] at hv
            simp only [List.mem_map] at hv
            obtain ⟨z, _, rfl⟩ := hv
            rfl
          clear hcs
          have j1 : (0 : Int) ≤ (m : Int) + 1 := by omega
          have j2 : (m : Int) + 1 ≤ (k : Int) + 1 := by omega
          have j3 : (0 : Int) ≤ (m : Int) := by omega
          have j4 : (m : Int) ≤ (k : Int) + 1 := by omega
          have j5 : IntKind.i64.wrap ((m : Int) + 1) = (m : Int) + 1 := by rw [IntKind.wrap_i64]; omega
          have j6 : (k : Int) + 1 ≤ (cap4 : Int) := by omega
          have j7 : (m : Int) ≤ (cap4 : Int) := by omega
          have HSZ : Hid ((Try.prog.info? 3).map (·.size) = some 1) := by
            show (Try.prog.info? 3).map (·.size) = some 1
            rw [hi]; simp [hz1]
          have HNN : Hid (cs.length = Nat.min (k + 1 - m) (k - m)) := by
            show cs.length = Nat.min (k + 1 - m) (k - m)
            rw [hcsl]; exact (Nat.min_eq_right (by omega)).symm
          have HGD : Hid (w4.drew.heap[g]? = some (.cells cur.toArray 3 (0, 0))) := HG4.out
          obtain ⟨AA, hAA⟩ : ∃ AA : Option Addr, (if cap4 = m + 1 then some ⟨g, 0, none⟩ else some ⟨g, m + 1, none⟩) = AA := ⟨_, rfl⟩
          have HPOS : Hid (0 < cs.length → AA = some ⟨g, m + 1, none⟩ ∧ ∃ ad, (some ⟨g, m, none⟩ : Option Addr) = some ad ∧ ∀ j v, cs[j]? = some v → w4.drew.cell? (ad.add j) = some v) := fun h0 => ⟨by rw [← hAA]; exact if_neg (by omega), _, rfl, HSRC.out⟩
          have HFIT : Hid (m + 1 + cs.length ≤ cur.length) := by
            show m + 1 + cs.length ≤ cur.length
            omega
          have HBD : Hid (Below w.heap.size w w4.drew) := hb4.drew
          go_wp2_with fail
          go_region_law (refine step_copy_splice rfl (.tmp 37) (.tmp 40) 28 28 rfl 3 Try.underlying28 HSZ.out AA (some ⟨g, m, none⟩) (k - m) (cap4 - (m + 1)) (k + 1 - m) (cap4 - m) (by simp [Act.eval, Act.put]) (by simp [Act.eval, Act.put]) g (m + 1) cur 3 HGD.out cs HNN.out HPOS.out HFIT.out HONE.out w.heap.size w HBD.out hge ?_; intro w5 HG5 hB5)
          have HC5 := cell_of_heap HG5.out m
          have hC5 : ∃ u, w5.cell? ⟨g, m, none⟩ = some u := by
            have hl5 := length_splice cur (m + 1) cs (by omega)
            rw [HC5]
            exact ⟨_, Array.getElem?_eq_getElem (by simp [hl5]; omega)⟩
          obtain ⟨u, hu⟩ := hC5
          have hf5 := frozen_of_heap HG5.out m
          have dx5 := (hB5.cell (p := ⟨gl, ol + k, none⟩) hgl).trans ((hbr.cell (p := ⟨gl, ol + k, none⟩) hgl).symm.trans dx)
          have HRES : Hid ((w5.setCell ⟨g, m, none⟩ (.int .i64 x)).ownsRow w.heap.size 3 1 (.slice (some ⟨g, 0, none⟩) (k + 1) cap4) (srt [] (xs.take (k + 1))).length ((srt [] (xs.take (k + 1))).map (Value.int .i64))) := by
            have hl5 := length_splice cur (m + 1) cs (by omega)
            have hh := heap_setCell_same w5 g m _ _ (.int .i64 x) HG5.out
            have hlen1 : (srt [] (xs.take (k + 1))).length = k + 1 := by rw [HX.out, ins_len, HL.out]
            refine ⟨by simp, Or.inr ⟨g, cap4, _, by rw [hlen1], hge, hh, by rw [hlen1]; exact hc1, hc2, by simp [hl5, hcl], ?_⟩⟩
            rw [hlen1, Nat.mul_one, HX.out, HIX.out, ← HL.out]
            have := spl_list (x := x) (m := m) (cur := cur) (by rw [HL.out]; omega) (by rw [HL.out]; omega) HTK.out
            rw [← this, HCS.out]
            simp
          have hb6 : Below w.heap.size w (w5.setCell ⟨g, m, none⟩ (.int .i64 x)) := hB5.setCell (p := ⟨g, m, none⟩) hge _
          clear HC5 HG4 HG5 HTK HCS HSRC HONE
          go_wp2
          go_roundg (N - (k + 1))
          case measure => omega
          case rel => exact ⟨k + 1, by omega, Nat.le_refl _, by go_num, HRES, hb6⟩
        · obtain ⟨p, rfl⟩ : ∃ p, m = p + 1 := ⟨m - 1, by omega⟩
          have hpr : p < acc.length := by rw [HL.out]; omega
          obtain ⟨ga, oa, rfl, hga, hca⟩ := HIA.out (by omega)
          have dp := hca p hpr
          obtain ⟨y, hy⟩ := ex_eq acc[p]
          rw [← hy] at dp
          have HY : Hid (y = acc[p]) := hy
          have q2 : (p : Int) < (k : Int) := by omega
          clear hca hy
          by_cases hyx : x < y
          · have HG2 : Hid (∀ j (h : j < acc.length), p ≤ j → x < acc[j]) := fun j h hj => by
              by_cases e : j = p
              · subst e; rw [← HY.out]; exact hyx
              · exact hgt.out j h (by omega)
            clear HOI
            go_wp2
            go_quiet (fail)
            go_wp2
            go_roundg p
            case measure => omega
            case rel => exact ⟨p, by omega, Nat.le_refl _, by go_num, HG2, _, rfl⟩
          · have HIX : Hid (ins x acc = acc.take (p + 1) ++ x :: acc.drop (p + 1)) := HOI.out (p + 1) rfl (fun j h hj => by
              have := up_at HUP.out (i := j) (j := p) (by omega) hpr
              rw [← HY.out] at this
              omega)
            have hyx2 : y ≤ x := by omega
            clear HOI
            go_wp2
            go_quiet (fail)
            go_wp2_with (at_builtin; refine wpList_append_own _ rfl _ _ 28 rfl w.heap.size 3 i0 _ 1 8 Try.underlying28 hi hz0 hz1 hz2 rfl (by decide) _ _ _ rfl ((show (W.drewN _).ownsRow w.heap.size 3 1 (.slice (some ⟨ga, oa, none⟩) k co) acc.length (acc.map (Value.int .i64)) from HOW.out).alloc _) _ 1 1 [.int .i64 0] rfl rfl ?c1 ?c2 ?c3 ?c4 ?c5 ?_)
            case c1 => exact cells_one (heap_alloc_new _ _)
            case c2 => intro u hu; simp at hu; subst hu; rfl
            case c3 => rw [HL.out]; unfold maxLen; omega
            case c4 => rw [HL.out]; omega
            case c5 => have := hbr.size; simp; omega
            intro v' w4 hown4 hgrow _
            have hb4 : Below w.heap.size w w4 := Below.grown ((below_drewN hbr _).alloc hbr.size _) hgrow (by have := hbr.size; simp; omega) (fun j hj => (HOW.out.lt j hj).1)
            have HT : Hid (∃ (g cap4 : Nat) (cur : List Value), v' = .slice (some ⟨g, 0, none⟩) (k + 1) cap4 ∧ w.heap.size ≤ g ∧ k + 1 ≤ cap4 ∧ cap4 ≤ maxLen ∧ w4.heap[g]? = some (.cells cur.toArray 3 (0, 0)) ∧ cur.length = cap4 ∧ cur.take (acc.length + 1) = (acc ++ [0]).map (Value.int .i64)) := by
              rcases hown4.2 with ⟨_, h0⟩ | ⟨g, cap4, cur, hv, hge, hg, hc1, hc2, hsz, htk⟩
              · omega
              · refine ⟨g, cap4, cur.toList, by rw [hv, HL.out], hge, by rw [← HL.out]; exact hc1, hc2, by simpa using hg, by simpa using hsz, ?_⟩
                rw [Nat.mul_one] at htk
                rw [htk]; simp
            clear hown4 hgrow
            obtain ⟨g, cap4, cur, rfl, hge, hc1, hc2, hg4, hcl, htk⟩ := HT.out
            have HTK : Hid (cur.take (acc.length + 1) = (acc ++ [0]).map (Value.int .i64)) := htk
            have HG4 : Hid (w4.heap[g]? = some (.cells cur.toArray 3 (0, 0))) := hg4
            clear htk hg4 HT
            have q4 : (k : Int) + 1 ≤ (cap4 : Int) := by omega
            obtain ⟨cs, hcs⟩ := ex_eq ((acc.drop (p + 1)).map (Value.int .i64))
            have HCS : Hid (cs = (acc.drop (p + 1)).map (Value.int .i64)) := hcs
            have hcsl : cs.length = k - (p + 1) := by rw [hcs, List.length_map, List.length_drop, HL.out]
            have HSRC : Hid (∀ j v, cs[j]? = some v → w4.cell? ((⟨g, (p + 1), none⟩ : Addr).add j) = some v) := fun j v hj => by
              have hjl : j < cs.length := (List.getElem?_eq_some_iff.1 hj).1
              rw [add_at, cell_of_heap HG4.out]
              rw [HCS.out, List.getElem?_map, List.getElem?_drop] at hj
              have h2 : (cur.take (acc.length + 1))[(p + 1) + j]? = some v := by
                rw [HTK.out, List.getElem?_map, List.getElem?_append_left (by rw [HL.out]; omega)]; exact hj
              rw [List.getElem?_take_of_lt (by rw [HL.out]; omega)] at h2
              simpa using h2
            have HONE : Hid (∀ v ∈ cs, v.oneCell' = true) := fun v hv => by
              rw [HCS.out] at hv
              simp only [List.mem_map] at hv
              obtain ⟨z, _, rfl⟩ := hv
              rfl
            clear hcs
            have j1 : (0 : Int) ≤ ((p : Int) + 1) + 1 := by omega
            have j2 : ((p : Int) + 1) + 1 ≤ (k : Int) + 1 := by omega
            have j3 : (0 : Int) ≤ ((p : Int) + 1) := by omega
            have j4 : ((p : Int) + 1) ≤ (k : Int) + 1 := by omega
            have j5 : IntKind.i64.wrap (((p : Int) + 1) + 1) = ((p : Int) + 1) + 1 := by rw [IntKind.wrap_i64]; omega
            have j8 : ((p : Int) + 1 + 1).toNat = p + 1 + 1 := by omega
            have j9 : ((p : Int) + 1).toNat = p + 1 := by omega
            have j10 : ¬ cap4 = p + 1 := by omega
            have j6 : (k : Int) + 1 ≤ (cap4 : Int) := by omega
            have j7 : ((p : Int) + 1) ≤ (cap4 : Int) := by omega
            have HSZ : Hid ((Try.prog.info? 3).map (·.size) = some 1) := by
              show (Try.prog.info? 3).map (·.size) = some 1
              rw [hi]; simp [hz1]
            have HNN : Hid (cs.length = Nat.min (k + 1 - (p + 1)) (k - (p + 1))) := by
              show cs.length = Nat.min (k + 1 - (p + 1)) (k - (p + 1))
              rw [hcsl]; exact (Nat.min_eq_right (by omega)).symm
            have HGD : Hid (w4.drew.heap[g]? = some (.cells cur.toArray 3 (0, 0))) := HG4.out
            obtain ⟨AA, hAA⟩ : ∃ AA : Option Addr, (if cap4 = (p + 1) + 1 then some ⟨g, 0, none⟩ else some ⟨g, (p + 1) + 1, none⟩) = AA := ⟨_, rfl⟩
            have HPOS : Hid (0 < cs.length → AA = some ⟨g, (p + 1) + 1, none⟩ ∧ ∃ ad, (some ⟨g, (p + 1), none⟩ : Option Addr) = some ad ∧ ∀ j v, cs[j]? = some v → w4.drew.cell? (ad.add j) = some v) := fun h0 => ⟨by rw [← hAA]; exact if_neg (by omega), _, rfl, HSRC.out⟩
            have HFIT : Hid ((p + 1) + 1 + cs.length ≤ cur.length) := by
              show (p + 1) + 1 + cs.length ≤ cur.length
              omega
            have HBD : Hid (Below w.heap.size w w4.drew) := hb4.drew
            go_wp2_with fail
            go_region_law (refine step_copy_splice rfl (.tmp 37) (.tmp 40) 28 28 rfl 3 Try.underlying28 HSZ.out AA (some ⟨g, (p + 1), none⟩) (k - (p + 1)) (cap4 - ((p + 1) + 1)) (k + 1 - (p + 1)) (cap4 - (p + 1)) (by simp [Act.eval, Act.put]) (by simp [Act.eval, Act.put]) g ((p + 1) + 1) cur 3 HGD.out cs HNN.out HPOS.out HFIT.out HONE.out w.heap.size w HBD.out hge ?_; intro w5 HG5 hB5)
            have HC5 := cell_of_heap HG5.out (p + 1)
            have hC5 : ∃ u, w5.cell? ⟨g, (p + 1), none⟩ = some u := by
              have hl5 := length_splice cur ((p + 1) + 1) cs (by omega)
              rw [HC5]
              exact ⟨_, Array.getElem?_eq_getElem (by simp [hl5]; omega)⟩
            obtain ⟨u, hu⟩ := hC5
            have hf5 := frozen_of_heap HG5.out (p + 1)
            have dx5 := (hB5.cell (p := ⟨gl, ol + k, none⟩) hgl).trans ((hbr.cell (p := ⟨gl, ol + k, none⟩) hgl).symm.trans dx)
            have HRES : Hid ((w5.setCell ⟨g, (p + 1), none⟩ (.int .i64 x)).ownsRow w.heap.size 3 1 (.slice (some ⟨g, 0, none⟩) (k + 1) cap4) (srt [] (xs.take (k + 1))).length ((srt [] (xs.take (k + 1))).map (Value.int .i64))) := by
              have hl5 := length_splice cur ((p + 1) + 1) cs (by omega)
              have hh := heap_setCell_same w5 g (p + 1) _ _ (.int .i64 x) HG5.out
              have hlen1 : (srt [] (xs.take (k + 1))).length = k + 1 := by rw [HX.out, ins_len, HL.out]
              refine ⟨by simp, Or.inr ⟨g, cap4, _, by rw [hlen1], hge, hh, by rw [hlen1]; exact hc1, hc2, by simp [hl5, hcl], ?_⟩⟩
              rw [hlen1, Nat.mul_one, HX.out, HIX.out, ← HL.out]
              have := spl_list (x := x) (m := (p + 1)) (cur := cur) (by rw [HL.out]; omega) (by rw [HL.out]; omega) HTK.out
              rw [← this, HCS.out]
              simp
            have hb6 : Below w.heap.size w (w5.setCell ⟨g, (p + 1), none⟩ (.int .i64 x)) := hB5.setCell (p := ⟨g, (p + 1), none⟩) hge _
            clear HC5 HG4 HG5 HTK HCS HSRC HONE
            go_wp2
            go_roundg (N - (k + 1))
            case measure => omega
            case rel => exact ⟨k + 1, by omega, Nat.le_refl _, by go_num, HRES, hb6⟩
    · obtain rfl : k = N := by omega
      rw [HN.out, List.take_length] at hown
      go_wp2
      go_ret
      exact ⟨_, rfl, hown.out, hbr⟩
end Go.Proofs.Ytlebimolgienkaa
namespace Go.Proofs.Ytlebimolgienkaa
open Go.RowKit Go.Lib

set_option maxHeartbeats 1000000 in
theorem in_any (a : Option Addr) (cap : Nat) (xs : List Int) (x : Int) (w : World) (hN : xs.length ≤ 1000000) (h : IAt w a xs) :
    Calls Try.prog 44 #[.slice a xs.length cap, .int .i64 x] w fun e w' => e = .returned (.bool (decide (x ∈ xs))) ∧ w' = w := by
  have H1 : Hid (IAt w a xs) := h
  obtain ⟨r, hr⟩ := ex_eq (decide (x ∈ xs))
  have HR : Hid (r = true ↔ x ∈ xs) := by
    show r = true ↔ x ∈ xs
    rw [hr, decide_eq_true_eq]
  rw [← hr]
  obtain ⟨N, hNe⟩ := ex_eq xs.length
  have HN : Hid (N = xs.length) := hNe
  rw [← hNe] at hN ⊢
  clear h hr hNe
  go_enter Try.func44, Try.ntmps44
  go_wp2
  go_loopw [5] (fun i wr => ∃ k : Nat, k ≤ N ∧ i = .int .i64 k ∧ Hid (x ∉ xs.take k) ∧ wr = w) (fun i _ => N - (RowKit.intOf i).toNat)
  case atStart => exact ⟨0, Nat.zero_le _, rfl, (by simp : x ∉ xs.take 0), rfl⟩
  case round =>
    obtain ⟨k, hk, rfl, hno, hw⟩ := hrel
    subst hw
    by_cases hlt : k < N
    · have hkr : k < xs.length := by rw [← HN.out]; exact hlt
      obtain ⟨g, off, rfl, hg, hc⟩ := H1.out (by omega)
      have d := hc k hkr
      obtain ⟨y, hy⟩ := ex_eq xs[k]
      rw [← hy] at d
      have HY : Hid (y = xs[k]) := hy
      have q1 : (k : Int) < (N : Int) := by omega
      clear hc hy
      by_cases hyx : y = x
      · obtain rfl : r = true := HR.out.2 (by rw [← hyx, HY.out]; exact List.getElem_mem _)
        subst hyx
        clear HR
        go_wp2
        go_ret
        exact ⟨rfl, rfl⟩
      · have hq : (y == x) = false := beq_eq_false_iff_ne.2 hyx
        have HNX : Hid (x ∉ xs.take (k + 1)) := by
          show x ∉ xs.take (k + 1)
          rw [List.take_succ_eq_append_getElem hkr, List.mem_append]
          rintro (h | h)
          · exact hno.out h
          · simp at h; exact hyx (by rw [HY.out]; exact h.symm)
        clear hyx
        go_wp2
        go_roundw
        case rel => exact ⟨k + 1, by omega, by go_num, HNX, by first | rfl | trivial⟩
        case measure => simp [RowKit.intOf]; omega
    · obtain rfl : k = N := by omega
      obtain rfl : r = false := b_false HR.out (fun h => hno.out (by rw [HN.out, List.take_length]; exact h))
      clear HR
      go_wp2
      go_ret
      exact ⟨rfl, rfl⟩
end Go.Proofs.Ytlebimolgienkaa
namespace Go.Proofs.Ytlebimolgienkaa
open Go.RowKit Go.Lib

theorem Try.info28 : (Try.prog.info? 28).map (fun i => (i.zero, i.size, i.bytes)) = some (some (.slice none 0 0), 1, 24) := by kernel_rfl

/-- The rows tell the pairs of the edges so far. -/
def RInv (n : Nat) (l : List (Int × Int)) (R : Nat → List Int) : Prop := ∀ v, v < n → (R v).Nodup ∧ (R v).length ≤ l.length ∧ ∀ x, x ∈ R v ↔ ((v : Int), x) ∈ prs l
theorem rinv_nil (n : Nat) : RInv n [] (fun _ => []) := fun v _ => ⟨List.nodup_nil, Nat.le_refl _, fun x => by simp [prs_nil]⟩
theorem rinv_skip {n : Nat} {l : List (Int × Int)} {R : Nat → List Int} {e : Int × Int} (h : RInv n l R) (he : e.1 = e.2) : RInv n (l ++ [e]) R := fun v hv => by
  obtain ⟨h1, h2, h3⟩ := h v hv
  exact ⟨h1, by simp; omega, fun x => by rw [prs_snoc, prs_same he, List.append_nil]; exact h3 x⟩
theorem rinv_has {n lo : Nat} {l : List (Int × Int)} {R : Nat → List Int} {e : Int × Int} (h : RInv n l R) (he : e.1 ≠ e.2) (hlo : (lo : Int) = min e.1 e.2) (hn : lo < n) (hm : max e.1 e.2 ∈ R lo) : RInv n (l ++ [e]) R := fun v hv => by
  obtain ⟨h1, h2, h3⟩ := h v hv
  refine ⟨h1, by simp; omega, fun x => ?_⟩
  rw [prs_snoc, prs_one he, List.mem_append, h3 x, List.mem_singleton]
  refine ⟨Or.inl, fun hx => hx.elim id fun hx => ?_⟩
  rw [hx, ← hlo]
  exact ((h lo hn).2.2 _).1 hm
theorem rinv_put {n lo : Nat} {l : List (Int × Int)} {R : Nat → List Int} {e : Int × Int} (h : RInv n l R) (he : e.1 ≠ e.2) (hlo : (lo : Int) = min e.1 e.2) (hn : lo < n) (hm : max e.1 e.2 ∉ R lo) : RInv n (l ++ [e]) (fun j => if j = lo then R lo ++ [max e.1 e.2] else R j) := fun v hv => by
  show (if v = lo then _ else _ : List Int).Nodup ∧ (if v = lo then _ else _ : List Int).length ≤ _ ∧ ∀ x, x ∈ (if v = lo then _ else _ : List Int) ↔ _
  by_cases e1 : v = lo
  · subst e1
    obtain ⟨h1, h2, h3⟩ := h v hv
    rw [if_pos rfl]
    refine ⟨?_, by simp; omega, fun x => ?_⟩
    · rw [List.nodup_append]
      refine ⟨h1, by simp, fun a ha b hb => ?_⟩
      simp at hb
      subst hb
      intro hab
      subst hab
      exact hm ha
    · rw [prs_snoc, prs_one he, List.mem_append, List.mem_append, h3 x, List.mem_singleton, List.mem_singleton, ← hlo]
      simp
  · obtain ⟨h1, h2, h3⟩ := h v hv
    rw [if_neg e1]
    refine ⟨h1, by simp; omega, fun x => ?_⟩
    rw [prs_snoc, prs_one he, List.mem_append, h3 x, List.mem_singleton, ← hlo]
    refine ⟨Or.inl, fun hx => hx.elim id fun hx => ?_⟩
    simp only [Prod.mk.injEq] at hx
    exact absurd (by omega) e1

/-- The edges out of the rows. -/
def ER (v : Nat) (R : Nat → List Int) : List (Int × Int) := (srt [] (R v)).map (fun x => ((v : Int), x))
def ES (n : Nat) (R : Nat → List Int) : List (Int × Int) := (List.range n).flatMap (fun v => ER v R)
theorem es_succ (n : Nat) (R : Nat → List Int) : ES (n + 1) R = ES n R ++ ER n R := by simp [ES, List.range_succ]
theorem er_len (v : Nat) (R : Nat → List Int) : (ER v R).length = (srt [] (R v)).length := by simp [ER]
theorem es_mem {n : Nat} {R : Nat → List Int} {e : Int × Int} : e ∈ ES n R ↔ ∃ v, v < n ∧ e.1 = (v : Int) ∧ e.2 ∈ R v := by
  unfold ES ER
  simp only [List.mem_flatMap, List.mem_range, List.mem_map]
  constructor
  · rintro ⟨v, hv, x, hx, rfl⟩
    exact ⟨v, hv, rfl, by simpa [srt_mem] using hx⟩
  · rintro ⟨v, hv, h1, h2⟩
    exact ⟨v, hv, e.2, by simpa [srt_mem] using h2, by rw [← h1]⟩
theorem up_strict {xs : List Int} (h : Up xs) (hn : xs.Nodup) : xs.Pairwise (· < ·) := by
  unfold Up at h
  have := h.and hn
  exact this.imp (fun ⟨h1, h2⟩ => by omega)
theorem ins_nodup {x : Int} {ys : List Int} (h : ys.Nodup) (hx : x ∉ ys) : (ins x ys).Nodup := by
  induction ys with
  | nil => simp [ins]
  | cons y ys ih =>
    rw [List.nodup_cons] at h
    simp only [List.mem_cons, not_or] at hx
    unfold ins
    split
    · rw [List.nodup_cons]
      refine ⟨fun hm => ?_, ih h.2 hx.2⟩
      rcases ins_mem.1 hm with hm | hm
      · exact hx.1 hm.symm
      · exact h.1 hm
    · rw [List.nodup_cons, List.nodup_cons]
      exact ⟨by simp [hx.1, hx.2], h⟩
theorem srt_nodup {acc xs : List Int} (h : (acc ++ xs).Nodup) : (srt acc xs).Nodup := by
  induction xs generalizing acc with
  | nil => simpa [srt] using h
  | cons y xs ih =>
    rw [List.nodup_append] at h
    obtain ⟨h1, h2, h3⟩ := h
    rw [List.nodup_cons] at h2
    refine ih ?_
    rw [List.nodup_append]
    refine ⟨ins_nodup h1 (fun hy => h3 y hy y (by simp) rfl), h2.2, fun a ha b hb => ?_⟩
    rcases ins_mem.1 ha with rfl | ha
    · intro e; subst e; exact h2.1 hb
    · exact h3 a ha b (by simp [hb])
theorem es_rises {n : Nat} {R : Nat → List Int} (h : ∀ v, v < n → (R v).Nodup) : Rises (ES n R) := by
  induction n with
  | zero => exact rises_nil
  | succ n ih =>
    rw [es_succ]
    unfold Rises
    rw [List.pairwise_append]
    refine ⟨ih (fun v hv => h v (by omega)), ?_, fun a ha b hb => ?_⟩
    · unfold ER
      rw [List.pairwise_map]
      refine (up_strict (srt_up (by unfold Up; simp)) (srt_nodup (by simpa using h n (by omega)))).imp (fun {a b} hab => ?_)
      rw [ltE_iff]; exact Or.inr ⟨rfl, hab⟩
    · obtain ⟨v, hv, h1, _⟩ := es_mem.1 ha
      unfold ER at hb
      obtain ⟨x, _, rfl⟩ := List.mem_map.1 hb
      rw [ltE_iff, h1]; exact Or.inl (by simpa using hv)
theorem es_norm {n : Nat} {l : List (Int × Int)} {R : Nat → List Int} (h : RInv n l R) (hl : AllIn n l) : IsNorm l (ES n R) := by
  refine ⟨es_rises (fun v hv => (h v hv).1), fun e => ?_⟩
  rw [es_mem]
  constructor
  · rintro ⟨v, hv, h1, h2⟩
    have := ((h v hv).2.2 e.2).1 h2
    rwa [← h1] at this
  · intro he
    obtain ⟨d, hd, hne, rfl⟩ := mem_prs.1 he
    have hd' := hl d hd
    refine ⟨(min d.1 d.2).toNat, by omega, by simp; omega, ?_⟩
    refine ((h _ (by omega)).2.2 _).2 ?_
    rwa [show ((min d.1 d.2).toNat : Int) = min d.1 d.2 by omega]
theorem es_le {n a : Nat} (R : Nat → List Int) (h : a ≤ n) : (ES a R).length ≤ (ES n R).length := by
  induction n with
  | zero => obtain rfl : a = 0 := by omega
            exact Nat.le_refl _
  | succ n ih =>
    by_cases e : a = n + 1
    · subst e; exact Nat.le_refl _
    · rw [es_succ, List.length_append]
      have := ih (by omega); omega
/-- Part of a row's edges. -/
theorem er_take {v : Nat} {R : Nat → List Int} {i : Nat} (h : i < (srt [] (R v)).length) : (ER v R).take (i + 1) = (ER v R).take i ++ [((v : Int), (srt [] (R v))[i])] := by
  rw [List.take_succ_eq_append_getElem (by rw [er_len]; exact h)]
  simp [ER]

/-- The rows in memory, each in a block of its own. -/
structure UpAt (w : World) (g base n : Nat) (u : Nat → Value) (R : Nat → List Int) : Prop where
  lt : g < base
  bs : base ≤ w.heap.size
  row : w.rowIs g 28 n u
  own : ∀ v, v < n → w.ownsRow base 3 1 (u v) (R v).length ((R v).map (Value.int .i64))
  apart : ∀ v v', v < n → v' < n → v ≠ v' → (u v).ownBlock = none ∨ (u v).ownBlock ≠ (u v').ownBlock
theorem own_set {w : World} {base e size n : Nat} {v : Value} {xs : List Value} {p : Addr} (h : w.ownsRow base e size v n xs) (hp : p.block < base) (x : Value) : (w.setCell p x).ownsRow base e size v n xs := by
  refine ⟨h.1, ?_⟩
  rcases h.2 with hn | ⟨g, cap, cur, rfl, hb, hgg, rest⟩
  · exact .inl hn
  · exact .inr ⟨g, cap, cur, rfl, hb, by rw [Deep.blk_setCell_other _ _ _ _ (by omega)]; exact hgg, rest⟩
theorem UpAt.below {w w' : World} {g base n : Nat} {u : Nat → Value} {R : Nat → List Int} (h : UpAt w g base n u R) (hb : Below w.heap.size w w') : UpAt w' g base n u R :=
  ⟨h.lt, Nat.le_trans h.bs hb.size, h.row.of_block (hb.block _ h.row.lt), fun v hv => own_below (h.own v hv) hb, h.apart⟩
theorem UpAt.put {w w4 : World} {g base n lo : Nat} {u : Nat → Value} {R : Nat → List Int} {x : Int} {o : Obj} {g' cap' : Nat} {v' : Value} (h : UpAt w g base n u R) (hlo : lo < n) (hv' : v' = .slice (some ⟨g', 0, none⟩) ((R lo).length + 1) cap')
    (hown : w4.ownsRow base 3 1 v' ((R lo).length + 1) ((R lo).map (Value.int .i64) ++ [.int .i64 x])) (hg : (w.alloc o).grownBy w4 (u lo).ownBlock) (hat : (u lo).ownBlock = some g' ∨ g' = w.heap.size + 1) :
    UpAt (w4.setCell ⟨g, lo, none⟩ v') g base n (fun j => if j = lo then v' else u j) (fun j => if j = lo then R lo ++ [x] else R j) := by
  have hs : (w.alloc o).heap.size = w.heap.size + 1 := by simp
  have hlt := h.lt
  have hbs := h.bs
  have hgl := h.row.lt
  have hob : v'.ownBlock = some g' := by rw [hv']; rfl
  have hub : ∀ j, j < n → ∀ b, (u j).ownBlock = some b → base ≤ b ∧ b < w.heap.size := fun j hj b hb => (h.own j hj).lt b hb
  have hne : some g ≠ (u lo).ownBlock := fun e => by
    have := (hub lo hlo g e.symm).1
    omega
  refine ⟨h.lt, ?_, ?_, fun v hv => ?_, fun v v2 hv hv2 hvv => ?_⟩
  · have h1 := hg.size
    have h2 : (w4.setCell ⟨g, lo, none⟩ v').heap.size = w4.heap.size := by simp
    omega
  · refine (((h.row.alloc o).of_block (hg.block g (by omega) hne)).set lo v').congr (fun i _ => rfl)
  · refine own_set ?_ (by simpa using hlt) _
    show w4.ownsRow base 3 1 (if v = lo then v' else u v) (if v = lo then R lo ++ [x] else R v).length ((if v = lo then R lo ++ [x] else R v).map (Value.int .i64))
    by_cases e : v = lo
    · subst e
      rw [if_pos rfl, if_pos rfl]
      simpa using hown
    · rw [if_neg e, if_neg e]
      exact ((h.own v hv).alloc o).kept hg (h.apart v lo hv hlo e)
  · show (if v = lo then v' else u v : Value).ownBlock = none ∨ (if v = lo then v' else u v : Value).ownBlock ≠ (if v2 = lo then v' else u v2 : Value).ownBlock
    by_cases e : v = lo
    · subst e
      rw [if_pos rfl, if_neg (fun e => hvv e.symm), hob]
      right
      rcases hat with hat | hat
      · rcases h.apart v v2 hv hv2 hvv with h1 | h1
        · rw [hat] at h1; cases h1
        · rw [← hat]; exact h1
      · intro e
        have := (hub v2 hv2 g' e.symm).2
        omega
    · rw [if_neg e]
      by_cases e2 : v2 = lo
      · subst e2
        rw [if_pos rfl, hob]
        rcases hat with hat | hat
        · rw [← hat]; exact h.apart v v2 hv hv2 hvv
        · right
          intro e3
          have := (hub v hv g' e3).2
          omega
      · rw [if_neg e2]; exact h.apart v v2 hv hv2 hvv
theorem up_made (w : World) (n : Nat) : UpAt (w.alloc (.cells (madeCells #[.slice none 0 0] n) 28)) w.heap.size (w.heap.size + 1) n (fun _ => .slice none 0 0) (fun _ => []) :=
  ⟨by omega, by simp, World.rowIs_made _ _ _ _, fun v _ => World.ownsRow_nil _ _ _ _, fun _ _ _ _ _ => Or.inl rfl⟩
theorem UpAt.iat {w : World} {g base n : Nat} {u : Nat → Value} {R : Nat → List Int} (h : UpAt w g base n u R) {v : Nat} (hv : v < n) : ∃ a cap, u v = .slice a (R v).length cap ∧ IAt w a (R v) := iat_own (h.own v hv)

/-- A graph's edges are put behind each other in its variable; a row of numbers lies elsewhere. -/
structure GAcc (w : World) (B : Nat) (m : Int) (sv : Value) (es : List (Int × Int)) (a5 : Option Addr) (S : List Int) : Prop where
  box : w.heap[B]? = some (.cells #[.int .i64 m, sv] 26 (0, 0))
  own : w.ownsRow (B + 1) 56 2 sv es.length (cellsE es)
  row : IAt w a5 S
  far : ∀ g off, 0 < S.length → a5 = some ⟨g, off, none⟩ → B < g ∧ ∀ b, sv.ownBlock = some b → b ≠ g
theorem box_put {w : World} {b : Nat} {x y v : Value} {T : TypeId} (h : w.heap[b]? = some (.cells #[x, y] T (0, 0))) : (w.setCell ⟨b, 1, none⟩ v).heap[b]? = some (.cells #[x, v] T (0, 0)) := by
  rw [heap_setCell_same w b 1 _ _ v h]; rfl
theorem GAcc.keep {w w4 : World} {B : Nat} {m : Int} {sv : Value} {es : List (Int × Int)} {a5 : Option Addr} {S : List Int} {o : Obj} (h : GAcc w B m sv es a5 S) (hg : (w.drew.alloc o).grownBy w4 sv.ownBlock) :
    w4.heap[B]? = some (.cells #[.int .i64 m, sv] 26 (0, 0)) := by
  have hB : B < w.heap.size := (Array.getElem?_eq_some_iff.1 h.box).1
  rw [hg.block B (by simp; omega) (fun e => by have := (h.own.lt B e.symm).1; omega), Below.heap_alloc w.drew _ _ hB]
  exact h.box
theorem GAcc.put {w w4 : World} {B g' cap' : Nat} {m p q : Int} {sv sv' : Value} {es : List (Int × Int)} {a5 : Option Addr} {S : List Int} {o : Obj} (h : GAcc w B m sv es a5 S) (hg : (w.drew.alloc o).grownBy w4 sv.ownBlock) (hsv : sv' = .slice (some ⟨g', 0, none⟩) (es.length + 1) cap')
    (hown : w4.ownsRow (B + 1) 56 2 sv' (es.length + 1) (cellsE es ++ [.int .i64 p, .int .i64 q])) (hat : sv.ownBlock = some g' ∨ g' = w.heap.size + 1) : GAcc (w4.setCell ⟨B, 1, none⟩ sv') B m sv' (es ++ [(p, q)]) a5 S := by
  have hs : (w.drew.alloc o).heap.size = w.heap.size + 1 := by simp
  refine ⟨box_put (h.keep hg), ?_, fun h0 => ?_, fun g off h0 ha => ⟨(h.far g off h0 ha).1, fun b hb => ?_⟩⟩
  · refine own_set ?_ (by simp) _
    rw [cellsE_append, List.length_append]
    exact hown
  · obtain ⟨g, off, ha, hlt, hc⟩ := h.row h0
    obtain ⟨h1, h2⟩ := h.far g off h0 ha
    refine ⟨g, off, ha, ?_, fun j hj => ?_⟩
    · have := hg.size
      have h3 : (w4.setCell ⟨B, 1, none⟩ sv').heap.size = w4.heap.size := by simp
      omega
    · rw [World.cell?_setCell_other _ _ _ _ (by first | (simp; done) | (simp; omega)), hg.cell_far _ (by first | (simp; done) | (simp; omega)) (fun e => h2 g e.symm rfl)]
      exact cell_alloc_old (w := w.drew) (hc j hj) _
  · obtain ⟨g1, off1, ha1, hlt, _⟩ := h.row h0
    rw [ha] at ha1
    simp only [Option.some.injEq, Addr.mk.injEq, and_true] at ha1
    rw [hsv] at hb
    simp only [Value.ownBlock, Option.some.injEq] at hb
    rcases hat with hat | hat
    · rw [← hb]; exact (h.far g off h0 ha).2 g' hat
    · omega
theorem GAcc.below {w w' : World} {B : Nat} {m : Int} {sv : Value} {es : List (Int × Int)} {a5 : Option Addr} {S : List Int} (h : GAcc w B m sv es a5 S) (hb : Below w.heap.size w w') {a6 : Option Addr} {S' : List Int} (h6 : IAt w' a6 S') (hn : ∀ g off, a6 = some ⟨g, off, none⟩ → w.heap.size ≤ g) : GAcc w' B m sv es a6 S' := by
  have hB : B < w.heap.size := (Array.getElem?_eq_some_iff.1 h.box).1
  exact ⟨(hb.block B hB).trans h.box, own_below h.own hb, h6, fun g off _ ha => ⟨by have := hn g off ha; omega, fun b hb' => by have := hn g off ha; have := (h.own.lt b hb').2; omega⟩⟩
end Go.Proofs.Ytlebimolgienkaa
