/-
  carcanetlaw04.PartComponents answers true, for any part that keeps the contracts.
-/
import Derived.Test.YthakjmfjbibbjaaB10
import Derived.Test.YthakjmfjbibbjaaB12
import Derived.Test.YthakjmfjbibbjaaB02
import Derived.Test.YthakjmfjbibbjaaB01
namespace Go.Proofs.Ythakjmfjbibbjaa
open Go.RowKit Go.Lib

theorem comps_bound (n : Nat) (f : Nat → Nat) (b : Bool) : (if b = true then classesF n f else []).length ≤ n ∧ ∀ L ∈ (if b = true then classesF n f else []), L.length ≤ n := by
  cases b with
  | false => exact ⟨by simp, fun L hL => absurd hL (by simp)⟩
  | true =>
    rw [if_pos rfl]
    unfold classesF
    refine ⟨by rw [List.length_map]; exact reps_len n f, fun L hL => ?_⟩
    obtain ⟨i, _, rfl⟩ := List.mem_map.1 hL
    exact class_len n f i
set_option maxHeartbeats 4000000 in
set_option maxRecDepth 100000 in
theorem partComps_law {PA : World → Addr → Nat → (Nat → Nat) → (Nat → Prop) → Prop} (O : PartOps PA) (n : Int) (a : Option Addr) (len cap : Nat) (l : List (Int × Int)) (w : World) (hl : len = l.length) (hc : len ≤ cap) (hm : cap ≤ maxLen) (ha : a = none → cap = 0) (hE : EAt w a l) :
    Calls Try.prog 4 #[.agg #[.int .i64 n, .slice a len cap]] w fun e w' => e = .returned (.bool true) ∧ Below w.heap.size w w' := by
  have HO := hid O
  clear O
  obtain ⟨i0, hi, hz0, hz1, hz2⟩ := info_parts Try.info45
  obtain ⟨k, hk⟩ := ex_eq (min len 500)
  obtain ⟨es, hes⟩ := ex_eq (l.take k)
  have hek : es.length = k := by rw [hes, List.length_take]; omega
  have HEK : Hid (es.length = k) := hek
  have k5 : k ≤ 500 := by omega
  have kmin : min (len : Int) 500 = (k : Int) := by omega
  have kc : (k : Int) ≤ (cap : Int) := by omega
  have k0 : (0 : Int) ≤ (k : Int) := by omega
  have HE : Hid (EAt w a es) := by
    show EAt w a es
    rw [hes]; exact eat_take hE k
  have hbA : Below w.heap.size w (w.alloc (.cells #[.int .i64 n, .slice a len cap] 38)) := (Below.refl _ _).alloc (Nat.le_refl _) _
  have hsA : (w.alloc (.cells #[.int .i64 n, .slice a len cap] 38)).heap.size = w.heap.size + 1 := by simp
  have HOA : Hid ((w.alloc (.cells #[.int .i64 n, .slice a len cap] 38)).heap[w.heap.size]? = some (.cells #[.int .i64 n, .slice a len cap] 38)) := heap_alloc_new _ _
  have k9 : (k : Int) ≤ (len : Int) := by omega
  clear hes hE hl hk
  go_enter Try.func4, Try.ntmps4
  go_wp2_with fail
  refine (pshown_any HO.out _).mono ?_
  rintro e w1 ⟨rfl, hb1⟩
  rw [hsA] at hb1
  have hbw : Below w.heap.size w w1 := hbA.trans (hb1.mono (by omega))
  have o1 := (hb1.block w.heap.size (by omega)).trans HOA.out
  have hs1 := hb1.size
  rw [hsA] at hs1
  have c1 : (w1.alloc (Obj.cells #[] 45 (0, 0))).cell? ⟨w.heap.size, 1, none⟩ = some (.slice a len cap) := cell_alloc_old (cell_of_heap o1 1) _
  have HO1 : Hid (w1.heap[w.heap.size]? = some (.cells #[.int .i64 n, .slice a len cap] 38)) := o1
  have HE1 : Hid (EAt w1 a es) := HE.out.below hbw
  clear hb1 hbA hsA HOA o1 HE hek
  obtain ⟨o, ho⟩ := ex_eq (Obj.cells #[] 45 (0, 0))
  have HOE : Hid ((w1.alloc o).ownsRow w1.heap.size 45 2 (.slice (some ⟨w1.heap.size, 0, none⟩) 0 0) 0 []) := own_empty o ho
  subst ho
  have key : Hid (∀ (v' : Value) (w4 : World), w4.ownsRow w1.heap.size 45 2 v' k (cellsE es) → Below w1.heap.size w1 w4 → ∃ a' cap', v' = .slice a' k cap' ∧ Sl a' cap' k ∧ GC (w4.setCell ⟨w.heap.size, 1, none⟩ v') w.heap.size n a' k cap' es ∧ Below w.heap.size w (w4.setCell ⟨w.heap.size, 1, none⟩ v') ∧ w4.frozen? ⟨w.heap.size, 1, none⟩ = false ∧ w4.cell? ⟨w.heap.size, 1, none⟩ = some (.slice a len cap)) := fun v' w4 hown hb => by
    have o4 := (hb.block w.heap.size (by omega)).trans HO1.out
    have d0 := cell_of_heap o4 0
    have d1 := cell_of_heap o4 1
    have hown' := hown
    rw [← HEK.out] at hown
    obtain ⟨a', cap', rfl, hsl, hea⟩ := eat_own hown
    rw [HEK.out] at hsl hown'
    have hge := own_ge hown'
    rw [HEK.out]
    refine ⟨a', cap', rfl, hsl, ⟨(set_one d0 d1 _).1, (set_one d0 d1 _).2, hea.set (fun g off _ h => by have := hge g off h; simp; omega) _⟩, ?_, frozen_of_heap o4 1, d1⟩
    exact (hbw.trans (hb.mono (by omega))).setCell (by simp) _
  go_upto_region 2 with fail
  go_cut [5] from 5 to 14 (fun _ wx => ∃ a' cap', Hid (Sl a' cap' k) ∧ Hid (GC wx w.heap.size n a' k cap' es) ∧ Below w.heap.size w wx)
  case first =>
    cases a with
    | none =>
      obtain rfl := ha rfl
      obtain rfl : len = 0 := by omega
      obtain rfl : k = 0 := by simp at k9; omega
      obtain rfl : es = [] := List.eq_nil_of_length_eq_zero HEK.out
      clear ha kmin kc k0 k5 hc hm k9
      obtain ⟨a', cap', hv, hsl, hgc, hbb, hfr, hso⟩ := key.out _ _ HOE.out ((Below.refl _ w1).alloc (Nat.le_refl _) _)
      obtain ⟨rfl, rfl⟩ : a' = some ⟨w1.heap.size, 0, none⟩ ∧ cap' = 0 := by simp at hv; exact ⟨hv.1.symm, hv.2.symm⟩
      have HSL : Hid (Sl (some ⟨w1.heap.size, 0, none⟩) 0 0) := hsl
      have HGC := hid hgc
      have HBB := hid hbb
      clear hv hsl hgc hso hbb
      go_wp2_with (at_builtin; refine wpList_append_own_none rfl _ _ 36 rfl w1.heap.size 45 i0 2 Try.underlying36 hi _ _ _ rfl HOE.out rfl ?_)
      all_goals go_meet
      all_goals exact ⟨_, _, HSL, HGC.out, HBB.out⟩
    | some ad =>
      clear ha
      obtain ⟨cs, hcs⟩ := ex_eq (cellsE es)
      have HCS : Hid (cs = cellsE es) := hcs
      have hlen : cs.length = k * 2 := by rw [hcs, cellsE_len, HEK.out]
      clear hcs
      go_wp2_with (at_builtin; refine wpList_append_own _ rfl _ _ 36 rfl w1.heap.size 45 i0 _ 2 16 Try.underlying36 hi hz0 hz1 hz2 rfl (by decide) _ _ _ rfl HOE.out ad k cap cs rfl hlen ?c1 ?c2 ?c3 ?c4 ?c5 ?_)
      case c1 => rw [HCS.out]; exact (HE1.out.below ((Below.refl _ w1).alloc (Nat.le_refl _) _)).news
      case c2 => rw [HCS.out]; exact cellsE_one es
      case c3 => unfold maxLen; omega
      case c4 => omega
      case c5 => simp
      intro v' w4 hown4 hgrow _
      have hb4 : Below w1.heap.size w1 w4 := Below.grown ((Below.refl _ w1).alloc (Nat.le_refl _) _) hgrow (by simp) (fun j hj => (HOE.out.lt j hj).1)
      rw [HCS.out] at hown4
      obtain ⟨a', cap', rfl, hsl, hgc, hbb, hfr, hso⟩ := key.out _ _ hown4 hb4
      have HSL : Hid (Sl a' cap' k) := hsl
      have HGC := hid hgc
      have HBB := hid hbb
      clear hsl hgc hbb hown4 hgrow hb4
      go_wp2
      all_goals go_meet
      all_goals exact ⟨_, _, HSL, HGC.out, HBB.out⟩
  case rest =>
    obtain ⟨a', cap', hsl, hgc, hbx⟩ := hcut
    clear HO1 HE1 HOE key hi hz0 hz1 hz2 c1 ha
    obtain ⟨b, hb⟩ := boolR_of (RightG n es)
    have hN : es.length ≤ 1000000 := by rw [HEK.out]; omega
    obtain ⟨f, hf⟩ : ∃ f : Nat → Nat, b = true → Pt n.toNat f ∧ Tells n.toNat f (prsN es) := by
      cases b with
      | false => exact ⟨fun i => i, fun h => by cases h⟩
      | true =>
        have hR := hb.1 rfl
        obtain ⟨m, hm⟩ : ∃ m : Nat, n = m := ⟨n.toNat, by have := hR.1; omega⟩
        subst hm
        obtain ⟨f, h1, h2⟩ := tells_ex (n := m) (prsN es) (prsN_in hR)
        exact ⟨f, fun _ => ⟨h1, h2⟩⟩
    obtain ⟨LL, hLL⟩ := ex_eq (if b = true then classesF n.toNat f else [])
    have HBD : Hid (LL.length ≤ 1000 ∧ ∀ L ∈ LL, L.length ≤ 1000) := by
      show _ ∧ _
      rw [hLL]
      cases b with
      | false => exact ⟨by simp, fun L hL => absurd hL (by simp)⟩
      | true =>
        have hR := hb.1 rfl
        have h1 := comps_bound n.toNat f true
        have h2 : n.toNat ≤ 1000 := by have := hR.2.1; omega
        exact ⟨Nat.le_trans h1.1 h2, fun L hL => Nat.le_trans (h1.2 L hL) h2⟩
    have C1 : Hid (∀ W, EAt W a' es → Calls Try.prog 22 #[.agg #[.int .i64 n, .slice a' k cap']] W fun e w' => ∃ v, e = .returned v ∧ PComp W w' v LL) := fun W h => by
      rw [← HEK.out, hLL]; exact HO.out.comps n a' cap' es b f W hN h hb hf
    have C2 : Hid (∀ W, EAt W a' es → Calls Try.prog 23 #[.agg #[.int .i64 n, .slice a' k cap']] W fun e w' => ∃ v, e = .returned v ∧ LLIs W w' v LL) := fun W h => by
      rw [← HEK.out, hLL]; exact rof_any n a' cap' es b f W hN h hb hf
    have HBX := hid hbx
    have HG := hid (hgc.out.on ((Below.refl _ _).drew))
    obtain ⟨g0, g1⟩ := HG.out.cells
    clear hf hb hLL kmin kc k0 k5 hc hm k9 hgc hbx
    go_wp2_with fail
    have hS := hid2 g0 g1
    go_region_held3 (fun X => X.cell? ⟨w.heap.size, 0, none⟩ = some (.int .i64 n) ∧ X.cell? ⟨w.heap.size, 1, none⟩ = some (.slice a' k cap')) (first | exact hS | exact hS5 | exact hS6 | exact hS7)
      (first | (go_at_call 22; refine (C1.out _ HG.out.at_).mono ?_; rintro e w5 ⟨v5, rfl, a5, c5, rfl, hI5, hb5⟩; have hG5 := HG.out.on hb5; have hS5 := hG5.cells) | (go_at_call 23; refine (C2.out _ hG5.at_).mono ?_; rintro e w6 ⟨v6, rfl, ⟨us6, hL6⟩, hb6⟩; obtain ⟨a6, c6, rfl, _, hA6⟩ := hL6.at; have hG6 := hG5.on hb6; have hS6 := hG6.cells) | (go_at_call 19; refine (sameRows_any a5 a6 c5 c6 LL LL true _ (Nat.le_trans HBD.out.1 (by decide)) (fun L hL => Nat.le_trans (HBD.out.2 L hL) (by decide)) (hI5.below hb6).at hA6 ⟨fun _ => rfl, fun _ => rfl⟩).mono ?_; rintro e w7 ⟨rfl, hb7⟩; have hG7 := hG6.on hb7; have hS7 := hG7.cells))
    all_goals
      have HB7 : Hid (Below w.heap.size w w7) := ((HBX.out.drew.trans (hb5.mono HBX.out.size)).trans (hb6.mono (Nat.le_trans HBX.out.size hb5.size))).trans (hb7.mono (Nat.le_trans (Nat.le_trans HBX.out.size hb5.size) hb6.size))
      clear hI5 hb5 hG5 hS5 hL6 hb6 hA6 hG6 hS6 hb7 hG7 hS7 hS
      go_wp2
      go_ret
      exact ⟨rfl, HB7.out⟩
end Go.Proofs.Ythakjmfjbibbjaa
