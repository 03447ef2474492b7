/-
  lex.value, strings.Clone, lex.token: what each answers.
-/
import Derived.Test.YtfklgicmhbkoiaaDoorLexB
import Derived.Test.YtfklgicmhbkoiaaDoorShelf
import Derived.Lib.AtoiErrMem
import Derived.Lib.BufferMore
namespace Go.Proofs.YtfklgicmhbkoiaaDoor
open Go.RowKit Go.Lib

theorem kin_range (r : Int) : 0 ≤ kin r ∧ kin r ≤ 5 := by
  unfold kin
  repeat' split <;> omega

def isDig (b : UInt8) : Prop := 48 ≤ b.toNat ∧ b.toNat ≤ 57
theorem decFrom_dig : ∀ (l : List UInt8) (acc : Nat), (∀ b ∈ l, isDig b) → decFrom acc l = some (l.foldl (fun v b => v * 10 + (b.toNat - 48)) acc)
  | [], acc, _ => rfl
  | b :: l, acc, h => by
    have hb := h b (by simp)
    unfold decFrom digitVal
    rw [if_pos (show 48 ≤ b.toNat ∧ b.toNat ≤ 57 from hb), List.foldl_cons]
    exact decFrom_dig l _ (fun x hx => h x (by simp [hx]))
theorem atoi_dig {l : List UInt8} (h0 : l ≠ []) (h : ∀ b ∈ l, isDig b) : Lib.atoi l = some (digits l : Int) := by
  cases l with
  | nil => exact absurd rfl h0
  | cons b l =>
    have hb := h b (by simp)
    unfold isDig at hb
    have n45 : (b == 45) = false := by
      rw [beq_eq_false_iff_ne]; intro e; rw [e] at hb; simp at hb
    have n43 : (b == 43) = false := by
      rw [beq_eq_false_iff_ne]; intro e; rw [e] at hb; simp at hb
    simp only [Lib.atoi, decNat, n45, n43, decFrom_dig (b :: l) 0 h]
    rfl

set_option maxHeartbeats 400000 in
theorem value_any (s : ByteArray) (w : World) (h0 : s.data.toList ≠ []) (h9 : s.size ≤ 9) (h : ∀ b ∈ s.data.toList, isDig b) :
    Calls Tryd.prog 30 #[.string s] w fun e w' => e = .returned (.int .i64 (digits s.data.toList : Nat)) ∧ Below w.heap.size w w' := by
  have ha := atoi_dig h0 h
  go_enter Tryd.func30, Tryd.ntmps30
  go_wp2_with fail
  refine (Tryd.strconv_Atoi s _ (by omega) ha _).mono ?_
  rintro e w1 ⟨rfl, t, rfl⟩
  clear ha h
  go_wp2
  go_ret
  exact ⟨rfl, bytesWorld_below _ _ _⟩

set_option maxHeartbeats 400000 in
theorem clone_any (s : ByteArray) (w : World) (h : s.size ≤ 1000000) :
    Calls Tryd.prog 31 #[.string s] w fun e w' => e = .returned (.string s) ∧ Below w.heap.size w w' := by
  go_enter Tryd.func31, Tryd.ntmps31
  go_wp2_with fail
  refine (Tryd.stringslite_Clone s _ (by omega)).mono ?_
  rintro e w1 ⟨rfl, hb⟩
  go_wp2
  go_ret
  exact ⟨rfl, hb⟩

theorem four_cells {w : World} {b : Nat} {x y z u : Value} {T : TypeId} {fr : Nat × Nat} (h : w.heap[b]? = some (.cells #[x, y, z, u] T fr)) :
    w.cell? ⟨b, 0, none⟩ = some x ∧ w.cell? ⟨b, 1, none⟩ = some y ∧ w.cell? ⟨b, 2, none⟩ = some z ∧ w.cell? ⟨b, 3, none⟩ = some u :=
  ⟨cell_of_heap h 0, cell_of_heap h 1, cell_of_heap h 2, cell_of_heap h 3⟩
theorem four_03 {w : World} {b : Nat} {x y z u : Value} {T : TypeId} (h : w.heap[b]? = some (.cells #[x, y, z, u] T (0, 0))) (x' u' : Value) :
    ((w.setCell ⟨b, 0, none⟩ x').setCell ⟨b, 3, none⟩ u').heap[b]? = some (.cells #[x', y, z, u'] T (0, 0)) := by
  rw [Lib.heap_setCell_same (Lib.heap_setCell_same h x') u']
  rfl
theorem new_three (w : World) (o1 o2 o3 : Obj) : (((w.alloc o1).alloc o2).alloc o3).heap[w.heap.size + 1]? = some o2 ∧ (((w.alloc o1).alloc o2).alloc o3).heap[w.heap.size + 1 + 1]? = some o3 ∧ (((w.alloc o1).alloc o2).alloc o3).heap.size = w.heap.size + 1 + 1 + 1 ∧ Below w.heap.size w (((w.alloc o1).alloc o2).alloc o3) := by
  have s1 : (w.alloc o1).heap.size = w.heap.size + 1 := by simp
  have s2 : ((w.alloc o1).alloc o2).heap.size = w.heap.size + 1 + 1 := by simp
  refine ⟨?_, ?_, by simp, ?_⟩
  · rw [alloc_old _ _ _ (by omega), ← s1]; exact heap_alloc_new _ _
  · rw [← s2]; exact heap_alloc_new _ _
  · exact (((Below.refl _ _).alloc (Nat.le_refl _) _).alloc (by omega) _).alloc (by omega) _

set_option maxHeartbeats 1000000 in
set_option maxRecDepth 100000 in
theorem token_dig (r p : Nat) (s : ByteArray) (w : World) (hk : kin r = 3) (h9 : s.size ≤ 9) (h0 : s.data.toList ≠ []) (h : ∀ b ∈ s.data.toList, isDig b) :
    Calls Tryd.prog 20 #[.agg #[.int .i64 p, .int .i32 r], .string s] w fun e w' => e = .returned (.tuple #[.agg #[.int .i64 2, .int .i64 p, .string s, .int .i64 (digits s.data.toList : Nat)], .int .i64 0]) ∧ Below w.heap.size w w' := by
  have H0 : Hid (s.data.toList ≠ []) := h0
  have HD : Hid (∀ b ∈ s.data.toList, isDig b) := h
  have HK : Hid (kin r = 3) := hk
  clear h0 h hk
  go_enter Tryd.func20, Tryd.ntmps20
  go_wp2_with fail
  refine (kind_any _ _).mono ?_
  rintro e w' ⟨rfl, rfl⟩
  rw [HK.out]
  clear HK
  go_wp2_with fail
  refine (value_any s _ H0.out h9 HD.out).mono ?_
  rintro e w1 ⟨rfl, hb1⟩
  obtain ⟨n1, n2, n3, n4⟩ := new_three w _ _ _
  rw [n3] at hb1
  have B1 := (hb1.block (w.heap.size + 1) (by omega)).trans n1
  have B2 := (hb1.block (w.heap.size + 1 + 1) (by omega)).trans n2
  have hb1' : Below w.heap.size w w1 := n4.trans (hb1.mono (by omega))
  have hs1 := hb1.size
  rw [n3] at hs1
  clear hb1 n1 n2 n3 n4
  obtain ⟨dd, hdd⟩ : ∃ dd, dd = digits s.data.toList := ⟨_, rfl⟩
  rw [← hdd]
  have HDD : Hid (dd = digits s.data.toList) := hdd
  clear hdd
  obtain ⟨c0, c1, c2, c3⟩ := four_cells B2
  obtain ⟨d0, d1, d2, d3⟩ := four_cells B1
  have f0 := frozen_of_heap B2
  have g0 := frozen_of_heap B1
  have HB1 : Hid (w1.heap[w.heap.size + 1]? = some (.cells #[.int .i64 0, .int .i64 0, .string { data := #[] }, .int .i64 0] 34 (0, 0))) := B1
  have HB2 : Hid (w1.heap[w.heap.size + 1 + 1]? = some (.cells #[.int .i64 0, .int .i64 p, .string { data := #[] }, .int .i64 0] 34 (0, 0))) := B2
  clear B1 B2
  go_wp2_with fail
  refine (clone_any s _ (by omega)).mono ?_
  rintro e w2 ⟨rfl, hb2⟩
  have B1' : w2.heap[w.heap.size + 1]? = some (.cells #[.int .i64 0, .int .i64 0, .string { data := #[] }, .int .i64 0] 34 (0, 0)) := by rw [hb2.block _ (by simp; omega), Below.heap_setCell _ _ _ _ (by simp), Below.heap_setCell _ _ _ _ (by simp)]; exact HB1.out
  have B2' : w2.heap[w.heap.size + 1 + 1]? = some (.cells #[.int .i64 2, .int .i64 p, .string { data := #[] }, .int .i64 dd] 34 (0, 0)) := by rw [hb2.block _ (by simp; omega)]; exact four_03 HB2.out _ _
  have hb : Below w.heap.size w w2 := hb1'.trans (((Below.refl _ _).setCell (p := ⟨w.heap.size + 1 + 1, 0, none⟩) (by simp; omega) _).setCell (p := ⟨w.heap.size + 1 + 1, 3, none⟩) (by simp; omega) _ |>.trans (hb2.mono (by simp; omega)))
  clear hb2 c0 c1 c2 c3 d0 d1 d2 d3 f0 g0
  obtain ⟨c0, c1, c2, c3⟩ := four_cells B2'
  obtain ⟨d0, d1, d2, d3⟩ := four_cells B1'
  have f0 := frozen_of_heap B2'
  have g0 := frozen_of_heap B1'
  clear B1' B2'
  go_wp2
  try simp only [Exit.inBlock, Exit.then]
  refine bodyPost_ret (v := .tuple #[.agg #[.int .i64 2, .int .i64 p, .string s, .int .i64 dd], .int .i64 0]) ?_ rfl ⟨by rw [HDD.out], ?_⟩
  · rw [results_cell_tmp rfl]
    go_simp
  · repeat' (first | exact hb | refine Below.setCell ?_ (by simp <;> omega) _)

set_option maxHeartbeats 1000000 in
set_option maxRecDepth 100000 in
theorem token_word (r p : Nat) (s : ByteArray) (w : World) (hk : kin r = 4) (h32 : s.size ≤ 32) :
    Calls Tryd.prog 20 #[.agg #[.int .i64 p, .int .i32 r], .string s] w fun e w' => e = .returned (.tuple #[.agg #[.int .i64 1, .int .i64 p, .string s, .int .i64 0], .int .i64 0]) ∧ Below w.heap.size w w' := by
  have HK : Hid (kin r = 4) := hk
  clear hk
  go_enter Tryd.func20, Tryd.ntmps20
  go_wp2_with fail
  refine (kind_any _ _).mono ?_
  rintro e w' ⟨rfl, rfl⟩
  rw [HK.out]
  clear HK
  go_wp2_with fail
  refine (clone_any s _ (by omega)).mono ?_
  rintro e w2 ⟨rfl, hb2⟩
  obtain ⟨n1, n2, n3, n4⟩ := new_three w _ _ _
  rw [n3] at hb2
  have hs1 := hb2.size
  rw [n3] at hs1
  have B1' : w2.heap[w.heap.size + 1]? = some (.cells #[.int .i64 0, .int .i64 0, .string { data := #[] }, .int .i64 0] 34 (0, 0)) := (hb2.block (w.heap.size + 1) (by omega)).trans n1
  have B2' : w2.heap[w.heap.size + 1 + 1]? = some (.cells #[.int .i64 1, .int .i64 p, .string { data := #[] }, .int .i64 0] 34 (0, 0)) := (hb2.block (w.heap.size + 1 + 1) (by omega)).trans n2
  have hb : Below w.heap.size w w2 := n4.trans (hb2.mono (by omega))
  clear hb2 n1 n2 n3 n4 hs1
  obtain ⟨c0, c1, c2, c3⟩ := four_cells B2'
  obtain ⟨d0, d1, d2, d3⟩ := four_cells B1'
  have f0 := frozen_of_heap B2'
  have g0 := frozen_of_heap B1'
  clear B1' B2'
  go_wp2
  try simp only [Exit.inBlock, Exit.then]
  refine bodyPost_ret (v := .tuple #[.agg #[.int .i64 1, .int .i64 p, .string s, .int .i64 0], .int .i64 0]) ?_ rfl ⟨rfl, ?_⟩
  · rw [results_cell_tmp rfl]
    go_simp
  · repeat' (first | exact hb | refine Below.setCell ?_ (by simp <;> omega) _)

set_option maxHeartbeats 1000000 in
set_option maxRecDepth 100000 in
theorem token_sign (r p : Nat) (s : ByteArray) (w : World) (hk : kin r = 5) (h32 : s.size ≤ 1000000) :
    Calls Tryd.prog 20 #[.agg #[.int .i64 p, .int .i32 r], .string s] w fun e w' => e = .returned (.tuple #[.agg #[.int .i64 3, .int .i64 p, .string s, .int .i64 0], .int .i64 0]) ∧ Below w.heap.size w w' := by
  have HK : Hid (kin r = 5) := hk
  clear hk
  go_enter Tryd.func20, Tryd.ntmps20
  go_wp2_with fail
  refine (kind_any _ _).mono ?_
  rintro e w' ⟨rfl, rfl⟩
  rw [HK.out]
  clear HK
  go_wp2_with fail
  refine (clone_any s _ (by omega)).mono ?_
  rintro e w2 ⟨rfl, hb2⟩
  obtain ⟨n1, n2, n3, n4⟩ := new_three w _ _ _
  rw [n3] at hb2
  have hs1 := hb2.size
  rw [n3] at hs1
  have B1' : w2.heap[w.heap.size + 1]? = some (.cells #[.int .i64 0, .int .i64 0, .string { data := #[] }, .int .i64 0] 34 (0, 0)) := (hb2.block (w.heap.size + 1) (by omega)).trans n1
  have B2' : w2.heap[w.heap.size + 1 + 1]? = some (.cells #[.int .i64 3, .int .i64 p, .string { data := #[] }, .int .i64 0] 34 (0, 0)) := (hb2.block (w.heap.size + 1 + 1) (by omega)).trans n2
  have hb : Below w.heap.size w w2 := n4.trans (hb2.mono (by omega))
  clear hb2 n1 n2 n3 n4 hs1
  obtain ⟨c0, c1, c2, c3⟩ := four_cells B2'
  obtain ⟨d0, d1, d2, d3⟩ := four_cells B1'
  have f0 := frozen_of_heap B2'
  have g0 := frozen_of_heap B1'
  clear B1' B2'
  go_wp2
  try simp only [Exit.inBlock, Exit.then]
  refine bodyPost_ret (v := .tuple #[.agg #[.int .i64 3, .int .i64 p, .string s, .int .i64 0], .int .i64 0]) ?_ rfl ⟨rfl, ?_⟩
  · rw [results_cell_tmp rfl]
    go_simp
  · repeat' (first | exact hb | refine Below.setCell ?_ (by simp <;> omega) _)

set_option maxHeartbeats 1000000 in
set_option maxRecDepth 100000 in
theorem token_line (r p : Nat) (s : ByteArray) (w : World) (hk : kin r = 2) :
    Calls Tryd.prog 20 #[.agg #[.int .i64 p, .int .i32 r], .string s] w fun e w' => e = .returned (.tuple #[.agg #[.int .i64 4, .int .i64 p, .string { data := #[] }, .int .i64 0], .int .i64 0]) ∧ Below w.heap.size w w' := by
  have HK : Hid (kin r = 2) := hk
  clear hk
  go_enter Tryd.func20, Tryd.ntmps20
  go_wp2_with fail
  refine (kind_any _ _).mono ?_
  rintro e w' ⟨rfl, rfl⟩
  rw [HK.out]
  clear HK
  go_wp2
  try simp only [Exit.inBlock, Exit.then]
  refine bodyPost_ret (v := .tuple #[.agg #[.int .i64 4, .int .i64 p, .string { data := #[] }, .int .i64 0], .int .i64 0]) ?_ rfl ⟨rfl, ?_⟩
  · rw [results_cell_tmp rfl]
    go_simp
  · repeat' (first | exact Below.refl _ _ | refine Below.alloc ?_ (by simp <;> omega) _)

set_option maxHeartbeats 1000000 in
set_option maxRecDepth 100000 in
theorem token_range (r p : Nat) (s : ByteArray) (w : World) (hk : kin r = 3) (h9 : 9 < s.size) :
    Calls Tryd.prog 20 #[.agg #[.int .i64 p, .int .i32 r], .string s] w fun e w' => e = .returned (.tuple #[.agg #[.int .i64 0, .int .i64 0, .string { data := #[] }, .int .i64 0], .int .i64 4]) ∧ Below w.heap.size w w' := by
  have HK : Hid (kin r = 3) := hk
  clear hk
  go_enter Tryd.func20, Tryd.ntmps20
  go_wp2_with fail
  refine (kind_any _ _).mono ?_
  rintro e w' ⟨rfl, rfl⟩
  rw [HK.out]
  clear HK
  go_wp2
  try simp only [Exit.inBlock, Exit.then]
  refine bodyPost_ret (v := .tuple #[.agg #[.int .i64 0, .int .i64 0, .string { data := #[] }, .int .i64 0], .int .i64 4]) ?_ rfl ⟨rfl, ?_⟩
  · rw [results_cell_tmp rfl]
    go_simp
  · repeat' (first | exact Below.refl _ _ | refine Below.alloc ?_ (by simp <;> omega) _)

set_option maxHeartbeats 1000000 in
set_option maxRecDepth 100000 in
theorem token_limit (r p : Nat) (s : ByteArray) (w : World) (hk : kin r = 4) (h32 : 32 < s.size) :
    Calls Tryd.prog 20 #[.agg #[.int .i64 p, .int .i32 r], .string s] w fun e w' => e = .returned (.tuple #[.agg #[.int .i64 0, .int .i64 0, .string { data := #[] }, .int .i64 0], .int .i64 5]) ∧ Below w.heap.size w w' := by
  have HK : Hid (kin r = 4) := hk
  clear hk
  go_enter Tryd.func20, Tryd.ntmps20
  go_wp2_with fail
  refine (kind_any _ _).mono ?_
  rintro e w' ⟨rfl, rfl⟩
  rw [HK.out]
  clear HK
  go_wp2
  try simp only [Exit.inBlock, Exit.then]
  refine bodyPost_ret (v := .tuple #[.agg #[.int .i64 0, .int .i64 0, .string { data := #[] }, .int .i64 0], .int .i64 5]) ?_ rfl ⟨rfl, ?_⟩
  · rw [results_cell_tmp rfl]
    go_simp
  · repeat' (first | exact Below.refl _ _ | refine Below.alloc ?_ (by simp <;> omega) _)

set_option maxHeartbeats 1000000 in
set_option maxRecDepth 100000 in
theorem token_none (r p : Nat) (s : ByteArray) (w : World) (hk : kin r = 0) :
    Calls Tryd.prog 20 #[.agg #[.int .i64 p, .int .i32 r], .string s] w fun e w' => e = .returned (.tuple #[.agg #[.int .i64 0, .int .i64 0, .string { data := #[] }, .int .i64 0], .int .i64 3]) ∧ Below w.heap.size w w' := by
  have HK : Hid (kin r = 0) := hk
  clear hk
  go_enter Tryd.func20, Tryd.ntmps20
  go_wp2_with fail
  refine (kind_any _ _).mono ?_
  rintro e w' ⟨rfl, rfl⟩
  rw [HK.out]
  clear HK
  go_wp2
  try simp only [Exit.inBlock, Exit.then]
  refine bodyPost_ret (v := .tuple #[.agg #[.int .i64 0, .int .i64 0, .string { data := #[] }, .int .i64 0], .int .i64 3]) ?_ rfl ⟨rfl, ?_⟩
  · rw [results_cell_tmp rfl]
    go_simp
  · repeat' (first | exact Below.refl _ _ | refine Below.alloc ?_ (by simp <;> omega) _)

set_option maxHeartbeats 1000000 in
set_option maxRecDepth 100000 in
theorem token_blank (r p : Nat) (s : ByteArray) (w : World) (hk : kin r = 1) :
    Calls Tryd.prog 20 #[.agg #[.int .i64 p, .int .i32 r], .string s] w fun e w' => e = .returned (.tuple #[.agg #[.int .i64 0, .int .i64 0, .string { data := #[] }, .int .i64 0], .int .i64 3]) ∧ Below w.heap.size w w' := by
  have HK : Hid (kin r = 1) := hk
  clear hk
  go_enter Tryd.func20, Tryd.ntmps20
  go_wp2_with fail
  refine (kind_any _ _).mono ?_
  rintro e w' ⟨rfl, rfl⟩
  rw [HK.out]
  clear HK
  go_wp2
  try simp only [Exit.inBlock, Exit.then]
  refine bodyPost_ret (v := .tuple #[.agg #[.int .i64 0, .int .i64 0, .string { data := #[] }, .int .i64 0], .int .i64 3]) ?_ rfl ⟨rfl, ?_⟩
  · rw [results_cell_tmp rfl]
    go_simp
  · repeat' (first | exact Below.refl _ _ | refine Below.alloc ?_ (by simp <;> omega) _)

/-- lex.token: what it answers of a rune, its place, and the bytes of what begins with it. -/
theorem token_any (r p : Nat) (s : ByteArray) (w : World) (hs : s.size ≤ 1000000) (h : kin r = 3 → s.data.toList ≠ [] ∧ ∀ b ∈ s.data.toList, isDig b) :
    Calls Tryd.prog 20 #[.agg #[.int .i64 p, .int .i32 r], .string s] w fun e w' => e = .returned (.tuple #[.agg #[.int .i64 (tokOf r p s.data.toList).1.kind, .int .i64 (tokOf r p s.data.toList).1.pos, .string ⟨(tokOf r p s.data.toList).1.text.toArray⟩, .int .i64 (tokOf r p s.data.toList).1.num], .int .i64 (tokOf r p s.data.toList).2]) ∧ Below w.heap.size w w' := by
  have hsz := size_data s
  have hr : s = ⟨s.data.toList.toArray⟩ := by cases s; simp
  unfold tokOf
  by_cases k2 : kin r = 2
  · rw [if_pos k2]; exact token_line r p s w k2
  rw [if_neg k2]
  by_cases k3 : kin r = 3
  · rw [if_pos k3]
    by_cases h9 : 9 < s.data.toList.length
    · rw [if_pos h9]; exact token_range r p s w k3 (by omega)
    · rw [if_neg h9, ← hr]; exact token_dig r p s w k3 (by omega) (h k3).1 (h k3).2
  rw [if_neg k3]
  by_cases k4 : kin r = 4
  · rw [if_pos k4]
    by_cases h9 : 32 < s.data.toList.length
    · rw [if_pos h9]; exact token_limit r p s w k4 (by omega)
    · rw [if_neg h9, ← hr]; exact token_word r p s w k4 (by omega)
  rw [if_neg k4]
  by_cases k5 : kin r = 5
  · rw [if_pos k5, ← hr]; exact token_sign r p s w k5 hs
  rw [if_neg k5]
  have h01 : kin r = 0 ∨ kin r = 1 := by have := kin_range r; omega
  rcases h01 with h0 | h1
  · exact token_none r p s w h0
  · exact token_blank r p s w h1

end Go.Proofs.YtfklgicmhbkoiaaDoor
