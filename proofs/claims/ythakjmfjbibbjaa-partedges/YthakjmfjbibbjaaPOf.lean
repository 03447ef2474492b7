/-
  The program's Of of layer 4, and all its calls together.
-/
import Derived.Test.YthakjmfjbibbjaaB13
namespace Go.Proofs.Ythakjmfjbibbjaa
open Go.RowKit Go.Lib

theorem prsN_take {es : List (Int × Int)} {k : Nat} (hk : k < es.length) : prsN (es.take (k + 1)) = prsN (es.take k) ++ [(es[k].1.toNat, es[k].2.toNat)] := by
  unfold prsN
  rw [List.take_succ_eq_append_getElem hk, List.map_append]
  rfl
theorem pairsIn_take {n : Nat} {es : List (Int × Int)} (h : PairsIn n (prsN es)) (k : Nat) : PairsIn n (prsN (es.take k)) := fun e he => h e (by
  unfold prsN at *
  rw [List.map_take] at he
  exact List.mem_of_mem_take he)
/-- The part so far. -/
def Joined (w : World) (p : Addr) (n B : Nat) (es : List (Int × Int)) : Prop := ∃ f S, PAp w p n f S ∧ Tells n f (prsN es) ∧ ∀ k, S k → B ≤ k
theorem joined_step {u w w' : World} {p : Addr} {n B k : Nat} {es : List (Int × Int)} {f : Nat → Nat} {S : Nat → Prop} {x y : Nat} (hN : PNext PAp S w w' p n (joinR n f x y)) (hT : Tells n f (prsN (es.take k))) (hin : PairsIn n (prsN es)) (hk : k < es.length) (h1 : (x : Int) = es[k].1) (h2 : (y : Int) = es[k].2) (hx : x < n) (hy : y < n) (hS : ∀ k, S k → B ≤ k) (hB : B ≤ w.heap.size) (hb : Below B u w) :
    Joined w' p n B (es.take (k + 1)) ∧ Below B u w' := by
  obtain ⟨S', hp, hs, hk2⟩ := hN
  have hJ : joinR n f (x : Int) (y : Int) = joinF f x y := by
    unfold joinR
    rw [if_pos ⟨by omega, by omega⟩, Int.toNat_natCast, Int.toNat_natCast]
  rw [hJ] at hp
  refine ⟨⟨_, S', hp, ?_, fun k hk => (hs k hk).elim (hS k) (fun e => by omega)⟩, hb.trans (hk2.below hB (fun k _ e => hS k e))⟩
  rw [prsN_take hk, ← h1, ← h2, Int.toNat_natCast, Int.toNat_natCast]
  exact tells_join hT (pairsIn_take hin k) hx hy

set_option maxHeartbeats 1000000 in
set_option maxRecDepth 100000 in
theorem joinAll_any (p : Addr) (n B : Nat) (a : Option Addr) (N cap : Nat) (es : List (Int × Int)) (w : World) (hN : N = es.length) (hR : RightG n es) (hE : ∀ W, Below B w W → EAt W a es) (hB : B ≤ w.heap.size) (hJ : Joined w p n B []) :
    Calls Try.prog 39 #[.slice a N cap, .func (.func 15) #[.pointer (some p)] #[]] w fun e w' => e = .returned (.tuple #[]) ∧ Joined w' p n B es ∧ Below B w w' := by
  have HN := hid hN
  have HR := hid hR
  have HE := hid hE
  have hNN : N ≤ 4000 := by have := hR.2.2.1; omega
  have H0 : Hid (Joined w p n B (es.take 0)) := by rw [List.take_zero]; exact hJ
  have HJ : Hid (∀ W f S (x y : Int) (r : Bool), PAp W p n f S → (r = true ↔ joinI n f x y) → Calls Try.prog 15 #[.pointer (some p), .int .i64 x, .int .i64 y] W fun e w' => e = .returned (.bool r) ∧ PNext PAp S W w' p n (joinR n f x y)) := fun W f S x y r h hr => pjoin_any W p n f S x y r h hr
  clear hN hR hE hJ
  go_enter Try.func39, Try.ntmps39
  go_wp2
  go_loopg [8] N (fun G i wz => ∃ k : Nat, k ≤ N ∧ N - k ≤ G ∧ i = .int .i64 k ∧ Hid (Joined wz p n B (es.take k)) ∧ Hid (Below B w wz))
  case atStart => exact ⟨0, Nat.zero_le _, by omega, rfl, H0, Below.refl _ _⟩
  case round =>
    obtain ⟨k, hk, hG, rfl, hJ, hb⟩ := hrel
    by_cases hlt : k < N
    · have hkr : k < es.length := by rw [← HN.out]; exact hlt
      obtain ⟨g, off, rfl, hg, hcs⟩ := HE.out wr hb.out (by omega)
      have hin := (HR.out.at k hkr).1
      obtain ⟨x, hx⟩ : ∃ x : Nat, (x : Int) = es[k].1 := ⟨es[k].1.toNat, by omega⟩
      obtain ⟨y, hy⟩ : ∃ y : Nat, (y : Int) = es[k].2 := ⟨es[k].2.toNat, by omega⟩
      have d := hcs k hkr
      rw [← hx, ← hy] at d hin
      obtain ⟨d0, d1⟩ := d
      have q1 : (k : Int) < (N : Int) := by omega
      have hxn : x < n := by omega
      have hyn : y < n := by omega
      obtain ⟨W, hW⟩ := ex_eq (wr.alloc (.cells #[.int .i64 x, .int .i64 y] 45))
      have hBr : B ≤ wr.heap.size := Nat.le_trans hB hb.out.size
      have hbW : Below B w W := by rw [hW]; exact hb.out.alloc hBr _
      have hO : W.heap[wr.heap.size]? = some (.cells #[.int .i64 x, .int .i64 y] 45 (0, 0)) := by rw [hW]; exact heap_alloc_new _ _
      have e0 := cell_of_heap hO 0
      have e1 := cell_of_heap hO 1
      obtain ⟨f, S, hp, hT, hS⟩ := hJ.out
      have hpW : PAp W p n f S := by rw [hW]; exact pap_keep hp (kept_alloc wr _ (fun _ => False)) (fun _ _ e => e)
      have hBW : B ≤ W.heap.size := Nat.le_trans hB hbW.size
      obtain ⟨r, hr⟩ := boolR_of (joinI n f x y)
      have HCJ := hid (HJ.out W f S x y r hpW hr)
      have HST : Hid (∀ w', PNext PAp S W w' p n (joinR n f x y) → Joined w' p n B (es.take (k + 1)) ∧ Below B w w') := fun w' h => joined_step h hT (prsN_in HR.out) hkr hx hy hxn hyn hS hBW hbW
      have HW := hid hW
      clear hcs hx hy hin hp hT hS hpW hr hO hW hJ hb
      go_wp2_with (rw [← HW.out])
      refine HCJ.out.mono ?_
      rintro e w4 ⟨rfl, h4⟩
      have H4 := hid (HST.out w4 h4)
      clear h4 HCJ HST
      go_wp2
      go_roundg (N - (k + 1))
      case measure => omega
      case rel => exact ⟨k + 1, by omega, Nat.le_refl _, by go_num, H4.out.1, H4.out.2⟩
    · obtain rfl : k = N := by omega
      have HX : Hid (Joined wr p n B es) := by
        have := hJ.out
        rw [HN.out, List.take_length] at this
        exact this
      clear hJ
      go_wp2
      go_end0
      exact ⟨rfl, HX.out, hb.out⟩

theorem pclasses_any (w : World) (p : Addr) (n : Nat) (f : Nat → Nat) (S : Nat → Prop) (h : PAp w p n f S) :
    Calls Try.prog 20 #[.pointer (some p)] w fun e w' => ∃ v, e = .returned v ∧ PRows PAp S w w' p n f v := by
  obtain ⟨b, g, rt, rfl, hx, hP, hn, hS⟩ := h
  obtain ⟨hb, hg, _⟩ := hx.lt
  refine (pclasses_px b g n f rt (cntF f n) w hn hP hx).mono ?_
  rintro e w1 ⟨v, rfl, h1, h2, h3⟩
  obtain ⟨a, cap, hv, hL⟩ := h2.in
  refine ⟨v, rfl, S, a, cap, hv, hL.mono (fun k hk => ⟨hk, fun e => ?_⟩), ⟨b, g, rt, rfl, h1, hP, hn, hS⟩, fun k hk => Or.inl hk, h3.mono (fun k _ e => (hS k).2 (Or.inr e))⟩
  rcases (hS k).1 e with rfl | rfl <;> omega

/-- What Of leaves, of a graph that is right. -/
theorem pof_end {w w1 w2 w3 w4 : World} {n : Nat} {es : List (Int × Int)} {p : Addr} {f f' : Nat → Nat} {S : Nat → Prop} {v : Value} (hb1 : Below w.heap.size w w1) (hb2 : Below w1.heap.size w1 w2) (hb3 : Below w1.heap.size w2 w3) (hp : PAp w3 p n f' S) (hT : Tells n f' (prsN es)) (hS : ∀ k, S k → w1.heap.size ≤ k) (hP : Pt n f) (hTf : Tells n f (prsN es)) (h : PRows PAp S w3 w4 p n f' v) : PComp w w4 v (classesF n f) := by
  obtain ⟨S', a, cap, hv, hL, _, _, hk⟩ := h
  have hff : ∀ i, i < n → f' i = f i := tells_one (pap_own hp).1 hP hT hTf (fun e he => Cl.of he) (fun e he => Cl.of he)
  rw [classesF_congr hff] at hv hL
  have h13 : Below w1.heap.size w1 w3 := hb2.trans hb3
  have h14 : Below w1.heap.size w1 w4 := h13.trans (hk.below h13.size (fun k _ e => hS k e))
  have hs1 := hb1.size
  have hs3 := h13.size
  exact ⟨a, cap, hv, hL.mono (fun k hk => by have := hk.1; omega), hb1.trans (h14.mono hs1)⟩

set_option maxHeartbeats 1000000 in
set_option maxRecDepth 100000 in
theorem pof_any (n : Int) (a : Option Addr) (cap : Nat) (es : List (Int × Int)) (b : Bool) (f : Nat → Nat) (w : World) (hN : es.length ≤ 1000000) (hE : EAt w a es) (hb : b = true ↔ RightG n es) (hf : b = true → Pt n.toNat f ∧ Tells n.toNat f (prsN es)) :
    Calls Try.prog 22 #[.agg #[.int .i64 n, .slice a es.length cap]] w fun e w' => ∃ v, e = .returned v ∧ PComp w w' v (if b = true then classesF n.toNat f else []) := by
  obtain ⟨LL, hLL⟩ := ex_eq (if b = true then classesF n.toNat f else [])
  have HLL := hid hLL
  rw [← hLL]
  clear hLL
  obtain ⟨N, hNe⟩ := ex_eq es.length
  obtain ⟨W, hW⟩ := ex_eq (w.alloc (.cells #[.int .i64 n, .slice a es.length cap] 38))
  have hbW : Below w.heap.size w W := by rw [hW]; exact (Below.refl _ _).alloc (Nat.le_refl _) _
  have hO : W.heap[w.heap.size]? = some (.cells #[.int .i64 n, .slice a es.length cap] 38 (0, 0)) := by rw [hW]; exact heap_alloc_new _ _
  have hlt : w.heap.size < W.heap.size := (Array.getElem?_eq_some_iff.1 hO).1
  have CR : Hid (Calls Try.prog 38 #[.agg #[.int .i64 n, .slice a es.length cap]] W fun e w' => e = .returned (.bool b) ∧ Below W.heap.size W w') := right_any n a cap es b W hN (hE.below hbW) hb
  have HEW : Hid (∀ w', Below w.heap.size w w' → EAt w' a es) := fun w' h => hE.below h
  have HC : Hid (∀ w', Below W.heap.size W w' → w'.cell? ⟨w.heap.size, 0, none⟩ = some (.int .i64 n) ∧ w'.cell? ⟨w.heap.size, 1, none⟩ = some (.slice a es.length cap)) := fun w' h => by
    have o := (h.block _ hlt).trans hO
    exact ⟨cell_of_heap o 0, cell_of_heap o 1⟩
  have HBW := hid hbW
  have HW := hid hW
  have HB := hid hb
  have HF := hid hf
  have HN := hid hNe
  obtain ⟨c0, c1⟩ := HC.out W (Below.refl _ _)
  rw [← hNe] at CR HC HW c1 ⊢
  clear hNe hW hbW hO hE hb hf hN
  go_enter Try.func22, Try.ntmps22
  go_wp2_with (rw [← HW.out])
  refine CR.out.mono ?_
  rintro e w1 ⟨rfl, hb1⟩
  obtain ⟨d0, d1⟩ := HC.out w1 hb1
  have hbw1 : Below w.heap.size w w1 := HBW.out.trans (hb1.mono (by omega))
  have HB1 := hid hbw1
  have HE1 : Hid (EAt w1 a es) := HEW.out w1 hbw1
  clear hb1 hbw1 CR HW HEW c0 c1
  cases b with
  | false =>
    obtain rfl : LL = [] := by rw [HLL.out, if_neg (by simp)]
    have HX : Hid (PComp w w1 (.slice none 0 0) []) := ⟨none, 0, rfl, fun h => absurd h (by simp), HB1.out⟩
    clear HF HB HE1 HLL
    go_wp2
    go_ret
    exact ⟨_, rfl, HX.out⟩
  | true =>
    obtain ⟨hP, hT⟩ := HF.out rfl
    have hR := HB.out.1 rfl
    obtain ⟨m, rfl⟩ : ∃ m : Nat, n = m := ⟨n.toNat, by have := hR.1; omega⟩
    rw [Int.toNat_natCast] at hP hT
    have HLM : Hid (LL = classesF m f) := by have := HLL.out; rw [if_pos rfl, Int.toNat_natCast] at this; exact this
    clear HLL
    have hm : (m : Int) ≤ 1000 := hR.2.1
    have HP := hid hP
    have HT := hid hT
    have HR := hid hR
    have HS1 := hid HB1.out.size
    clear hP hT hR HF HB
    go_wp2_with fail
    refine (pnew_any m w1).mono ?_
    rintro e w2 ⟨p, rfl, m', S, hm', hp, hS, hb2⟩
    obtain rfl : m' = m := by omega
    have HJ : Hid (Joined w2 p m' w1.heap.size []) := ⟨_, S, hp, tells_new _, hS⟩
    have HEJ : Hid (∀ X, Below w1.heap.size w2 X → EAt X a es) := fun X h => HE1.out.below (hb2.trans h)
    have HB2 := hid hb2
    have d1' : w2.cell? ⟨w.heap.size, 1, none⟩ = some (.slice a N cap) := (hb2.cell (p := ⟨w.heap.size, 1, none⟩) (block_lt_of_cell d1)).trans d1
    have hs2 := hb2.size
    have CJ := hid (joinAll_any p m' w1.heap.size a N cap es w2 HN.out HR.out HEJ.out hs2 HJ.out)
    clear hp hS hb2 hm' hm HJ HEJ HE1 d0 d1
    go_wp2_with fail
    refine CJ.out.mono ?_
    rintro e w3 ⟨rfl, hJ3, hb3⟩
    obtain ⟨f', S', hp3, hT3, hS3⟩ := hJ3
    have CC := hid (pclasses_any w3 p m' f' S' hp3)
    have HEND : Hid (∀ w4 v, PRows PAp S' w3 w4 p m' f' v → PComp w w4 v (classesF m' f)) := fun w4 v h => pof_end HB1.out HB2.out hb3 hp3 hT3 hS3 HP.out HT.out h
    clear hb3 hp3 hT3 hS3 CJ d1'
    go_wp2_with fail
    refine CC.out.mono ?_
    rintro e w4 ⟨v, rfl, h4⟩
    have HX := hid (HEND.out w4 v h4)
    clear h4 HEND CC
    go_wp2
    go_ret
    exact ⟨_, rfl, by rw [HLM.out]; exact HX.out⟩

/-- The program's parts keep what the laws ask of them. -/
theorem partOps : PartOps PAp := ⟨pap_keep, pap_own, pnew_any, pjoin_any, psame_any, pcount_any, pclasses_any, pof_any⟩
end Go.Proofs.Ythakjmfjbibbjaa
