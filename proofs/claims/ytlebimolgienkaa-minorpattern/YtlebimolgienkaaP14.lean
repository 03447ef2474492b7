/-
  The program's Whole keeps its contract.
  The program's Check keeps its contract (H2).
  The small case that the laws of layer 8 begin with answers true.
  Models in variables, and what the laws of layer 8 begin with.
-/
import Derived.Test.YtlebimolgienkaaP06
import Derived.Test.YtlebimolgienkaaP13
import Derived.Test.YtlebimolgienkaaP12
import Derived.Test.YtlebimolgienkaaP10
import Derived.Test.YtlebimolgienkaaP11
import Derived.Test.YtlebimolgienkaaP04
import Derived.Test.YtlebimolgienkaaP02
namespace Go.Proofs.Ytlebimolgienkaa
open Go.RowKit Go.Lib Go.Shelf

/-- A number below m. -/
def capM (m x : Nat) : Nat := if x < m then x else 0
theorem capM_lt {m : Nat} (hm : 0 < m) (x : Nat) : capM m x < m := by unfold capM; split <;> omega
set_option maxHeartbeats 400000 in
theorem farneg_any (m F bx x : Nat) (D : Nat → Int) (r : Bool) (w : World) (hx : x < m) (hb : w.cell? ⟨bx, 0, none⟩ = some (.slice (some ⟨F, 0, none⟩) m m)) (hF : Row1 w F m D) (hr : r = decide (D x < 0)) :
    Calls Try.prog 87 #[.int .i64 x, .pointer (some ⟨bx, 0, none⟩)] w fun e w' => e = .returned (.bool r) ∧ w' = w := by
  obtain ⟨f1, _⟩ := hF.2 x hx
  have q : (x : Int) < (m : Int) := by omega
  obtain ⟨d, hd⟩ := ex_eq (D x)
  rw [← hd] at f1 hr
  clear hF hd
  go_enter Try.func87, Try.ntmps87
  go_wp2
  go_ret
  exact ⟨by rw [hr]; rfl, rfl⟩
theorem anyFar (m F bx : Nat) (D : Nat → Int) (la : Option Addr) (lc : Nat) (l : List Int) (r : Bool) (w : World) (hm : 0 < m) (hl0 : 0 < l.length) (hl : l.length ≤ 1000000) (hin : ∀ x ∈ l, 0 ≤ x ∧ x < m) (hI : IAt w la l) (hb : w.cell? ⟨bx, 0, none⟩ = some (.slice (some ⟨F, 0, none⟩) m m)) (hF : Row1 w F m D) (hr : r = true ↔ ∀ x ∈ l, 0 ≤ D x.toNat) :
    Calls Try.prog 86 #[.slice la l.length lc, .func (.func 87) #[] #[.pointer (some ⟨bx, 0, none⟩)]] w fun e w' => e = .returned (.bool (!r)) ∧ ∃ q, w' = w.drewN q := by
  obtain ⟨g, off, rfl, hg, hc⟩ := hI hl0
  have hbl := block_lt_of_cell hb
  have eg : ∀ args w, (callFunc 87 args).run Try.prog w = .ok (.enter 87 args) w := enters_of Try.func87 (by kernel_rfl) rfl
  have hp : PredAt Try.prog 87 #[.pointer (some ⟨bx, 0, none⟩)] (fun x : Nat => Value.int .i64 (capM m x : Nat)) (fun x => decide (D (capM m x) < 0)) w := fun W x hW => by
    refine (farneg_any m F bx (capM m x) D _ W (capM_lt hm x) ((hW.cell (p := ⟨bx, 0, none⟩) hbl).trans hb) (hF.belowW hW) rfl).mono ?_
    rintro e w' ⟨rfl, rfl⟩
    exact ⟨rfl, 0, rfl⟩
  have h := AnyE.slices_ContainsFunc Try.containsFunc (fun x : Nat => Value.int .i64 (capM m x : Nat)) (fun x => decide (D (capM m x) < 0)) 87 #[.pointer (some ⟨bx, 0, none⟩)] eg g off l.length lc (l.map Int.toNat) w hp (by simp) (by omega) (fun j hj => by
    have hj' : j < l.length := by simpa using hj
    rw [hc j hj', getElem!_pos (l.map Int.toNat) j hj]
    have := hin _ (List.getElem_mem hj')
    simp only [List.getElem_map]
    unfold capM
    rw [if_pos (by omega)]
    congr 2
    omega)
  change Calls Try.prog 86 _ _ _ at h
  have e : ((l.map Int.toNat).take l.length).any (fun x => decide (D (capM m x) < 0)) = !r := by
    rw [List.take_of_length_le (by simp)]
    cases r with
    | true =>
      have h1 := hr.1 rfl
      simp only [Bool.not_true, List.any_eq_false, List.mem_map]
      rintro x ⟨z, hz, rfl⟩
      have h2 := hin z hz
      have h3 := h1 z hz
      unfold capM
      rw [if_pos (by omega)]
      simp
      omega
    | false =>
      have h1 : ¬ ∀ x ∈ l, 0 ≤ D x.toNat := fun h => by have := hr.2 h; cases this
      simp only [Bool.not_false, List.any_eq_true, List.mem_map]
      have h2 : ∃ x ∈ l, D x.toNat < 0 := by
        apply Classical.byContradiction
        intro hn
        exact h1 (fun x hx => by
          by_cases e : D x.toNat < 0
          · exact absurd ⟨x, hx, e⟩ hn
          · omega)
      obtain ⟨x, hx, hd⟩ := h2
      have h2 := hin x hx
      refine ⟨x.toNat, ⟨x, hx, rfl⟩, ?_⟩
      unfold capM
      rw [if_pos (by omega)]
      simpa using hd
  rw [e] at h
  exact h

set_option maxHeartbeats 2000000 in
set_option maxRecDepth 100000 in
theorem whole_any (n : Int) (a : Option Addr) (cap : Nat) (es : List (Int × Int)) (pa : Option Addr) (pc : Nat) (p : List Int) (b r : Bool) (w : World) (hN : es.length ≤ 1000000) (hP : p.length ≤ 1000000) (hE : EAt w a es) (hI : IAt w pa p) (hb : b = true ↔ RightG n es) (hr : r = true ↔ (RightG n es ∧ WholeL n es p)) :
    Calls Try.prog 47 #[.agg #[.int .i64 n, .slice a es.length cap], .slice pa p.length pc] w fun e w' => e = .returned (.bool r) ∧ Below w.heap.size w w' := by
  obtain ⟨N, hNe⟩ := ex_eq es.length
  obtain ⟨M, hMe⟩ := ex_eq p.length
  obtain ⟨W, hW⟩ := ex_eq (w.alloc (.cells #[.int .i64 n, .slice a N cap] 26))
  have hbW : Below w.heap.size w W := by rw [hW]; exact (Below.refl _ _).alloc (Nat.le_refl _) _
  have hO : W.heap[w.heap.size]? = some (.cells #[.int .i64 n, .slice a N cap] 26 (0, 0)) := by rw [hW]; exact heap_alloc_new _ _
  have hsW : w.heap.size < W.heap.size := (Array.getElem?_eq_some_iff.1 hO).1
  have CN : Hid (Calls Try.prog 83 #[.agg #[.int .i64 n, .slice a N cap]] W fun e w' => ∃ v, e = .returned v ∧ NbIs n es b W w' v) := by
    rw [hNe]; exact neighb_any n a cap es b W hN (hE.below hbW) hb
  have CM : Hid (∀ (m : Nat) X, m ≤ 1000 → Below w.heap.size w X → Calls Try.prog 84 #[.int .i64 m, .slice pa M pc] X fun e w' => ∃ v, e = .returned v ∧ MarkIs m p X w' v) := fun m X hm hX => by
    rw [hMe]; exact marked_any m pa pc p X hm hP (hI.below hX)
  have HR := hid hr
  have HBB := hid hb
  have HM := hid hMe
  have HW := hid hW
  have HBW := hid hbW
  have HI := hid hI
  rw [← hMe] at hP ⊢
  rw [← hNe]
  clear hNe hMe hW hbW hO hE hI hb hr hN
  go_enter Try.func47, Try.ntmps47
  go_wp2_with fail
  rw [← HW.out]
  refine CN.out.mono ?_
  rintro e w1 ⟨v, rfl, hv⟩
  rcases hv with ⟨hb0, rfl, hb1⟩ | ⟨hb0, m, g, rfl, rfl, hgW, hnear, hb1⟩
  · have hbw1 : Below w.heap.size w w1 := HBW.out.trans (hb1.mono (by omega))
    obtain rfl : r = false := b_false HR.out (fun h => by have := HBB.out.2 h.1; rw [hb0] at this; cases this)
    have C0 := hid (CM.out 0 w1 (by omega) hbw1)
    have HB1 := hid hbw1
    clear CM CN hb1 hbw1 HR HBB
    go_wp2_with (go_at_call 84; refine C0.out.mono ?_; rintro e w2 ⟨v, rfl, hm⟩; rcases hm with ⟨hg, _⟩ | ⟨_, u, rfl, hb2⟩; exact absurd hg good_none)
    have HB2 := hid (HB1.out.trans (hb2.mono HB1.out.size))
    clear hb2
    go_wp2
    go_ret
    exact ⟨rfl, HB2.out⟩
  · have hRG := HBB.out.1 hb0
    have hm : m ≤ 1000 := by have := hRG.2.1; omega
    have hbw1 : Below w.heap.size w w1 := HBW.out.trans (hb1.mono (by omega))
    have HRG := hid hRG
    have HNA := hid hnear
    have C0 := hid (CM.out m w1 hm hbw1)
    have HB1 := hid hbw1
    clear CM CN hb1 hbw1 hnear hRG
    go_wp2_with fail
    refine C0.out.mono ?_
    rintro e w2 ⟨v, rfl, hmk⟩
    rcases hmk with ⟨hgood, g2, rfl, hg2, hrow, hb2⟩ | ⟨hbad, u, rfl, hb2⟩
    · have HB2 := hid (HB1.out.trans (hb2.mono HB1.out.size))
      have HGD := hid hgood
      have hM0 : 0 < M := by rw [HM.out]; exact List.length_pos_iff.2 hgood.1
      have hp0 : 0 < p.length := by rw [← HM.out]; exact hM0
      have hin0 := hgood.2.2 _ (List.getElem_mem hp0)
      obtain ⟨x, hx⟩ : ∃ x : Nat, (x : Int) = p[0] := ⟨p[0].toNat, by omega⟩
      rw [← hx] at hin0
      have hxm : x < m := by omega
      obtain ⟨gp, op, rfl, hgl, hcs⟩ := HI.out hp0
      have d0 := (HB2.out.cell (p := ⟨gp, op + 0, none⟩) hgl).trans (hcs 0 hp0)
      rw [← hx, Nat.add_zero] at d0
      have CD := hid (dist_any g m es x g2 (fun j => decide ((j : Int) ∈ p)) w2 hm HRG.out hxm (HNA.out.below hb2) hrow)
      have HX := hid hx
      have HP0 : Hid (0 < p.length) := hp0
      have q0 : (0 : Int) < (M : Int) := by omega
      clear hb2 hgood C0 HBB HNA HB1 hrow hx hin0 hcs
      go_wp2_with fail
      refine CD.out.mono ?_
      rintro e w3 ⟨v, rfl, F, D, rfl, hF, hrow3, hb3, _, hlev⟩
      have hbw3 : Below w.heap.size w w3 := HB2.out.trans (hb3.mono HB2.out.size)
      have HLV : Hid (Lev m es (fun z => z ∈ p) (x : Int) (fun z => D z.toNat)) := by
        rcases hlev with ⟨h0, _⟩ | ⟨_, h1⟩
        · exfalso
          have : decide ((x : Int) ∈ p) = true := decide_eq_true (by rw [HX.out]; exact List.getElem_mem _)
          have h0' : decide ((x : Int) ∈ p) = false := h0
          rw [this] at h0'
          cases h0'
        · refine h1.congr HRG.out (fun z h2 h3 => ?_)
          show decide ((z.toNat : Int) ∈ p) = true ↔ z ∈ p
          rw [decide_eq_true_eq, Int.toNat_of_nonneg h2]
      have HR2 : Hid (r = true ↔ ∀ z ∈ p, 0 ≤ D z.toNat) := by
        show r = true ↔ _
        rw [HR.out]
        have hh := HLV.out
        rw [HX.out] at hh
        have := hh.whole HRG.out HGD.out.2.1 HGD.out.2.2 HP0.out
        rw [this]
        exact ⟨fun h => h.2, fun h => ⟨HRG.out, h⟩⟩
      have HA := hid (anyFar m F w3.heap.size D (some ⟨gp, op, none⟩) pc p r (w3.alloc (.cells #[.slice (some ⟨F, 0, none⟩) m m] 28)) (by omega) HP0.out (by rw [← HM.out]; exact hP) HGD.out.2.2 (HI.out.below (hbw3.alloc hbw3.size _)) (cell_of_heap (heap_alloc_new w3 _) 0) (hrow3.alloc _) HR2.out)
      rw [← HM.out] at HA
      have HB4 : Hid (∀ q, Below w.heap.size w ((w3.alloc (.cells #[.slice (some ⟨F, 0, none⟩) m m] 28)).drewN q)) := fun q => below_drewN (hbw3.alloc hbw3.size _) q
      clear hlev hrow3 hb3 hbw3 HR2 HR HLV
      go_wp2_with (go_at_call 86; refine HA.out.mono ?_; rintro e w5 ⟨rfl, q, hw5⟩; rw [hw5]; clear hw5)
      go_ret
      exact ⟨by simp, HB4.out _⟩
    · have HB2 := hid (HB1.out.trans (hb2.mono HB1.out.size))
      obtain rfl : r = false := b_false HR.out (fun h => hbad ⟨h.2.ne, h.2.nd, h.2.inn⟩)
      clear hb2 HR hbad C0 HBB HNA HB1
      go_wp2
      go_ret
      exact ⟨rfl, HB2.out⟩
end Go.Proofs.Ytlebimolgienkaa
namespace Go.Proofs.Ytlebimolgienkaa
open Go.RowKit Go.Lib

theorem model_of {m : Nat} {es : List (Int × Int)} {k : Int} {Ss : List (List Int)} {D : Nat → Int} (hk : k = 1 ∨ k = 2) (hR : RightG m es) (hl : Ss.length = patN k) (hw : ∀ S ∈ Ss, WholeL m es S) (ha : ApartS Ss) (hD : HomeIs m Ss (fun x => D x.toNat)) : (∀ p ∈ patE k, p ∈ es.map (metE (fun x => D x.toNat))) ↔ ModelL m es k Ss := by
  have hin : ∀ i, ∀ x ∈ Ss.getD i [], 0 ≤ x ∧ x < (m : Int) := fun i x hx => (hw _ (getD_mem (mem_getD hx))).inn x hx
  constructor
  · intro h
    exact ⟨hk, hR, hl, hw, ha, fun e he => (meet_iff hR hl hin hD e he).1 (h e he)⟩
  · intro h p hp
    exact (meet_iff hR hl hin hD p hp).2 (h.meet p hp)

theorem bool_one {r s : Bool} {X Y : Prop} (h : r = true ↔ X) (k : s = true ↔ Y) (e : Y ↔ X) : s = r := by
  cases r <;> cases s
  · rfl
  · have := h.2 (e.1 (k.1 rfl)); cases this
  · have := k.2 (e.2 (h.1 rfl)); cases this
  · rfl
set_option maxHeartbeats 8000000 in
set_option maxRecDepth 100000 in
theorem check_any (n : Int) (a : Option Addr) (cap : Nat) (es : List (Int × Int)) (b : Bool) (k : Int) (sa : Option Addr) (sc : Nat) (Ss : List (List Int)) (r : Bool) (w : World) (hN : es.length ≤ 1000000) (hE : EAt w a es) (hb : b = true ↔ RightG n es) (hS : Ss.length ≤ 1000) (hSl : ∀ S ∈ Ss, S.length ≤ 1000000) (hL : LLAt w sa Ss) (hr : r = true ↔ ModelL n es k Ss) :
    Calls Try.prog 20 #[.agg #[.int .i64 n, .slice a es.length cap], .agg #[.int .i64 k, .slice sa Ss.length sc]] w fun e w' => e = .returned (.bool r) ∧ Below w.heap.size w w' := by
  obtain ⟨N, hNe⟩ := ex_eq es.length
  obtain ⟨M, hMe⟩ := ex_eq Ss.length
  obtain ⟨W, hW, hsW, hO0, hO1, hbW⟩ := new_two w (.cells #[.int .i64 n, .slice a N cap] 26) (.cells #[.int .i64 k, .slice sa M sc] 40)
  have HGC : Hid (∀ X, Below W.heap.size W X → GC X w.heap.size n a N cap es ∧ Below w.heap.size w X ∧ (X.cell? ⟨w.heap.size + 1, 0, none⟩ = some (.int .i64 k) ∧ X.cell? ⟨w.heap.size + 1, 1, none⟩ = some (.slice sa M sc)) ∧ LLAt X sa Ss) := fun X hX => by
    have o := (hX.block _ (by omega)).trans hO0
    have o1 := (hX.block (w.heap.size + 1) (by omega)).trans hO1
    have hbx : Below w.heap.size w X := hbW.trans (hX.mono (by omega))
    exact ⟨⟨cell_of_heap o 0, cell_of_heap o 1, hE.below hbx⟩, hbx, ⟨cell_of_heap o1 0, cell_of_heap o1 1⟩, hL.below hbx⟩
  have CW : Hid (∀ X (pa : Option Addr) (pc : Nat) (p : List Int) (r1 : Bool), Below W.heap.size W X → p.length ≤ 1000000 → IAt X pa p → (r1 = true ↔ (RightG n es ∧ WholeL n es p)) → Calls Try.prog 47 #[.agg #[.int .i64 n, .slice a N cap], .slice pa p.length pc] X fun e w' => e = .returned (.bool r1) ∧ Below X.heap.size X w') := fun X pa pc p r1 hX hp hI hr1 => by
    rw [hNe]; exact whole_any n a cap es pa pc p b r1 X hN hp (HGC.out X hX).1.at_ hI hb hr1
  have CH : Hid (∀ X (m : Nat), n = m → m ≤ 1000 → Below W.heap.size W X → (∀ S ∈ Ss, WholeL n es S) → Calls Try.prog 48 #[.int .i64 m, .slice sa M sc] X fun e w' => ((∃ g D, e = .returned (.tuple #[.slice (some ⟨g, 0, none⟩) m m, .bool true]) ∧ Row1 w' g m D ∧ X.heap.size ≤ g ∧ HomeIs m Ss (fun x => D x.toNat) ∧ ApartS Ss ∧ ∀ x, x < m → (Lit.int .i64 (D x)).wf = true) ∨ (e = .returned (.tuple #[.slice none 0 0, .bool false]) ∧ ¬ ApartS Ss)) ∧ Below X.heap.size X w') := fun X m hm h1 hX hw => by
    rw [hMe]; subst hm
    exact homes_any m sa sc Ss X h1 hS (HGC.out X hX).2.2.2 (fun i x hx => (hw _ (getD_mem (mem_getD hx))).inn x hx) (fun S hS' => (hw S hS').nd)
  have CA : Hid (∀ X (m : Nat) (g : Nat) (D : Nat → Int) (pa : Option Addr) (pc : Nat) (r3 : Bool), n = m → RightG n es → Below W.heap.size W X → Row1 X g m D → (∀ x, x < m → (Lit.int .i64 (D x)).wf = true) → EAt X pa (patE k) → (r3 = true ↔ ∀ p ∈ patE k, p ∈ es.map (metE (fun x => D x.toNat))) → Calls Try.prog 49 #[.slice a N cap, .slice (some ⟨g, 0, none⟩) m m, .slice pa (patE k).length pc] X fun e w' => e = .returned (.bool r3) ∧ Below X.heap.size X w') := fun X m g D pa pc r3 hm hR hX hD hDw hP hr3 => by
    rw [hNe]; subst hm
    refine allMeet_any m a cap es g D pa pc (patE k) r3 X hN (fun e he => ?_) (HGC.out X hX).1.at_ hD hDw hP (by unfold patE; split <;> (try split) <;> simp) (fun p hp => ?_) hr3
    · have := hR.2.2.2.1 e he; omega
    · have h1 := patE_in hp
      have h2 : patN k ≤ 5 := by unfold patN; split <;> (try split) <;> omega
      exact ⟨WalkArith.wf_i64 (by omega), WalkArith.wf_i64 (by omega)⟩
  have HB1 : Hid (∀ X, Below W.heap.size W X → Below w.heap.size w X) := fun X hX => (HGC.out X hX).2.1
  have HMM := hid hMe
  have HR := hid hr
  have HSL := hid hSl
  have HW := hid hW
  have CP := hid (pattern_any k W)
  rw [← hMe] at hS ⊢
  rw [← hNe]
  clear hNe hMe hW hO0 hO1 hbW hE hb hr hSl hL hN
  obtain ⟨g0, g1⟩ := (HGC.out W (Below.refl _ _)).1.cells
  obtain ⟨m0, m1⟩ := (HGC.out W (Below.refl _ _)).2.2.1
  go_enter Try.func20, Try.ntmps20
  go_wp2_with fail
  rw [← HW.out]
  refine CP.out.mono ?_
  rintro e w1 ⟨v, rfl, pa, pc, rfl, hP, _, hb1⟩
  obtain ⟨P0, hP0⟩ := ex_eq (patE k).length
  obtain ⟨W2, hW2⟩ := ex_eq (w1.alloc (.cells #[.int .i64 (patN k : Nat), .slice pa P0 pc] 26))
  have o2 := heap_alloc_new w1 (.cells #[.int .i64 (patN k : Nat), .slice pa P0 pc] 26)
  have hbw : Below w1.heap.size w1 W2 := by rw [hW2]; exact below_one _ _
  rw [← hW2] at o2
  have hbW2 : Below W.heap.size W W2 := hb1.trans (hbw.mono hb1.size)
  obtain ⟨_, _, ⟨m0, m1⟩, _⟩ := HGC.out W2 hbW2
  have p0 := cell_of_heap o2 0
  have p1 := cell_of_heap o2 1
  have HO2 := hid o2
  have HP2 := hid (hP.below hbw)
  have HBW2 := hid hbW2
  have HW2 := hid hW2
  have HP0 := hid hP0
  rw [← hP0]
  have hw1 : w1.heap.size < W2.heap.size := (Array.getElem?_eq_some_iff.1 o2).1
  clear CP hP hb1 hbw hW2 o2 hbW2 g0 g1 HW hP0
  go_upto_region 2 with fail
  rw [← HW2.out]
  clear HW2
  by_cases hk : k = 1 ∨ k = 2
  · obtain ⟨K, hK⟩ := ex_eq (patN k)
    have hK4 : 4 ≤ K := by rw [hK]; unfold patN; rcases hk with rfl | rfl <;> decide
    rw [← hK] at p0
    have q0 : ¬ (K : Int) = 0 := by omega
    have q0b : ((K : Int) == 0) = false := by simp; omega
    by_cases hlen : M = K
    · subst hlen
      have q5 : ((M : Int) != (M : Int)) = false := by simp
      have HKM := hid hK
      clear hK
      go_wp2
      clear m0 m1 p0 p1
      go_loopw [27] (fun i wz => ∃ t : Nat, t ≤ M ∧ i = .int .i64 t ∧ Hid (∀ S ∈ Ss.take t, WholeL n es S) ∧ Hid (t ≠ 0 → RightG n es) ∧ Hid (Below W2.heap.size W2 wz)) (fun i _ => M - (RowKit.intOf i).toNat)
      case atStart => exact ⟨0, Nat.zero_le _, rfl, (fun S hS' => by simp at hS'), (fun h => absurd rfl h), Below.refl _ _⟩
      case round =>
        obtain ⟨t, ht, rfl, hw, hrg, hb⟩ := hrel
        have hX : Below W.heap.size W wr := HBW2.out.trans (hb.out.mono HBW2.out.size)
        obtain ⟨hg, _, ⟨m0, m1⟩, hll⟩ := HGC.out wr hX
        obtain ⟨g0, g1⟩ := hg.cells
        have HX := hid hX
        by_cases hlt : t < M
        · have htr : t < Ss.length := by rw [← HMM.out]; exact hlt
          obtain ⟨gs, off, ak, ck, rfl, c0, hI⟩ := hll.at htr
          obtain ⟨r1, hr1⟩ := boolR_of (RightG n es ∧ WholeL n es Ss[t])
          have CWt := hid (CW.out wr ak ck Ss[t] r1 hX (HSL.out _ (List.getElem_mem htr)) hI hr1)
          obtain ⟨J, hJ⟩ := ex_eq Ss[t].length
          rw [← hJ] at c0 CWt
          have HR1 := hid hr1
          have HTR : Hid (∃ h : t < Ss.length, True) := ⟨htr, trivial⟩
          have q1 : (t : Int) < (M : Int) := by omega
          have HMEM : Hid (Ss[t] ∈ Ss) := List.getElem_mem htr
          have HNXW : Hid (RightG n es ∧ WholeL n es Ss[t] → ∀ S ∈ Ss.take (t + 1), WholeL n es S) := fun h S hS' => by
            rw [← List.take_append_getElem htr] at hS'
            rcases List.mem_append.1 hS' with hS' | hS'
            · exact hw.out S hS'
            · simp at hS'; subst hS'; exact h.2
          clear hg hll hI hr1 hJ hX hw
          go_wp2_with fail
          refine CWt.out.mono ?_
          rintro e w3 ⟨rfl, hb3⟩
          have HB3 : Hid (Below W2.heap.size W2 w3) := hb.out.trans (hb3.mono hb.out.size)
          clear CWt hb3 g0 g1 m0 m1 c0
          cases r1 with
          | false =>
            obtain rfl : r = false := b_false HR.out (fun h => by
              have := HR1.out.2 ⟨h.right, h.whole _ HMEM.out⟩
              cases this)
            clear HR HNXW HMEM HR1
            go_wp2
            go_ret
            exact ⟨rfl, HB1.out _ (HBW2.out.trans (HB3.out.mono HBW2.out.size))⟩
          | true =>
            have HNX := hid (HNXW.out (HR1.out.1 rfl))
            have HRX : Hid (t + 1 ≠ 0 → RightG n es) := fun _ => (HR1.out.1 rfl).1
            clear HNXW HMEM HR1 hrg
            go_wp2
            go_roundw
            case rel => exact ⟨t + 1, by omega, by go_num, HNX, HRX, HB3⟩
            case measure => simp [RowKit.intOf]; omega
        · obtain rfl : t = M := by omega
          have HALL : Hid (∀ S ∈ Ss, WholeL n es S) := by
            have := hw.out
            rw [HMM.out, List.take_length] at this
            exact this
          have HRG : Hid (RightG n es) := hrg.out (by omega)
          obtain ⟨m, rfl⟩ : ∃ m : Nat, n = m := ⟨n.toNat, by have := HRG.out.1; omega⟩
          have CHt := hid (CH.out wr m rfl (by have := HRG.out.2.1; omega) hX HALL.out)
          clear hg hll hX hw hrg
          go_wp2_with fail
          refine CHt.out.mono ?_
          rintro e w4 ⟨h4, hb4⟩
          have hX4 : Below W.heap.size W w4 := HX.out.trans (hb4.mono HX.out.size)
          have hb24 : Below W2.heap.size W2 w4 := hb.out.trans (hb4.mono hb.out.size)
          obtain ⟨hg4, _, _, _⟩ := HGC.out w4 hX4
          clear CHt g0 g1 m0 m1
          rcases h4 with ⟨g, D, rfl, hrow, hgl, hH, hA, hDw⟩ | ⟨rfl, hna⟩
          · obtain ⟨g0, g1⟩ := hg4.cells
            have o4 := (hb24.block w1.heap.size hw1).trans HO2.out
            have p1 := cell_of_heap o4 1
            obtain ⟨r3, hr3⟩ := boolR_of (∀ p ∈ patE k, p ∈ es.map (metE (fun x => D x.toNat)))
            have CAt := hid (CA.out w4 m g D pa pc r3 rfl HRG.out hX4 hrow hDw (HP2.out.below hb24) hr3)
            rw [← HP0.out] at CAt
            obtain rfl : r3 = r := bool_one HR.out hr3 (model_of hk HRG.out (by rw [← HMM.out]; exact HKM.out) HALL.out hA hH)
            have HX4 := hid hX4
            clear hg4 hrow hgl hH hA hDw hr3 hX4 hb24 o4 hb4 HR
            go_wp2_with fail
            refine CAt.out.mono ?_
            rintro e w5 ⟨rfl, hb5⟩
            have HB5 := hid (HB1.out _ (HX4.out.trans (hb5.mono HX4.out.size)))
            clear CAt hb5 g0 g1 p1
            go_wp2
            go_ret
            exact ⟨rfl, HB5.out⟩
          · obtain rfl : r = false := b_false HR.out (fun h => hna h.apart)
            have HB5 := hid (HB1.out _ hX4)
            clear hg4 hX4 hb24 hb4 HR hna
            go_wp2
            go_ret
            exact ⟨rfl, HB5.out⟩
    · obtain rfl : r = false := b_false HR.out (fun h => hlen (by rw [HMM.out, h.len, hK]))
      have q5 : ((M : Int) != (K : Int)) = true := by simp [bne]; omega
      clear HR hK
      go_wp2
      go_ret
      exact ⟨rfl, HB1.out _ HBW2.out⟩
  · have e1 := patN_none hk
    obtain rfl : r = false := b_false HR.out (fun h => hk h.kind)
    rw [e1] at p0
    clear HR
    go_wp2
    go_ret
    exact ⟨rfl, HB1.out _ HBW2.out⟩
end Go.Proofs.Ytlebimolgienkaa
namespace Go.Proofs.Ytlebimolgienkaa
open Go.RowKit Go.Lib

def esM : List (Int × Int) := [(0, 1), (0, 2), (0, 3), (1, 2), (1, 4), (2, 3), (3, 4)]
def sS : List (List Int) := [[0], [1], [2], [3]]
def mS : List (List Int) := [[0], [1], [2], [3, 4]]
theorem esM_right : RightG 5 esM := ⟨by decide, by decide, by decide, by decide, by unfold Rises esM; simp [ltE]⟩
theorem liftM : liftL 4 3 sS = mS := by decide
theorem adjM {x y : Int} (h : (x, y) ∈ esM) : Adj esM x y := Or.inl h
theorem modelM : ModelL 5 esM 1 mS := by
  refine ⟨Or.inl rfl, esM_right, rfl, fun S hS => ?_, fun i j hij x hx hy => ?_, fun e he => ?_⟩
  · have h1 : ∀ x : Int, 0 ≤ x ∧ x < 5 → WholeL 5 esM [x] := fun x hx => WholeL.of_head (by simp) (fun y hy => by simp at hy; omega) (by simp) (fun y hy => by simp at hy; subst hy; exact Rch.refl _ _ _)
    have h2 : WholeL 5 esM [3, 4] := WholeL.of_head (by decide) (by decide) (by simp) (fun y hy => by
      simp at hy
      rcases hy with rfl | rfl
      · exact Rch.refl _ _ _
      · exact (Rch.refl _ _ _).step (u := 3) (adjM (by decide)) (by simp))
    unfold mS at hS
    simp at hS
    rcases hS with rfl | rfl | rfl | rfl
    · exact h1 0 (by decide)
    · exact h1 1 (by decide)
    · exact h1 2 (by decide)
    · exact h2
  · have hj := mem_getD hy
    have hi := mem_getD hx
    have h4 : mS.length = 4 := rfl
    rw [h4] at hi hj
    have hc : (i = 0 ∧ j = 1) ∨ (i = 0 ∧ j = 2) ∨ (i = 0 ∧ j = 3) ∨ (i = 1 ∧ j = 2) ∨ (i = 1 ∧ j = 3) ∨ (i = 2 ∧ j = 3) := by omega
    rcases hc with ⟨rfl, rfl⟩ | ⟨rfl, rfl⟩ | ⟨rfl, rfl⟩ | ⟨rfl, rfl⟩ | ⟨rfl, rfl⟩ | ⟨rfl, rfl⟩ <;> (simp [mS] at hx hy; omega)
  · have : patE 1 = [(0, 1), (0, 2), (0, 3), (1, 2), (1, 3), (2, 3)] := rfl
    rw [this] at he
    simp at he
    rcases he with rfl | rfl | rfl | rfl | rfl | rfl
    · exact ⟨0, 1, by decide, by decide, adjM (by decide)⟩
    · exact ⟨0, 2, by decide, by decide, adjM (by decide)⟩
    · exact ⟨0, 3, by decide, by decide, adjM (by decide)⟩
    · exact ⟨1, 2, by decide, by decide, adjM (by decide)⟩
    · exact ⟨1, 4, by decide, by decide, adjM (by decide)⟩
    · exact ⟨2, 3, by decide, by decide, adjM (by decide)⟩
theorem noModelS : ¬ ModelL 5 esM 1 sS := fun h => by
  obtain ⟨x, y, hx, hy, ha⟩ := h.meet (1, 3) (by decide)
  simp [setAt, sS] at hx hy
  subst hx
  subst hy
  rcases ha with ha | ha <;> (unfold esM at ha; simp at ha)
/-- Four rows of one number each. -/
theorem rows4 (W : World) (B : Nat) (hB : W.heap.size = B) : LLAt (((((W.alloc (.cells #[.int .i64 0] 3)).alloc (.cells #[.int .i64 1] 3)).alloc (.cells #[.int .i64 2] 3)).alloc (.cells #[.int .i64 3] 3)).alloc (.cells #[.slice (some ⟨B, 0, none⟩) 1 1, .slice (some ⟨B + 1, 0, none⟩) 1 1, .slice (some ⟨B + 1 + 1, 0, none⟩) 1 1, .slice (some ⟨B + 1 + 1 + 1, 0, none⟩) 1 1] 28)) (some ⟨B + 1 + 1 + 1 + 1, 0, none⟩) sS := by
  obtain ⟨W1, hW1, s1, o0, o1, b1⟩ := new_two W (.cells #[.int .i64 0] 3) (.cells #[.int .i64 1] 3)
  obtain ⟨W2, hW2, s2, o2, o3, b2⟩ := new_two W1 (.cells #[.int .i64 2] 3) (.cells #[.int .i64 3] 3)
  rw [hW1] at hW2
  rw [← hW2]
  rw [hB] at s1 o0 o1
  rw [s1] at s2 o2 o3
  have q0 := (b2.block B (by omega)).trans o0
  have q1 := (b2.block (B + 1) (by omega)).trans o1
  have hb := below_one W2 (.cells #[.slice (some ⟨B, 0, none⟩) 1 1, .slice (some ⟨B + 1, 0, none⟩) 1 1, .slice (some ⟨B + 1 + 1, 0, none⟩) 1 1, .slice (some ⟨B + 1 + 1 + 1, 0, none⟩) 1 1] 28)
  have oh := heap_alloc_new W2 (.cells #[.slice (some ⟨B, 0, none⟩) 1 1, .slice (some ⟨B + 1, 0, none⟩) 1 1, .slice (some ⟨B + 1 + 1, 0, none⟩) 1 1, .slice (some ⟨B + 1 + 1 + 1, 0, none⟩) 1 1] 28)
  rw [s2] at oh
  have one : ∀ (C : Nat) (x : Int), W2.heap[C]? = some (.cells #[.int .i64 x] 3) → IAt (W2.alloc (.cells #[.slice (some ⟨B, 0, none⟩) 1 1, .slice (some ⟨B + 1, 0, none⟩) 1 1, .slice (some ⟨B + 1 + 1, 0, none⟩) 1 1, .slice (some ⟨B + 1 + 1 + 1, 0, none⟩) 1 1] 28)) (some ⟨C, 0, none⟩) [x] := fun C x hC => by
    have hlt : C < W2.heap.size := (Array.getElem?_eq_some_iff.1 hC).1
    refine fun _ => ⟨C, 0, rfl, by simp; omega, fun k hk => ?_⟩
    have hk0 : k = 0 := by simp at hk; omega
    subst hk0
    exact (hb.cell (p := ⟨C, 0, none⟩) hlt).trans (cell_of_heap hC 0)
  refine fun _ => ⟨B + 1 + 1 + 1 + 1, 0, rfl, by simp; omega, fun k hk => ?_⟩
  match k, hk with
  | 0, _ => exact ⟨_, _, cell_of_heap oh 0, one _ _ q0⟩
  | 1, _ => exact ⟨_, _, cell_of_heap oh 1, one _ _ q1⟩
  | 2, _ => exact ⟨_, _, cell_of_heap oh 2, one _ _ o2⟩
  | 3, _ => exact ⟨_, _, cell_of_heap oh 3, one _ _ o3⟩

set_option maxHeartbeats 8000000 in
set_option maxRecDepth 100000 in
theorem mshown_any (w : World) :
    Calls Try.prog 18 #[] w fun e w' => e = .returned (.bool true) ∧ Below w.heap.size w w' := by
  have C1 := hid (pattern_any 1 w)
  go_enter Try.func18, Try.ntmps18
  go_wp2_with fail
  refine C1.out.mono ?_
  rintro e w1 ⟨v1, rfl, a1, c1, rfl, _, _, hb1⟩
  have e1 : (patE 1).length = 6 := by decide
  have e2 : patN 1 = 4 := by decide
  have e3 : (patE 2).length = 6 := by decide
  have e4 : patN 2 = 5 := by decide
  rw [e1, e2]
  obtain ⟨W2, hW2⟩ := ex_eq (w1.alloc (.cells #[.int .i64 4, .slice a1 6 c1] 26))
  have o2 := heap_alloc_new w1 (.cells #[.int .i64 4, .slice a1 6 c1] 26)
  rw [← hW2] at o2
  have hb2 : Below w.heap.size w W2 := by rw [hW2]; exact hb1.alloc hb1.size _
  have C2 := hid (pattern_any 2 W2)
  have HW2 := hid hW2
  have HB2 := hid hb2
  clear C1 hW2 hb2 hb1 e1 e2
  go_upto_region 2 with fail
  rw [← HW2.out]
  go_wp2_with fail
  refine C2.out.mono ?_
  rintro e w3 ⟨v3, rfl, a3, c3, rfl, _, _, hb3⟩
  rw [e3, e4]
  have hbw3 := HB2.out.trans (hb3.mono HB2.out.size)
  have o23 := (hb3.block w1.heap.size (Array.getElem?_eq_some_iff.1 o2).1).trans o2
  have hP := (Array.getElem?_eq_some_iff.1 o2).1
  obtain ⟨W4, hW4⟩ := ex_eq (w3.alloc (.cells #[.int .i64 5, .slice a3 6 c3] 26))
  have o4 := heap_alloc_new w3 (.cells #[.int .i64 5, .slice a3 6 c3] 26)
  rw [← hW4] at o4
  have hb34 : Below w3.heap.size w3 W4 := by rw [hW4]; exact below_one _ _
  have o24 := (hb34.block w1.heap.size (Array.getElem?_eq_some_iff.1 o23).1).trans o23
  have hb4 : Below w.heap.size w W4 := hbw3.trans (hb34.mono hbw3.size)
  have HW4 := hid hW4
  have HB4 := hid hb4
  have HO24 := hid o24
  have HO4 := hid o4
  clear C2 HW2 hW4 hb34 hb4 hb3 hbw3 o2 o23 o24 o4 e3 e4 HB2
  go_upto_region 3 with fail
  rw [← HW4.out]
  obtain ⟨W6, hW6⟩ := ex_eq ((W4.alloc (.cells #[.int .i64 0, .int .i64 1, .int .i64 0, .int .i64 2, .int .i64 0, .int .i64 3, .int .i64 1, .int .i64 2, .int .i64 1, .int .i64 4, .int .i64 2, .int .i64 3, .int .i64 3, .int .i64 4] 56)).alloc (.cells #[.int .i64 5, .slice (some ⟨W4.heap.size, 0, none⟩) 7 7] 26))
  have hb46 : Below W4.heap.size W4 W6 := by rw [hW6]; exact (below_one W4 _).alloc (by simp) _
  have hs6 : W6.heap.size = W4.heap.size + 1 + 1 := by rw [hW6]; simp
  have HE6 : Hid (EAt W6 (some ⟨W4.heap.size, 0, none⟩) esM) := by
    show EAt _ _ _
    rw [hW6]
    exact (eat_new W4 esM _ rfl).below (below_one _ _)
  have o6 := heap_alloc_new (W4.alloc (.cells #[.int .i64 0, .int .i64 1, .int .i64 0, .int .i64 2, .int .i64 0, .int .i64 3, .int .i64 1, .int .i64 2, .int .i64 1, .int .i64 4, .int .i64 2, .int .i64 3, .int .i64 3, .int .i64 4] 56)) (.cells #[.int .i64 5, .slice (some ⟨W4.heap.size, 0, none⟩) 7 7] 26)
  rw [← hW6, World.size_alloc] at o6
  have HO6 := hid o6
  have HO26 := hid ((hb46.block _ (Array.getElem?_eq_some_iff.1 HO24.out).1).trans HO24.out)
  have HO46 := hid ((hb46.block _ (Array.getElem?_eq_some_iff.1 HO4.out).1).trans HO4.out)
  have HB6 := hid (HB4.out.trans (hb46.mono HB4.out.size))
  have HW6 := hid hW6
  obtain ⟨G4, hG4⟩ := ex_eq W4.heap.size
  rw [← hG4] at HE6 HO6 hs6
  have HG4 := hid hG4
  obtain ⟨B6, hB6⟩ := ex_eq W6.heap.size
  have HB66 : Hid (G4 + 1 + 1 = B6) := by show _ = _; omega
  have HR7 := hid (rows4 W6 B6 hB6.symm)
  obtain ⟨W7, hW7⟩ := ex_eq (((((W6.alloc (.cells #[.int .i64 0] 3)).alloc (.cells #[.int .i64 1] 3)).alloc (.cells #[.int .i64 2] 3)).alloc (.cells #[.int .i64 3] 3)).alloc (.cells #[.slice (some ⟨B6, 0, none⟩) 1 1, .slice (some ⟨B6 + 1, 0, none⟩) 1 1, .slice (some ⟨B6 + 1 + 1, 0, none⟩) 1 1, .slice (some ⟨B6 + 1 + 1 + 1, 0, none⟩) 1 1] 28))
  have hb67 : Below W6.heap.size W6 W7 := by rw [hW7]; exact ((((below_one W6 _).alloc (by simp <;> omega) _).alloc (by simp <;> omega) _).alloc (by simp <;> omega) _).alloc (by simp <;> omega) _
  rw [← hW7] at HR7
  have CL := hid (lift_any 1 (some ⟨B6 + 1 + 1 + 1 + 1, 0, none⟩) 4 sS 4 3 W7 (by decide) (by decide) HR7.out (by unfold InR; decide))
  rw [liftM] at CL
  have HW7 := hid hW7
  have HB67 := hid hb67
  clear hW6 hb46 o6 hW7 hb67 hB6 hG4 HO24 HO4
  go_upto_region 4 with fail
  rw [← HW6.out]
  rw [← HG4.out]
  go_wp2_with fail
  rw [HB66.out]
  rw [← HW7.out]
  refine CL.out.mono ?_
  rintro e w8 ⟨v8, rfl, hm8⟩
  obtain ⟨a8, c8, rfl, hL8, hb8⟩ := hm8.at
  have hm4 : mS.length = 4 := rfl
  rw [hm4]
  obtain ⟨W9, hW9⟩ := ex_eq (w8.alloc (.cells #[.int .i64 1, .slice a8 4 c8] 40))
  have o9 := heap_alloc_new w8 (.cells #[.int .i64 1, .slice a8 4 c8] 40)
  rw [← hW9] at o9
  have hb89 : Below w8.heap.size w8 W9 := by rw [hW9]; exact below_one _ _
  have hb69 : Below W6.heap.size W6 W9 := (HB67.out.trans (hb8.mono HB67.out.size)).trans (hb89.mono (Nat.le_trans HB67.out.size hb8.size))
  have HL9 : Hid (LLAt W9 a8 mS) := hL8.below hb89
  have HB9 : Hid (Below w.heap.size w W9) := HB6.out.trans (hb69.mono HB6.out.size)
  have HE9 : Hid (EAt W9 (some ⟨G4, 0, none⟩) esM) := HE6.out.below hb69
  have p2 := (hb69.block _ (Array.getElem?_eq_some_iff.1 HO26.out).1).trans HO26.out
  have p4 := (hb69.block _ (Array.getElem?_eq_some_iff.1 HO46.out).1).trans HO46.out
  have p6 := (hb69.block _ (Array.getElem?_eq_some_iff.1 HO6.out).1).trans HO6.out
  have HP2 := hid p2
  have HP4 := hid p4
  have HP6 := hid p6
  have HP9 := hid o9
  have x20 := cell_of_heap p2 0
  have x21 := cell_of_heap p2 1
  have x40 := cell_of_heap p4 0
  have x41 := cell_of_heap p4 1
  have x60 := cell_of_heap p6 0
  have x61 := cell_of_heap p6 1
  have x90 := cell_of_heap o9 0
  have x91 := cell_of_heap o9 1
  obtain ⟨gm, om, a3', c3', rfl, y3, hI3⟩ := HL9.out.at (k := 3) (by decide)
  obtain ⟨g3, o3, rfl, hg3, hc3⟩ := hI3 (by decide)
  have y4 := hc3 1 (by decide)
  have e33 : (mS[3]'(by decide)).length = 2 := rfl
  have e34 : ((mS[3]'(by decide))[1]'(by decide)) = 4 := rfl
  rw [e33] at y3
  rw [e34] at y4
  have CK := hid (check_any 5 (some ⟨G4, 0, none⟩) 7 esM true 1 (some ⟨gm, om, none⟩) c8 mS true W9 (by decide) HE9.out ⟨fun _ => esM_right, fun _ => rfl⟩ (by decide) (by decide) HL9.out ⟨fun _ => modelM, fun _ => rfl⟩)
  have HW9 := hid hW9
  clear CL HW7 hm8 hL8 hb8 hW9 hb89 hb69 p2 p4 p6 o9 hI3 hc3 e33 e34 hm4 HB67
  go_upto_region 5 with fail
  rw [← HW9.out]
  go_wp2_with fail
  refine CK.out.mono ?_
  rintro e w10 ⟨rfl, hb10⟩
  obtain ⟨B10, hB10⟩ := ex_eq w10.heap.size
  have HB10 := hid hB10
  have HR10 := hid (rows4 w10 B10 hB10.symm)
  obtain ⟨W11, hW11⟩ := ex_eq (((((w10.alloc (.cells #[.int .i64 0] 3)).alloc (.cells #[.int .i64 1] 3)).alloc (.cells #[.int .i64 2] 3)).alloc (.cells #[.int .i64 3] 3)).alloc (.cells #[.slice (some ⟨B10, 0, none⟩) 1 1, .slice (some ⟨B10 + 1, 0, none⟩) 1 1, .slice (some ⟨B10 + 1 + 1, 0, none⟩) 1 1, .slice (some ⟨B10 + 1 + 1 + 1, 0, none⟩) 1 1] 28))
  have hb1011 : Below w10.heap.size w10 W11 := by rw [hW11]; exact ((((below_one w10 _).alloc (by simp <;> omega) _).alloc (by simp <;> omega) _).alloc (by simp <;> omega) _).alloc (by simp <;> omega) _
  rw [← hW11] at HR10
  have hb911 : Below W9.heap.size W9 W11 := hb10.trans (hb1011.mono hb10.size)
  have CN := hid (check_any 5 (some ⟨G4, 0, none⟩) 7 esM true 1 (some ⟨B10 + 1 + 1 + 1 + 1, 0, none⟩) 4 sS false W11 (by decide) (HE9.out.below hb911) ⟨fun _ => esM_right, fun _ => rfl⟩ (by decide) (by decide) HR10.out ⟨fun h => (by cases h), fun h => absurd h noModelS⟩)
  have HB11 : Hid (Below w.heap.size w W11) := HB9.out.trans (hb911.mono HB9.out.size)
  have HW11 := hid hW11
  have p6 := (hb10.block _ (Array.getElem?_eq_some_iff.1 HP6.out).1).trans HP6.out
  have t60 := cell_of_heap p6 0
  have t61 := cell_of_heap p6 1
  clear CK x20 x21 x40 x41 x60 x61 x90 x91 y3 y4 hb10 hB10 hW11 hb1011 hb911 p6
  go_wp2_with fail
  rw [← HB10.out]
  rw [← HW11.out]
  refine CN.out.mono ?_
  rintro e w12 ⟨rfl, hb12⟩
  have HB12 := hid (HB11.out.trans (hb12.mono HB11.out.size))
  clear CN hb12 t60 t61
  go_wp2
  go_ret
  exact ⟨rfl, HB12.out⟩
end Go.Proofs.Ytlebimolgienkaa
namespace Go.Proofs.Ytlebimolgienkaa
open Go.RowKit Go.Lib

/-- A model in a variable. -/
structure MC (w : World) (B : Nat) (k : Int) (a : Option Addr) (M cap : Nat) (Ss : List (List Int)) : Prop where
  c0 : w.cell? ⟨B, 0, none⟩ = some (.int .i64 k)
  c1 : w.cell? ⟨B, 1, none⟩ = some (.slice a M cap)
  at_ : LLAt w a Ss
theorem MC.on {w w' : World} {B : Nat} {k : Int} {a : Option Addr} {M cap : Nat} {Ss : List (List Int)} (h : MC w B k a M cap Ss) (hb : Below w.heap.size w w') : MC w' B k a M cap Ss :=
  ⟨(hb.cell (p := ⟨B, 0, none⟩) (block_lt_of_cell h.c0)).trans h.c0, (hb.cell (p := ⟨B, 1, none⟩) (block_lt_of_cell h.c1)).trans h.c1, h.at_.below hb⟩
theorem gc_new8 {w : World} {n : Int} {a : Option Addr} {N cap : Nat} {es : List (Int × Int)} (h : EAt w a es) : GC (w.alloc (.cells #[.int .i64 n, .slice a N cap] 26)) w.heap.size n a N cap es :=
  ⟨by rw [cell_of_heap (heap_alloc_new w _)]; rfl, by rw [cell_of_heap (heap_alloc_new w _)]; rfl, h.below (below_one _ _)⟩
end Go.Proofs.Ytlebimolgienkaa
