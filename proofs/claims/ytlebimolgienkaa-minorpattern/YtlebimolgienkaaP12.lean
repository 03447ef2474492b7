/-
  The program's allMeet: which two sets an edge leads between, told by a map.
  The program's patterns (H1).
  What follows of a route: its vertices' ways on are routes, it has no short cuts, turned round it is as long. No program is named here.
-/
import Derived.Test.YtlebimolgienkaaP11
import Derived.Maps.OwnOps
import Derived.Maps.Views
import Derived.DeepKeys4
import Derived.Lib.Walk
import Derived.BigQuiet
import Derived.Test.YtlebimolgienkaaP02
import Derived.Test.YtlebimolgienkaaP04
import Derived.Test.YtlebimolgienkaaP07
namespace Go.Proofs.Ytlebimolgienkaa
open Go.RowKit Go.Lib Go.Maps Go.WideMaps

theorem keyW : (match Try.prog.underlying 56 with | some (.array _ _) | some (.struct _) => true | _ => false) = true := by rw [Try.underlying56]
set_option maxRecDepth 100000 in
theorem keyE : Keyed Try.prog 56 := Keyed.of_law (deep_law_laid (by kernel_rfl) (m := 2) (by omega) (of_decide_eq_true (by kernel_rfl)) (by kernel_rfl) keyW)
theorem zeroB (w : World) : (zeroValue 4).run Try.prog w = .ok (.bool false) w := by kernel_rfl
/-- The key that an edge is. -/
def kE (a b : Int) : Lit := .string (keyBytes [.int .i64 a, .int .i64 b])
set_option maxRecDepth 100000 in
theorem key_edge {a b : Int} (wa : (Lit.int .i64 a).wf = true) (wb : (Lit.int .i64 b).wf = true) : keyOf Try.prog 56 (.agg #[.int .i64 a, .int .i64 b]) = some (kE a b) := by
  have hkt : Try.prog.keyType 56 = true := by kernel_rfl
  have hc : Try.prog.cellsOf 56 = 2 := by kernel_rfl
  have hci : Try.prog.cellsOf 3 = 1 := by kernel_rfl
  have hpos : 0 < Try.prog.types.size := of_decide_eq_true (by kernel_rfl)
  obtain ⟨m, hm⟩ : ∃ m, Try.prog.types.size = m + 1 := ⟨Try.prog.types.size - 1, by omega⟩
  unfold keyOf
  simp only [Try.underlying56]
  rw [if_pos (by simp [hkt, Value.formed, Try.underlying56, hc]), hm]
  unfold Program.keyLits
  simp only [Try.underlying56, Value.cells]
  rw [if_pos (by rw [hc]; exact ⟨rfl, by kernel_rfl⟩)]
  simp [hci, Program.keyLits, Try.underlying3, wa, wb, kE]
theorem key_ne {a b p q : Int} (wa : (Lit.int .i64 a).wf = true) (wb : (Lit.int .i64 b).wf = true) (wp : (Lit.int .i64 p).wf = true) (wq : (Lit.int .i64 q).wf = true) (h : (a, b) ≠ (p, q)) : kE a b ≠ kE p q := fun e => by
  have h1 := key_edge wa wb
  rw [e] at h1
  have := keyE.inj h1 (key_edge wp wq)
  simp at this
  exact h (by rw [this.1, this.2])
theorem plainElem_bool_inv {H : Type} {P : Program} {e : TypeId} (he : P.underlying e = some .bool) {v : Value} {z : DataW H × List MemPlace} (h : plainElem P e v = some z) : ∃ x, v = .bool x ∧ z = (.lit (.bool x), []) := by
  unfold plainElem at h
  rw [he] at h
  cases v <;> simp at h
  exact ⟨_, rfl, h.symm⟩
/-- A look-up of a truth in the call's own map. -/
theorem wpList_lookup_bool {H : Type} {P : Program} (w : World) {ops : Array Oper} {rest : List Oper} {o : Oper} {a : Act} {Q : Exit → Act → World → Prop}
    (hg : o.guard = none) (m x : Operand) (t : TypeId) (hop : o.op = Op.lookup t m x false)
    (k e : TypeId) (K : Keyed P k) (ht : P.underlying t = some (.map k e)) (he : P.underlying e = some .bool) (hz : (zeroValue e).run P w = .ok (.bool false) w) (b n : Nat) (D : DataW H)
    (hm : a.eval m = .map (some b)) (hown : w.ownsMap P k (plainElem P e) b n D) (key : Value) (kl : Lit) (hx : a.eval x = key) (hkey : keyOf P k key = some kl)
    (hK : ∀ c : Bool, D.atKey kl (.lit (.bool false)) = .lit (.bool c) → wpList P ops Q rest (a.put o.dst (.bool c)) w) :
    wpList P ops Q (o :: rest) a w := by
  refine wpList_plain hg fun K' hK' => ?_
  obtain ⟨v, ps, hrun, hv⟩ := hown.lookup K ht hz (plainElem_bool he false) hkey
  obtain ⟨c, rfl, hc⟩ := plainElem_bool_inv he hv
  simp only [Prod.mk.injEq] at hc
  unfold Oper.wp
  simp [execOp, hop, hm, hx, hrun, Result.andThen]
  exact hK' _ _ (hK c hc.1)
/-- A map that tells of each pair of numbers whether it stands in l. -/
def MetM (D : DataW Unit) (l : List (Int × Int)) : Prop := IsMap D ∧ ∀ a b : Int, (Lit.int .i64 a).wf = true → (Lit.int .i64 b).wf = true → D.atKey (kE a b) (.lit (.bool false)) = .lit (.bool (decide ((a, b) ∈ l)))
theorem metM_nil : MetM (.map []) [] := ⟨isMap_empty, fun _ _ _ _ => rfl⟩
theorem MetM.put {D : DataW Unit} {l : List (Int × Int)} (h : MetM D l) {p q : Int} (wp : (Lit.int .i64 p).wf = true) (wq : (Lit.int .i64 q).wf = true) : MetM (D.put (kE p q) (.lit (.bool true))) (l ++ [(p, q)]) := by
  refine ⟨h.1.put _ _, fun a b wa wb => ?_⟩
  by_cases e : (a, b) = (p, q)
  · cases e
    rw [atKey_put_same (k := kE p q) h.1 (show WideAt.IsKeyLit (kE p q) from trivial)]
    simp
  · rw [atKey_put_other (key_ne wa wb wp wq e), h.2 a b wa wb]
    congr 2
    simp [e]
theorem owns_below {P : Program} {k : TypeId} {R : Value → Option (DataW Unit × List MemPlace)} {w w' : World} {b n : Nat} {D : DataW Unit} (h : w.ownsMap P k R b n D) (hb : Below w.heap.size w w') : w'.ownsMap P k R b n D := by
  have hlt := h.lt
  obtain ⟨es, clock, h1, F, hs, hD⟩ := h
  exact ⟨es, clock, (hb.block b hlt).trans h1, F, hs, hD⟩

set_option maxHeartbeats 4000000 in
set_option maxRecDepth 100000 in
theorem notMet_any (B M n0 : Nat) (Dm : DataW Unit) (l : List (Int × Int)) (a b : Int) (w : World) (hc : w.cell? ⟨B, 0, none⟩ = some (.map (some M))) (hown : w.ownsMap Try.prog 56 (plainElem Try.prog 4) M n0 Dm) (hM : MetM Dm l) (wa : (Lit.int .i64 a).wf = true) (wb : (Lit.int .i64 b).wf = true) :
    Calls Try.prog 90 #[.agg #[.int .i64 a, .int .i64 b], .pointer (some ⟨B, 0, none⟩)] w fun e w' => e = .returned (.bool (!decide ((a, b) ∈ l))) ∧ Below w.heap.size w w' := by
  have o := heap_alloc_new w (.cells #[.int .i64 a, .int .i64 b] 56)
  have hb := below_one w (.cells #[.int .i64 a, .int .i64 b] 56)
  obtain ⟨W1, hW1⟩ := ex_eq (w.alloc (.cells #[.int .i64 a, .int .i64 b] 56))
  rw [← hW1] at o hb
  have c0 := cell_of_heap o 0
  have c1 := cell_of_heap o 1
  have m0 := (hb.cell (p := ⟨B, 0, none⟩) (block_lt_of_cell hc)).trans hc
  have HOWN := hid (owns_below hown hb)
  have HAT := hid (hM.2 a b wa wb)
  have HKEY := hid (key_edge wa wb)
  have HB := hid hb
  have HW1 := hid hW1
  obtain ⟨r, hr⟩ := ex_eq (decide ((a, b) ∈ l))
  rw [← hr] at HAT ⊢
  clear hc hown hM wa wb hb o hW1 hr
  go_enter Try.func90, Try.ntmps90
  go_upto_region 1 with fail
  rw [← HW1.out]
  go_wp2_with (at_lookup; refine wpList_lookup_bool _ rfl _ _ 113 rfl 56 4 keyE Try.underlying113 Try.underlying4 (zeroB _) M n0 _ rfl HOWN.out _ _ rfl HKEY.out ?_; intro c hat; obtain rfl : c = r := by { have := hat.symm.trans HAT.out; simpa using this })
  go_ret
  exact ⟨rfl, HB.out⟩
set_option maxHeartbeats 4000000 in
set_option maxRecDepth 100000 in
theorem metIndex_any (B M n0 : Nat) (Dm : DataW Unit) (l : List (Int × Int)) (pa : Option Addr) (pc : Nat) (ps : List (Int × Int)) (w : World) (hc : w.cell? ⟨B, 0, none⟩ = some (.map (some M))) (hown : w.ownsMap Try.prog 56 (plainElem Try.prog 4) M n0 Dm) (hM : MetM Dm l) (hL : ps.length ≤ 1000000) (hP : EAt w pa ps) (hw : ∀ p ∈ ps, (Lit.int .i64 p.1).wf = true ∧ (Lit.int .i64 p.2).wf = true) :
    Calls Try.prog 121 #[.slice pa ps.length pc, .func (.func 90) #[] #[.pointer (some ⟨B, 0, none⟩)]] w fun e w' => ∃ r : Int, e = .returned (.int .i64 r) ∧ (0 ≤ r ↔ ¬ ∀ p ∈ ps, p ∈ l) ∧ Below w.heap.size w w' := by
  obtain ⟨K, hK⟩ := ex_eq ps.length
  rw [← hK] at hL ⊢
  have HM := hid hK
  have HI := hid hP
  have HWF := hid hw
  have HC : Hid (∀ X a b, Below w.heap.size w X → (Lit.int .i64 a).wf = true → (Lit.int .i64 b).wf = true → Calls Try.prog 90 #[.agg #[.int .i64 a, .int .i64 b], .pointer (some ⟨B, 0, none⟩)] X fun e w' => e = .returned (.bool (!decide ((a, b) ∈ l))) ∧ Below X.heap.size X w') := fun X a b hX wa wb =>
    notMet_any B M n0 Dm l a b X ((hX.cell (p := ⟨B, 0, none⟩) (block_lt_of_cell hc)).trans hc) (owns_below hown hX) hM wa wb
  clear hK hP hc hown hM hw
  go_enter Try.func121, Try.ntmps121
  go_wp2
  go_loopg [8] K (fun Gh i wz => ∃ k : Nat, k ≤ K ∧ K - k ≤ Gh ∧ i = .int .i64 k ∧ Hid (∀ p ∈ ps.take k, p ∈ l) ∧ Hid (Below w.heap.size w wz))
  case atStart => exact ⟨0, Nat.zero_le _, by omega, rfl, (fun x hx => by simp at hx), Below.refl _ _⟩
  case round =>
    obtain ⟨k, hk, hGh, rfl, hin, hbr⟩ := hrel
    by_cases hlt : k < K
    · have hkr : k < ps.length := by rw [← HM.out]; exact hlt
      obtain ⟨g, off, rfl, hgl, hcs⟩ := HI.out (by omega)
      obtain ⟨d0, d1⟩ := hcs k hkr
      have d0 := (hbr.out.cell (p := ⟨g, off + k * 2, none⟩) hgl).trans d0
      have d1 := (hbr.out.cell (p := ⟨g, off + k * 2 + 1, none⟩) hgl).trans d1
      obtain ⟨wa, wb⟩ := HWF.out _ (List.getElem_mem hkr)
      obtain ⟨p, hp⟩ := ex_eq ps[k].1
      obtain ⟨q, hq⟩ := ex_eq ps[k].2
      rw [← hp] at d0 wa
      rw [← hq] at d1 wb
      have q1 : (k : Int) < (K : Int) := by omega
      have HX : Hid (ps[k] = (p, q)) := by show _ = _; rw [hp, hq]
      have HKR : Hid (k < ps.length) := hkr
      have C := hid (HC.out wr p q hbr.out wa wb)
      obtain ⟨r, hr⟩ := ex_eq (decide ((p, q) ∈ l))
      rw [← hr] at C
      have HR := hid hr
      clear hcs hr hp hq wa wb
      go_wp2_with fail
      refine C.out.mono ?_
      rintro e w2 ⟨rfl, hb2⟩
      have HB2 : Hid (Below w.heap.size w w2) := hbr.out.trans (hb2.mono hbr.out.size)
      clear hb2 C d0 d1
      cases r with
      | true =>
        have HNX : Hid (∀ p ∈ ps.take (k + 1), p ∈ l) := fun z hz => by
          rw [List.take_append_getElem HKR.out |>.symm] at hz
          rcases List.mem_append.1 hz with hz | hz
          · exact hin.out z hz
          · simp at hz; subst hz; rw [HX.out]; exact of_decide_eq_true HR.out.symm
        clear hin HX HR
        go_wp2
        go_roundg (K - (k + 1))
        case measure => omega
        case rel => exact ⟨k + 1, by omega, Nat.le_refl _, by go_num, HNX, HB2⟩
      | false =>
        have HNI : Hid (¬ ∀ p ∈ ps, p ∈ l) := fun h => by
          have := h _ (List.getElem_mem HKR.out)
          rw [HX.out] at this
          exact absurd this (of_decide_eq_false HR.out.symm)
        clear hin HX HR
        go_wp2
        go_ret
        exact ⟨_, rfl, ⟨fun _ => HNI.out, fun _ => by omega⟩, HB2.out⟩
    · obtain rfl : k = K := by omega
      have HIN : Hid (∀ p ∈ ps, p ∈ l) := by
        have := hin.out
        rw [HM.out, List.take_length] at this
        exact this
      clear hin
      go_wp2
      go_ret
      exact ⟨_, rfl, ⟨fun h => by omega, fun h => absurd HIN.out h⟩, hbr.out⟩
set_option maxHeartbeats 4000000 in
set_option maxRecDepth 100000 in
theorem metContains_any (B M n0 : Nat) (Dm : DataW Unit) (l : List (Int × Int)) (pa : Option Addr) (pc : Nat) (ps : List (Int × Int)) (u : Bool) (w : World) (hc : w.cell? ⟨B, 0, none⟩ = some (.map (some M))) (hown : w.ownsMap Try.prog 56 (plainElem Try.prog 4) M n0 Dm) (hM : MetM Dm l) (hL : ps.length ≤ 1000000) (hP : EAt w pa ps) (hw : ∀ p ∈ ps, (Lit.int .i64 p.1).wf = true ∧ (Lit.int .i64 p.2).wf = true) (hu : u = true ↔ ∀ p ∈ ps, p ∈ l) :
    Calls Try.prog 89 #[.slice pa ps.length pc, .func (.func 90) #[] #[.pointer (some ⟨B, 0, none⟩)]] w fun e w' => e = .returned (.bool (!u)) ∧ Below w.heap.size w w' := by
  have C := hid (metIndex_any B M n0 Dm l pa pc ps w hc hown hM hL hP hw)
  have HU := hid hu
  obtain ⟨K, hK⟩ := ex_eq ps.length
  rw [← hK] at C ⊢
  clear hu hP hc hown hM hw hK hL
  go_enter Try.func89, Try.ntmps89
  go_wp2_with fail
  refine C.out.mono ?_
  rintro e w2 ⟨r, rfl, hr, hb2⟩
  have HB := hid hb2
  have HR := hid hr
  clear C hr hb2
  by_cases h : 0 ≤ r
  · have e1 : decide (r ≥ 0) = true := decide_eq_true h
    have e2 : decide (0 ≤ r) = true := decide_eq_true h
    go_wp2
    go_ret
    refine ⟨?_, HB.out⟩
    cases u with
    | true => exact absurd (HU.out.1 rfl) (HR.out.1 h)
    | false => rfl
  · have e1 : decide (r ≥ 0) = false := decide_eq_false h
    have e2 : decide (0 ≤ r) = false := decide_eq_false h
    go_wp2
    go_ret
    refine ⟨?_, HB.out⟩
    cases u with
    | true => rfl
    | false => exact absurd (HR.out.2 (fun k => by have := HU.out.2 k; cases this)) (by omega)
theorem wf_min {a b : Int} (wa : (Lit.int .i64 a).wf = true) (wb : (Lit.int .i64 b).wf = true) : (Lit.int .i64 (min a b)).wf = true ∧ (Lit.int .i64 (max a b)).wf = true := by
  by_cases h : a ≤ b
  · rw [show min a b = a by omega, show max a b = b by omega]; exact ⟨wa, wb⟩
  · rw [show min a b = b by omega, show max a b = a by omega]; exact ⟨wb, wa⟩

set_option maxHeartbeats 4000000 in
set_option maxRecDepth 100000 in
theorem allMeet_any (n : Nat) (ea : Option Addr) (ec : Nat) (es : List (Int × Int)) (g : Nat) (D : Nat → Int) (pa : Option Addr) (pc : Nat) (ps : List (Int × Int)) (r : Bool) (w : World) (hN : es.length ≤ 1000000) (hin : ∀ e ∈ es, (0 ≤ e.1 ∧ e.1 < (n : Int)) ∧ (0 ≤ e.2 ∧ e.2 < (n : Int))) (hE : EAt w ea es) (hD : Row1 w g n D) (hDw : ∀ x, x < n → (Lit.int .i64 (D x)).wf = true)
    (hP : EAt w pa ps) (hpl : ps.length ≤ 1000000) (hpw : ∀ p ∈ ps, (Lit.int .i64 p.1).wf = true ∧ (Lit.int .i64 p.2).wf = true) (hr : r = true ↔ ∀ p ∈ ps, p ∈ es.map (metE (fun x => D x.toNat))) :
    Calls Try.prog 49 #[.slice ea es.length ec, .slice (some ⟨g, 0, none⟩) n n, .slice pa ps.length pc] w fun e w' => e = .returned (.bool r) ∧ Below w.heap.size w w' := by
  have hmm := @run_makeMap Try.prog
  obtain ⟨N, hNe⟩ := ex_eq es.length
  have HN := hid hNe
  have HE := hid hE
  have HIN := hid hin
  have HDR := hid hD
  have HDW := hid hDw
  obtain ⟨W1, hW1⟩ := ex_eq ((w.alloc (.map #[] 0)).alloc (.cells #[.map (some w.heap.size)] 113))
  have hb1 : Below w.heap.size w W1 := by rw [hW1]; exact ((Below.refl _ _).alloc (Nat.le_refl _) _).alloc (by simp) _
  have hs1 : W1.heap.size = w.heap.size + 2 := by rw [hW1]; simp
  have m0 : W1.cell? ⟨w.heap.size + 1, 0, none⟩ = some (.map (some w.heap.size)) := by
    have := cell_of_heap (heap_alloc_new (w.alloc (.map #[] 0)) (.cells #[.map (some w.heap.size)] 113)) 0
    rw [← hW1, World.size_alloc] at this
    exact this
  have HM0 : Hid (W1.ownsMap Try.prog 56 (plainElem Try.prog 4) w.heap.size 0 (.map [] : DataW Unit)) := by
    show World.ownsMap _ _ _ _ _ _ _
    rw [hW1]
    exact (World.ownsMap_made w _ _ _).alloc _
  have HCF : Hid (∀ X n0 Dm, Below w.heap.size w X → X.cell? ⟨w.heap.size + 1, 0, none⟩ = some (.map (some w.heap.size)) → X.ownsMap Try.prog 56 (plainElem Try.prog 4) w.heap.size n0 Dm → MetM Dm (es.map (metE (fun x => D x.toNat))) → Calls Try.prog 89 #[.slice pa ps.length pc, .func (.func 90) #[] #[.pointer (some ⟨w.heap.size + 1, 0, none⟩)]] X fun e w' => e = .returned (.bool (!r)) ∧ Below X.heap.size X w') := fun X n0 Dm hX hc ho hm =>
    metContains_any (w.heap.size + 1) w.heap.size n0 Dm _ pa pc ps r X hc ho hm hpl (hP.below hX) hpw hr
  obtain ⟨K, hK⟩ := ex_eq ps.length
  rw [← hK] at HCF ⊢
  have HW1 := hid hW1
  have HB1 := hid hb1
  have HM1 := hid m0
  rw [← hNe] at hN ⊢
  clear hNe hE hin hD hDw hW1 hb1 hP hpl hpw hr hK m0
  go_enter Try.func49, Try.ntmps49
  go_upto_region 2 with fail
  clear hmm
  rw [← HW1.out]
  go_wp2
  go_loopg [15] N (fun Gh i wz => ∃ (k n0 : Nat) (Dm : DataW Unit), k ≤ N ∧ N - k ≤ Gh ∧ i = .int .i64 k ∧ Hid (wz.ownsMap Try.prog 56 (plainElem Try.prog 4) w.heap.size n0 Dm ∧ n0 ≤ k ∧ MetM Dm ((es.take k).map (metE (fun x => D x.toNat)))) ∧ Hid (Below w.heap.size w wz) ∧ Hid (wz.cell? ⟨w.heap.size + 1, 0, none⟩ = some (.map (some w.heap.size)) ∧ w.heap.size + 2 ≤ wz.heap.size))
  case atStart => exact ⟨0, 0, .map [], Nat.zero_le _, by omega, rfl, ⟨HM0.out, Nat.le_refl _, metM_nil⟩, HB1.out, HM1.out, by omega⟩
  case round =>
    clear HM0
    obtain ⟨k, n0, Dm, hk, hGh, rfl, hM, hb, hmc⟩ := hrel
    by_cases hlt : k < N
    · have hkr : k < es.length := by rw [← HN.out]; exact hlt
      obtain ⟨ge, off, rfl, hge, hcs⟩ := HE.out (by omega)
      obtain ⟨x0, x1⟩ := hcs k hkr
      have d0 := (hb.out.cell (p := ⟨ge, off + k * 2, none⟩) hge).trans x0
      have d1 := (hb.out.cell (p := ⟨ge, off + k * 2 + 1, none⟩) hge).trans x1
      have hin := HIN.out _ (List.getElem_mem hkr)
      obtain ⟨p, hp⟩ : ∃ p : Nat, es[k].1 = (p : Int) := ⟨es[k].1.toNat, by omega⟩
      obtain ⟨q, hq⟩ : ∃ q : Nat, es[k].2 = (q : Int) := ⟨es[k].2.toNat, by omega⟩
      rw [hp] at d0
      rw [hq] at d1
      have hpn : p < n := by omega
      have hqn : q < n := by omega
      have q1 : (k : Int) < (N : Int) := by omega
      have q2 : (p : Int) < (n : Int) := by omega
      have q3 : (q : Int) < (n : Int) := by omega
      obtain ⟨W3, hW3⟩ := ex_eq (wr.alloc (.cells #[.int .i64 p, .int .i64 q] 56))
      have hb3 : Below wr.heap.size wr W3 := by rw [hW3]; exact below_one _ _
      have o3 := heap_alloc_new wr (.cells #[.int .i64 p, .int .i64 q] 56)
      rw [← hW3] at o3
      have e0 := cell_of_heap o3 0
      have e1 := cell_of_heap o3 1
      have hbw3 : Below w.heap.size w W3 := hb.out.trans (hb3.mono hb.out.size)
      obtain ⟨dp, hdp⟩ := ex_eq (D p)
      obtain ⟨dq, hdq⟩ := ex_eq (D q)
      have r0 := (hbw3.cell (p := ⟨g, p, none⟩) HDR.out.1).trans (HDR.out.2 p hpn).1
      have r1 := (hbw3.cell (p := ⟨g, q, none⟩) HDR.out.1).trans (HDR.out.2 q hqn).1
      rw [← hdp] at r0
      rw [← hdq] at r1
      have m3 := (hb3.cell (p := ⟨w.heap.size + 1, 0, none⟩) (by simp only; have := hmc.out.2; omega)).trans hmc.out.1
      have hww := wf_min (by rw [hdp]; exact HDW.out p hpn : (Lit.int .i64 dp).wf = true) (by rw [hdq]; exact HDW.out q hqn : (Lit.int .i64 dq).wf = true)
      have HKEY := hid (key_edge hww.1 hww.2)
      have HOWN : Hid (W3.ownsMap Try.prog 56 (plainElem Try.prog 4) w.heap.size n0 Dm) := owns_below hM.out.1 hb3
      have hn0 : n0 < 1000001 := by have := hM.out.2.1; omega
      have HPUT : Hid (MetM (Dm.put (kE (min dp dq) (max dp dq)) (.lit (.bool true))) ((es.take (k + 1)).map (metE (fun x => D x.toNat)))) := by
        have := hM.out.2.2.put hww.1 hww.2
        rw [← List.take_append_getElem hkr, List.map_append]
        have e : metE (fun x => D x.toNat) es[k] = (min dp dq, max dp dq) := by
          unfold metE
          rw [hp, hq, hdp, hdq]; rfl
        rw [List.map_singleton, e]
        exact this
      have HAFT : Hid (∀ w4 nq, (W3.drewN nq).grownBy w4 (some w.heap.size) → Below w.heap.size w w4 ∧ (w4.cell? ⟨w.heap.size + 1, 0, none⟩ = some (.map (some w.heap.size)) ∧ w.heap.size + 2 ≤ w4.heap.size)) := fun w4 nq hg => by
        have hbd : Below w.heap.size w (W3.drewN nq) := below_drewN hbw3 nq
        refine ⟨hbd.grown hg hbd.size (fun q hq => by cases hq; exact Nat.le_refl _), ?_, ?_⟩
        · have := hg.block (w.heap.size + 1) (block_lt_of_cell m3) (by simp)
          rw [World.cell?_of_block (w := W3.drewN nq) this]; exact m3
        · have h1 : W3.heap.size ≤ w4.heap.size := hg.size
          have h2 := hb3.size
          have h3 := hmc.out.2
          omega
      have HN0 : Hid (n0 + 1 ≤ k + 1) := Nat.succ_le_succ hM.out.2.1
      have HW3 := hid hW3
      clear hcs x0 x1 hin hp hq hW3 hb3 o3 hbw3 hdp hdq hww hM hb hmc hkr
      go_upto_region 5 with fail
      rw [← HW3.out]
      clear d0 d1
      go_quiet (fail)
      go_wp2_with (at_mapUpdate; refine wpList_mapUpdate_own _ rfl _ _ _ 113 rfl 56 4 keyE Try.underlying113 _ w.heap.size n0 _ rfl HOWN.out (by unfold maxLen; omega) _ _ _ rfl rfl HKEY.out _ [] (plainElem_bool Try.underlying4 true) ?_)
      intro w4 hown4 hgrow4
      obtain ⟨hb4, hm4⟩ := HAFT.out w4 _ hgrow4
      have HB4 := hid hb4
      have HM4 := hid hm4
      have HO4 : Hid (w4.ownsMap Try.prog 56 (plainElem Try.prog 4) w.heap.size (n0 + 1) (Dm.put (kE (min dp dq) (max dp dq)) (.lit (.bool true))) ∧ n0 + 1 ≤ k + 1 ∧ MetM (Dm.put (kE (min dp dq) (max dp dq)) (.lit (.bool true))) ((es.take (k + 1)).map (metE (fun x => D x.toNat)))) := ⟨hown4, HN0.out, HPUT.out⟩
      clear hb4 hm4 hown4 hgrow4 HAFT HPUT HN0 HOWN HKEY m3 r0 r1 e0 e1
      go_wp2
      go_roundg (N - (k + 1))
      case measure => omega
      case rel => exact ⟨k + 1, n0 + 1, _, by omega, Nat.le_refl _, by go_num, HO4, HB4, HM4⟩
    · obtain rfl : k = N := by omega
      have HMA : Hid (wr.ownsMap Try.prog 56 (plainElem Try.prog 4) w.heap.size n0 Dm ∧ MetM Dm (es.map (metE (fun x => D x.toNat)))) := by
        refine ⟨hM.out.1, ?_⟩
        have := hM.out.2.2
        rw [HN.out, List.take_length] at this
        exact this
      have m3 := hmc.out.1
      have CC := hid (HCF.out wr n0 Dm hb.out m3 HMA.out.1 HMA.out.2)
      clear hM hmc HMA HCF
      go_wp2_with fail
      refine CC.out.mono ?_
      rintro e w5 ⟨rfl, hb5⟩
      have HB5 : Hid (Below w.heap.size w w5) := hb.out.trans (hb5.mono hb.out.size)
      clear hb5 CC m3
      go_wp2
      go_ret
      exact ⟨by simp, HB5.out⟩
end Go.Proofs.Ytlebimolgienkaa
namespace Go.Proofs.Ytlebimolgienkaa
open Go.RowKit Go.Lib

/-- A graph that a call tells: its edges new, or none. -/
def PatAt (k : Int) (w w' : World) (v : Value) : Prop := ∃ a c, v = .agg #[.int .i64 (patN k : Nat), .slice a (patE k).length c] ∧ EAt w' a (patE k) ∧ Sl a c (patE k).length ∧ Below w.heap.size w w'
theorem pat_box {w : World} (x : Value) (es : List (Int × Int)) (cs : Array Value) (hcs : cs = (cellsE es).toArray) (y : Value) (o : Obj) :
    EAt ((((w.alloc o).setCell ⟨w.heap.size, 0, none⟩ x).setCell ⟨w.heap.size, 1, none⟩ y).alloc (.cells cs 56)) (some ⟨w.heap.size + 1, 0, none⟩) es ∧ Below w.heap.size w ((((w.alloc o).setCell ⟨w.heap.size, 0, none⟩ x).setCell ⟨w.heap.size, 1, none⟩ y).alloc (.cells cs 56)) := by
  have h := eat_new (((w.alloc o).setCell ⟨w.heap.size, 0, none⟩ x).setCell ⟨w.heap.size, 1, none⟩ y) es cs hcs
  rw [show (((w.alloc o).setCell ⟨w.heap.size, 0, none⟩ x).setCell ⟨w.heap.size, 1, none⟩ y).heap.size = w.heap.size + 1 by simp] at h
  refine ⟨h, ?_⟩
  exact (((((Below.refl w.heap.size w).alloc (Nat.le_refl _) o).setCell (p := ⟨w.heap.size, 0, none⟩) (by simp) x).setCell (p := ⟨w.heap.size, 1, none⟩) (by simp) y).alloc (by simp) _)

set_option maxHeartbeats 4000000 in
set_option maxRecDepth 100000 in
theorem pattern_any (k : Int) (w : World) :
    Calls Try.prog 27 #[.int .i64 k] w fun e w' => ∃ v, e = .returned v ∧ PatAt k w w' v := by
  have o := heap_alloc_new w (.cells #[.int .i64 0, .slice none 0 0] 26)
  obtain ⟨W0, hW0⟩ := ex_eq (w.alloc (.cells #[.int .i64 0, .slice none 0 0] 26))
  have hs : W0.heap.size = w.heap.size + 1 := by rw [hW0]; simp
  rw [← hW0] at o
  have z0 := cell_of_heap o 0
  have z1 := cell_of_heap o 1
  have zf0 := frozen_of_heap o 0
  have zf1 := frozen_of_heap o 1
  have hlt : w.heap.size < W0.heap.size := by omega
  have HW0 := hid hW0
  have HS := hid hs
  clear hW0 o
  by_cases h1 : k = 1
  · subst h1
    have HF : Hid (PatAt 1 w _ (.agg #[.int .i64 4, .slice (some ⟨w.heap.size + 1, 0, none⟩) 6 6])) := ⟨_, _, rfl, (pat_box (w := w) (.int .i64 4) (patE 1) #[.int .i64 0, .int .i64 1, .int .i64 0, .int .i64 2, .int .i64 0, .int .i64 3, .int .i64 1, .int .i64 2, .int .i64 1, .int .i64 3, .int .i64 2, .int .i64 3] rfl (.slice (some ⟨w.heap.size + 1, 0, none⟩) 6 6) (.cells #[.int .i64 0, .slice none 0 0] 26)).1, sl_some (by decide), (pat_box (w := w) (.int .i64 4) (patE 1) #[.int .i64 0, .int .i64 1, .int .i64 0, .int .i64 2, .int .i64 0, .int .i64 3, .int .i64 1, .int .i64 2, .int .i64 1, .int .i64 3, .int .i64 2, .int .i64 3] rfl (.slice (some ⟨w.heap.size + 1, 0, none⟩) 6 6) (.cells #[.int .i64 0, .slice none 0 0] 26)).2⟩
    rw [← HW0.out] at HF
    go_enter Try.func27, Try.ntmps27
    go_upto_region 1 with fail
    rw [← HW0.out]
    go_wp2
    refine bodyPost_ret (v := .agg #[.int .i64 4, .slice (some ⟨w.heap.size + 1, 0, none⟩) 6 6]) ?_ rfl ⟨_, rfl, ?_⟩
    · rw [results_cell1 rfl]; go_simp
    · exact HF.out
  · have b1 : (k == 1) = false := by simp [h1]
    by_cases h2 : k = 2
    · subst h2
      have HF : Hid (PatAt 2 w _ (.agg #[.int .i64 5, .slice (some ⟨w.heap.size + 1, 0, none⟩) 6 6])) := ⟨_, _, rfl, (pat_box (w := w) (.int .i64 5) (patE 2) #[.int .i64 0, .int .i64 2, .int .i64 0, .int .i64 3, .int .i64 0, .int .i64 4, .int .i64 1, .int .i64 2, .int .i64 1, .int .i64 3, .int .i64 1, .int .i64 4] rfl (.slice (some ⟨w.heap.size + 1, 0, none⟩) 6 6) (.cells #[.int .i64 0, .slice none 0 0] 26)).1, sl_some (by decide), (pat_box (w := w) (.int .i64 5) (patE 2) #[.int .i64 0, .int .i64 2, .int .i64 0, .int .i64 3, .int .i64 0, .int .i64 4, .int .i64 1, .int .i64 2, .int .i64 1, .int .i64 3, .int .i64 1, .int .i64 4] rfl (.slice (some ⟨w.heap.size + 1, 0, none⟩) 6 6) (.cells #[.int .i64 0, .slice none 0 0] 26)).2⟩
      rw [← HW0.out] at HF
      go_enter Try.func27, Try.ntmps27
      go_upto_region 1 with fail
      rw [← HW0.out]
      go_wp2
      refine bodyPost_ret (v := .agg #[.int .i64 5, .slice (some ⟨w.heap.size + 1, 0, none⟩) 6 6]) ?_ rfl ⟨_, rfl, ?_⟩
      · rw [results_cell1 rfl]; go_simp
      · exact HF.out
    · have b2 : (k == 2) = false := by simp [h2]
      have e1 : patN k = 0 := patN_none (fun h => h.elim h1 h2)
      have e2 : patE k = [] := by unfold patE; rw [if_neg h1, if_neg h2]
      have HF : Hid (PatAt k w ((W0.setCell ⟨w.heap.size, 0, none⟩ (.int .i64 0)).setCell ⟨w.heap.size, 1, none⟩ (.slice none 0 0)) (.agg #[.int .i64 0, .slice none 0 0])) := by
        refine ⟨none, 0, by rw [e1, e2]; rfl, by rw [e2]; exact eat_nil _ _, by rw [e2]; exact sl_nil, ?_⟩
        rw [HW0.out]
        exact ((((Below.refl w.heap.size w).alloc (Nat.le_refl _) _).setCell (p := ⟨w.heap.size, 0, none⟩) (by simp) _).setCell (p := ⟨w.heap.size, 1, none⟩) (by simp) _)
      clear e1 e2
      go_enter Try.func27, Try.ntmps27
      go_upto_region 1 with fail
      rw [← HW0.out]
      go_wp2
      refine bodyPost_ret (v := .agg #[.int .i64 0, .slice none 0 0]) ?_ rfl ⟨_, rfl, HF.out⟩
      rw [results_cell1 rfl]; go_simp
end Go.Proofs.Ytlebimolgienkaa
namespace Go.Proofs.Ytlebimolgienkaa

theorem Way.in {n : Int} {es : List (Int × Int)} {a b : Int} {away p : List Int} (h : Way n es a b away p) : ∀ z ∈ p, (0 ≤ z ∧ z < n) ∧ z ∉ away := fun z hz => ⟨h.path.inn z hz, h.off z hz⟩
theorem Way.reverse {n : Int} {es : List (Int × Int)} {a b : Int} {away p : List Int} (h : Way n es a b away p) : Way n es b a away p.reverse :=
  ⟨h.path.reverse, by rw [List.head?_reverse]; exact h.last, by rw [List.getLast?_reverse]; exact h.first, fun z hz => h.off z (List.mem_reverse.1 hz)⟩
end Go.Proofs.Ytlebimolgienkaa
